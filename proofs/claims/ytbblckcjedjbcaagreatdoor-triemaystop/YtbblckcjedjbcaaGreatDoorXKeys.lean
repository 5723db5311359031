/-
  trie: the names of a node's kids, in their order.
-/
import Derived.Test.YtbblckcjedjbcaaGreatDoorXOf
import Derived.Test.YtbblckcjedjbcaaGreatDoorShelfG
import Derived.Shelf.SlSortCmp.Whole1
import Derived.Shelf.SlIter.Nil
import Derived.Sort.OwnSorted
import Derived.Sort.KeysCollected
namespace Go.Proofs.YtbblckcjedjbcaaGreatDoor
open Go.RowKit Go.Maps Go.Sort Go.Shelf
set_option linter.unusedVariables false

/-- No more of a text than a place may have. -/
def cl (l : List UInt8) : List UInt8 := l.take 1000
def encC (l : List UInt8) : Value := encStr (cl l)
def cfC (x y : List UInt8) : Int := ordL (cl x) (cl y)
theorem cl_id {l : List UInt8} (h : l.length ≤ 1000) : cl l = l := List.take_of_length_le h

theorem lt_iff (x y : List UInt8) : ltOf cfC x y = true ↔ ordL (cl x) (cl y) = -1 := by
  unfold ltOf cfC
  rcases ordL_range (cl x) (cl y) with h | h | h <;> simp [h]
theorem swoC : SWO (ltOf cfC) where
  irrefl x := by
    cases h : ltOf cfC x x with
    | false => rfl
    | true => rw [lt_iff, ordL_self] at h; cases h
  trans x y z h1 h2 := by
    rw [lt_iff] at *
    exact ordL_trans _ _ _ h1 h2
  ntrans x y z h1 h2 := by
    cases h : ltOf cfC x z with
    | false => rfl
    | true =>
      rw [lt_iff] at h
      have g1 : ¬ ordL (cl x) (cl y) = -1 := fun e => by rw [(lt_iff x y).2 e] at h1; cases h1
      have g2 : ¬ ordL (cl y) (cl z) = -1 := fun e => by rw [(lt_iff y z).2 e] at h2; cases h2
      exfalso
      rcases ordL_range (cl x) (cl y) with e | e | e
      · exact g1 e
      · have := ordL_zero _ _ e
        rw [this] at h
        exact g2 h
      · have e' : ordL (cl y) (cl x) = -1 := by rw [ordL_anti, e]
        exact g2 (ordL_trans _ _ _ e' h)

theorem cmpC (blk off size : Nat) (w : World) : CmpReads Tryz.prog 12 #[] encC cfC blk off size w := by
  intro m os dk _ x y
  have hs : ∀ l : List UInt8, (⟨(cl l).toArray⟩ : ByteArray).size ≤ maxLen := fun l => by
    have : (cl l).length ≤ 1000 := List.length_take_le _ _
    show (cl l).toArray.size ≤ maxLen
    unfold maxLen
    simp
    omega
  have h := order_O ⟨(cl x).toArray⟩ ⟨(cl y).toArray⟩ (hs x) (hs y) (sortWorld encC w blk off m dk os)
  rw [O_list] at h
  exact h

theorem putC {w : World} {g n : Nat} {os : Array Obj} {ts : List (List UInt8)} (h : ∀ l ∈ ts, l.length ≤ 1000) : sortWorld encC w g 0 n ts.toArray os = grow (putRow encStr (Sort.ahead w n) g 0 ts.toArray) os := by
  unfold sortWorld putRow
  congr 1
  congr 1
  funext c
  unfold putCells
  congr 1
  funext k x
  split
  · rename_i hk
    have hk' : k < ts.length := by simpa using hk.2
    have e : ts.toArray[k - 0]! = ts[k] := by simp [hk']
    rw [e]
    show encStr (cl ts[k]) = encStr ts[k]
    rw [cl_id (h _ (List.getElem_mem hk'))]
  · rfl

abbrev seqX (B : Nat) : Value := .func (.func 103) #[] #[.pointer (some ⟨B, 0, none⟩)]
theorem keysX (mb : Option Nat) (w : World) :
    Calls Tryz.prog 69 #[.map mb] w fun e w' => e = .returned (seqX w.heap.size) ∧ w' = w.alloc (.cells #[.map mb] 74) :=
  (callsIn_wide (n := 5)).1 (AnyZ.keys_in Tryz.keysM Fence.wide 5 trivial rfl mb w)
/-- The names of the kids as bytes. -/
def kidsB (D : List Way) (p : Way) : List (List UInt8) := (kidsOf D p).map (fun n => n.data.toList)
theorem appSeqX (B : Nat) (m : Option Nat) (p : Way) (D : List Way) (β : Way → Nat) (w : World) (hB : B < w.heap.size) (hc : w.cell? ⟨B, 0, none⟩ = some (.map m)) (hk : KidsAt w m p D β) (hd : D.Nodup) (hn : D.length ≤ 100000) :
    Calls Tryz.prog 123 #[.slice none 0 0, seqX B] w fun e w' => ∃ (v : Value) (ss : List (List UInt8)), e = .returned v ∧ ss.Perm (kidsB D p) ∧ w'.ownsRow w.heap.size 9 1 v ss.length (ss.map encStr) ∧ (v = .slice none 0 0 ↔ ss = []) ∧ Below w.heap.size w w' := by
  rcases hk with ⟨rfl, h2⟩ | ⟨b, Dm, rfl, h2, h3⟩
  · have e : kidsB D p = [] := by
      unfold kidsB
      rw [List.map_eq_nil_iff, List.eq_nil_iff_forall_not_mem]
      intro n hn
      exact h2 n (kids_mem.1 hn)
    rw [e]
    refine ((callsIn_wide (n := 5)).1 (AnyZ.appendSeq_in Tryz.appSeq Fence.wide 5 trivial rfl (by omega) 103 #[.pointer (some ⟨B, 0, none⟩)] trivial (enters_of Tryz.func103 (by kernel_rfl) rfl) (fun ss => ss = []) 0 (by unfold maxLen; omega) (by omega) w
      (AnyZ.keys_gives_nil (ρ := Tryz.keysI_ren) Tryz.keysI Fence.wide 4 trivial rfl B w hB hc))).mono ?_
    rintro e w' ⟨v, ss, h1, h2, h3⟩
    exact ⟨v, ss, h1, by rw [h2], h3⟩
  · have hsz : Maps.size Dm ≤ 100000 := by rw [h3.size hd]; have := kids_len D p; omega
    refine ((callsIn_wide (n := 5)).1 (AnyZ.appendSeq_in Tryz.appSeq Fence.wide 5 trivial rfl (by omega) 103 #[.pointer (some ⟨B, 0, none⟩)] trivial (enters_of Tryz.func103 (by kernel_rfl) rfl) (fun ss => ss.Perm (strKeys Dm)) (Maps.size Dm) (by unfold maxLen; omega) (by omega) w
      (AnyZ.keys_gives (ρ := Tryz.keysI_ren) Tryz.keysI Fence.wide 4 trivial rfl (by omega) B b _ Dm w hB hc h2))).mono ?_
    rintro e w' ⟨v, ss, h1, h4, h5⟩
    exact ⟨v, ss, h1, h4.trans (h3.keys hd).symm, h5⟩
set_option maxHeartbeats 1000000 in
theorem collectX (B : Nat) (m : Option Nat) (p : Way) (D : List Way) (β : Way → Nat) (w : World) (hB : B < w.heap.size) (hc : w.cell? ⟨B, 0, none⟩ = some (.map m)) (hk : KidsAt w m p D β) (hd : D.Nodup) (hn : D.length ≤ 100000) :
    Calls Tryz.prog 101 #[seqX B] w fun e w' => ∃ (v : Value) (ss : List (List UInt8)), e = .returned v ∧ ss.Perm (kidsB D p) ∧ w'.ownsRow w.heap.size 9 1 v ss.length (ss.map encStr) ∧ (v = .slice none 0 0 ↔ ss = []) ∧ Below w.heap.size w w' := by
  have HA : Hid _ := appSeqX B m p D β w hB hc hk hd hn
  clear hB hc hk hd hn
  go_enter Tryz.func101, Tryz.ntmps101
  go_wp2_with (first | (go_at_call 123; refine Calls.mono HA.out ?_; rintro e w1 ⟨v, ss, rfl, hp, hr, hnil, hb⟩) | fail)
  go_ret
  exact ⟨v, ss, rfl, hp, hr, hnil, hb⟩
set_option maxHeartbeats 4000000 in
set_option maxRecDepth 100000 in
theorem sortNilS (w : World) :
    Calls Tryz.prog 102 #[.slice none 0 0, .func (.func 12) #[] #[]] w fun e w' => e = .returned (.tuple #[]) ∧ Below w.heap.size w w' := by
  go_enter Tryz.func102, Tryz.ntmps102
  go_wp2_with (first | go_in | fail)
  refine wp_loop_rounds 1 ?_
  rw [rounds_succ]
  go_wp2_with (first | go_in | fail)
  refine wp_loop_rounds 1 ?_
  rw [rounds_succ]
  go_wp2_with (first | go_in | fail)
  go_end0
  simp only []
  go_wp2_with (first | go_in | fail)
  refine bodyPost_ret (results_none rfl _ _ _) rfl ?_
  simp only []
  go_wp2_with (first | go_in | fail)
  go_end0
  exact ⟨rfl, Below.refl _ _⟩
/-- In the order of places. -/
def AscX (ts : List (List UInt8)) : Prop := ts.Pairwise (fun x y => ordL x y ≠ 1)
set_option maxHeartbeats 4000000 in
theorem sortedX (B : Nat) (m : Option Nat) (p : Way) (D : List Way) (β : Way → Nat) (w : World) (hB : B < w.heap.size) (hc : w.cell? ⟨B, 0, none⟩ = some (.map m)) (hk : KidsAt w m p D β) (hd : D.Nodup) (hn : D.length ≤ 100000) (hsm : ∀ l ∈ kidsB D p, l.length ≤ 1000) :
    Calls Tryz.prog 68 #[seqX B, .func (.func 12) #[] #[]] w fun e w' => ∃ (v : Value) (ts : List (List UInt8)), e = .returned v ∧ ts.Perm (kidsB D p) ∧ AscX ts ∧ w'.ownsRow w.heap.size 9 1 v ts.length (ts.map encStr) ∧ Below w.heap.size w w' := by
  have HA : Hid _ := collectX B m p D β w hB hc hk hd hn
  have HK : Hid _ := hsm
  have HN : Hid ((kidsB D p).length ≤ 100000) := by
    show _ ≤ _
    unfold kidsB
    rw [List.length_map]
    have := kids_len D p
    omega
  clear hB hc hk hd hn hsm
  go_enter Tryz.func68, Tryz.ntmps68
  go_wp2_with fail
  refine Calls.mono HA.out ?_
  rintro e w1 ⟨v, ss, rfl, hp, hr, hnil, hb⟩
  have hss : ∀ l ∈ ss, l.length ≤ 1000 := fun l hl => HK.out l (hp.mem_iff.1 hl)
  have hlen : ss.length ≤ 100000 := by rw [hp.length_eq]; exact HN.out
  rcases hr.2 with ⟨hv, _⟩ | ⟨g, cap, cur, hv, hbase, hb', h1, h2, h3, h4⟩
  · have h5 := hnil.1 hv
    subst h5
    subst hv
    have HR : Hid (Go.RowKit.Below w.heap.size w w1) := hb
    have HP : Hid _ := hp
    clear hr hnil hb hss hp hlen
    go_wp2_with (first | (go_at_call 102; refine (sortNilS w1).mono ?_; rintro e w2 ⟨rfl, hb2⟩; (have HB2 : Hid _ := hb2); clear hb2) | fail)
    go_ret
    exact ⟨_, [], rfl, HP.out, List.Pairwise.nil, World.ownsRow_nil _ _ _ _, xtrans2 HR.out HB2.out⟩
  · subst hv
    have hH : Holds encC w1 g 0 ss.toArray := fun j hj => by
      have h := holds_of_block hb' (by simpa using h4) j hj
      have hj' : j < ss.length := by simpa using hj
      have e : ss.toArray[j]! = ss[j] := by simp [hj']
      refine ⟨?_, h.2⟩
      rw [h.1, e]
      show some (encStr ss[j]) = some (encStr (cl ss[j]))
      rw [cl_id (hss _ (List.getElem_mem hj'))]
    have hcon := Any.slices_SortFunc Tryz.sortF encC (fun _ => rfl) cfC swoC 12 #[] g 0 cap ss.toArray w1 (enters_of Tryz.func12 (by kernel_rfl) rfl) (cmpC g 0 ss.toArray.size w1).lays hH (Array.getElem?_eq_some_iff.1 hb').1 (by simp; omega)
    have HCON : Hid (Calls Tryz.prog 102 #[.slice (some ⟨g, 0, none⟩) ss.length cap, .func (.func 12) #[] #[]] w1 fun e w' => e = .returned (.tuple #[]) ∧ ∃ d' n os, PermIn 0 ss.toArray.size ss.toArray d' ∧ SortedIn (ltOf cfC) 0 ss.toArray.size d' ∧ w' = sortWorld encC w1 g 0 n d' os) := hcon
    have HR : Hid (Go.RowKit.Below w.heap.size w w1) := hb
    have HS : Hid _ := hss
    have HP : Hid _ := hp
    have HX : Hid (w.heap.size ≤ g ∧ w1.heap[g]? = some (.cells cur 9 (0, 0)) ∧ ss.length ≤ cap ∧ cap ≤ maxLen ∧ cur.size = cap * 1) := ⟨hbase, hb', h1, h2, h3⟩
    clear hcon hH hr hnil hb hss hp hbase hb' h1 h2 h3 h4 hlen
    go_wp2_with (first | (go_at_call 102; refine Calls.mono HCON.out ?_; rintro e w2 ⟨rfl, d', nn, os, hpm, hso, rfl⟩) | fail)
    obtain ⟨ts, rfl⟩ : ∃ ts : List (List UInt8), d' = ts.toArray := ⟨d'.toList, by simp⟩
    have hl : ts.length = ss.length := by simpa using hpm.1
    have hpp : ts.Perm ss := by
      have := hpm.2.2
      simpa [hl, List.take_of_length_le] using this
    have hts : ∀ l ∈ ts, l.length ≤ 1000 := fun l h => HS.out l (hpp.mem_iff.1 h)
    rw [putC hts]
    go_ret
    refine ⟨_, ts, (by rw [← hl] <;> rfl), hpp.trans HP.out, ?_, ?_, HR.out.grown (grownBy_sorted _) HR.out.size (fun j hj => by cases hj; exact HX.out.1)⟩
    · unfold AscX
      rw [List.pairwise_iff_getElem]
      intro i j hi hj hij e
      have hs := hso i j (Nat.zero_le _) hij (by simp; omega)
      have e1 : ts.toArray[j]! = ts[j] := by simp [hj]
      have e2 : ts.toArray[i]! = ts[i] := by simp [hi]
      rw [e1, e2] at hs
      have : ltOf cfC ts[j] ts[i] = true := by
        rw [lt_iff, cl_id (hts _ (List.getElem_mem hj)), cl_id (hts _ (List.getElem_mem hi)), ordL_anti, e]
      rw [this] at hs
      cases hs
    · have := ownsRow_sorted (n := nn) (os := os) hl HX.out.1 HX.out.2.1 HX.out.2.2.1 HX.out.2.2.2.1 HX.out.2.2.2.2
      rw [hl]
      exact this
end Go.Proofs.YtbblckcjedjbcaaGreatDoor
