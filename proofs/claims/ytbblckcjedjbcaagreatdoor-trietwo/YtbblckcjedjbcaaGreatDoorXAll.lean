import Derived.Test.YtbblckcjedjbcaaGreatDoorXOf
import Derived.Test.YtbblckcjedjbcaaGreatDoorShelfG
import Derived.Shelf.SlSortCmp.Whole1
import Derived.Shelf.SlIter.Nil
import Derived.Sort.OwnSorted
import Derived.Sort.KeysCollected
namespace Go.Proofs.YtbblckcjedjbcaaGreatDoor
open Go.RowKit Go.Maps Go.Sort Go.Shelf
set_option linter.unusedVariables false

/-- No more of a text than a place may have. -/
def cl (l : List UInt8) : List UInt8 := l.take 1000
def encC (l : List UInt8) : Value := encStr (cl l)
def cfC (x y : List UInt8) : Int := ordL (cl x) (cl y)
theorem cl_id {l : List UInt8} (h : l.length ≤ 1000) : cl l = l := List.take_of_length_le h

theorem lt_iff (x y : List UInt8) : ltOf cfC x y = true ↔ ordL (cl x) (cl y) = -1 := by
  unfold ltOf cfC
  rcases ordL_range (cl x) (cl y) with h | h | h <;> simp [h]
theorem swoC : SWO (ltOf cfC) where
  irrefl x := by
    cases h : ltOf cfC x x with
    | false => rfl
    | true => rw [lt_iff, ordL_self] at h; cases h
  trans x y z h1 h2 := by
    rw [lt_iff] at *
    exact ordL_trans _ _ _ h1 h2
  ntrans x y z h1 h2 := by
    cases h : ltOf cfC x z with
    | false => rfl
    | true =>
      rw [lt_iff] at h
      have g1 : ¬ ordL (cl x) (cl y) = -1 := fun e => by rw [(lt_iff x y).2 e] at h1; cases h1
      have g2 : ¬ ordL (cl y) (cl z) = -1 := fun e => by rw [(lt_iff y z).2 e] at h2; cases h2
      exfalso
      rcases ordL_range (cl x) (cl y) with e | e | e
      · exact g1 e
      · have := ordL_zero _ _ e
        rw [this] at h
        exact g2 h
      · have e' : ordL (cl y) (cl x) = -1 := by rw [ordL_anti, e]
        exact g2 (ordL_trans _ _ _ e' h)

theorem cmpC (blk off size : Nat) (w : World) : CmpReads Tryz.prog 12 #[] encC cfC blk off size w := by
  intro m os dk _ x y
  have hs : ∀ l : List UInt8, (⟨(cl l).toArray⟩ : ByteArray).size ≤ maxLen := fun l => by
    have : (cl l).length ≤ 1000 := List.length_take_le _ _
    show (cl l).toArray.size ≤ maxLen
    unfold maxLen
    simp
    omega
  have h := order_O ⟨(cl x).toArray⟩ ⟨(cl y).toArray⟩ (hs x) (hs y) (sortWorld encC w blk off m dk os)
  rw [O_list] at h
  exact h

theorem putC {w : World} {g n : Nat} {os : Array Obj} {ts : List (List UInt8)} (h : ∀ l ∈ ts, l.length ≤ 1000) : sortWorld encC w g 0 n ts.toArray os = grow (putRow encStr (Sort.ahead w n) g 0 ts.toArray) os := by
  unfold sortWorld putRow
  congr 1
  congr 1
  funext c
  unfold putCells
  congr 1
  funext k x
  split
  · rename_i hk
    have hk' : k < ts.length := by simpa using hk.2
    have e : ts.toArray[k - 0]! = ts[k] := by simp [hk']
    rw [e]
    show encStr (cl ts[k]) = encStr ts[k]
    rw [cl_id (h _ (List.getElem_mem hk'))]
  · rfl

abbrev seqX (B : Nat) : Value := .func (.func 103) #[] #[.pointer (some ⟨B, 0, none⟩)]
theorem keysX (mb : Option Nat) (w : World) :
    Calls Tryz.prog 69 #[.map mb] w fun e w' => e = .returned (seqX w.heap.size) ∧ w' = w.alloc (.cells #[.map mb] 74) :=
  (callsIn_wide (n := 5)).1 (AnyZ.keys_in Tryz.keysM Fence.wide 5 trivial rfl mb w)
/-- The names of the kids as bytes. -/
def kidsB (D : List Way) (p : Way) : List (List UInt8) := (kidsOf D p).map (fun n => n.data.toList)
theorem appSeqX (B : Nat) (m : Option Nat) (p : Way) (D : List Way) (β : Way → Nat) (w : World) (hB : B < w.heap.size) (hc : w.cell? ⟨B, 0, none⟩ = some (.map m)) (hk : KidsAt w m p D β) (hd : D.Nodup) (hn : D.length ≤ 100000) :
    Calls Tryz.prog 123 #[.slice none 0 0, seqX B] w fun e w' => ∃ (v : Value) (ss : List (List UInt8)), e = .returned v ∧ ss.Perm (kidsB D p) ∧ w'.ownsRow w.heap.size 9 1 v ss.length (ss.map encStr) ∧ (v = .slice none 0 0 ↔ ss = []) ∧ Below w.heap.size w w' := by
  rcases hk with ⟨rfl, h2⟩ | ⟨b, Dm, rfl, h2, h3⟩
  · have e : kidsB D p = [] := by
      unfold kidsB
      rw [List.map_eq_nil_iff, List.eq_nil_iff_forall_not_mem]
      intro n hn
      exact h2 n (kids_mem.1 hn)
    rw [e]
    refine ((callsIn_wide (n := 5)).1 (AnyZ.appendSeq_in Tryz.appSeq Fence.wide 5 trivial rfl (by omega) 103 #[.pointer (some ⟨B, 0, none⟩)] trivial (enters_of Tryz.func103 (by kernel_rfl) rfl) (fun ss => ss = []) 0 (by unfold maxLen; omega) (by omega) w
      (AnyZ.keys_gives_nil (ρ := Tryz.keysI_ren) Tryz.keysI Fence.wide 4 trivial rfl B w hB hc))).mono ?_
    rintro e w' ⟨v, ss, h1, h2, h3⟩
    exact ⟨v, ss, h1, by rw [h2], h3⟩
  · have hsz : Maps.size Dm ≤ 100000 := by rw [h3.size hd]; have := kids_len D p; omega
    refine ((callsIn_wide (n := 5)).1 (AnyZ.appendSeq_in Tryz.appSeq Fence.wide 5 trivial rfl (by omega) 103 #[.pointer (some ⟨B, 0, none⟩)] trivial (enters_of Tryz.func103 (by kernel_rfl) rfl) (fun ss => ss.Perm (strKeys Dm)) (Maps.size Dm) (by unfold maxLen; omega) (by omega) w
      (AnyZ.keys_gives (ρ := Tryz.keysI_ren) Tryz.keysI Fence.wide 4 trivial rfl (by omega) B b _ Dm w hB hc h2))).mono ?_
    rintro e w' ⟨v, ss, h1, h4, h5⟩
    exact ⟨v, ss, h1, h4.trans (h3.keys hd).symm, h5⟩
set_option maxHeartbeats 1000000 in
theorem collectX (B : Nat) (m : Option Nat) (p : Way) (D : List Way) (β : Way → Nat) (w : World) (hB : B < w.heap.size) (hc : w.cell? ⟨B, 0, none⟩ = some (.map m)) (hk : KidsAt w m p D β) (hd : D.Nodup) (hn : D.length ≤ 100000) :
    Calls Tryz.prog 101 #[seqX B] w fun e w' => ∃ (v : Value) (ss : List (List UInt8)), e = .returned v ∧ ss.Perm (kidsB D p) ∧ w'.ownsRow w.heap.size 9 1 v ss.length (ss.map encStr) ∧ (v = .slice none 0 0 ↔ ss = []) ∧ Below w.heap.size w w' := by
  have HA : Hid _ := appSeqX B m p D β w hB hc hk hd hn
  clear hB hc hk hd hn
  go_enter Tryz.func101, Tryz.ntmps101
  go_wp2_with (first | (go_at_call 123; refine Calls.mono HA.out ?_; rintro e w1 ⟨v, ss, rfl, hp, hr, hnil, hb⟩) | fail)
  go_ret
  exact ⟨v, ss, rfl, hp, hr, hnil, hb⟩
set_option maxHeartbeats 4000000 in
set_option maxRecDepth 100000 in
theorem sortNilS (w : World) :
    Calls Tryz.prog 102 #[.slice none 0 0, .func (.func 12) #[] #[]] w fun e w' => e = .returned (.tuple #[]) ∧ Below w.heap.size w w' := by
  go_enter Tryz.func102, Tryz.ntmps102
  go_wp2_with (first | go_in | fail)
  refine wp_loop_rounds 1 ?_
  rw [rounds_succ]
  go_wp2_with (first | go_in | fail)
  refine wp_loop_rounds 1 ?_
  rw [rounds_succ]
  go_wp2_with (first | go_in | fail)
  go_end0
  simp only []
  go_wp2_with (first | go_in | fail)
  refine bodyPost_ret (results_none rfl _ _ _) rfl ?_
  simp only []
  go_wp2_with (first | go_in | fail)
  go_end0
  exact ⟨rfl, Below.refl _ _⟩
/-- In the order of places. -/
def AscX (ts : List (List UInt8)) : Prop := ts.Pairwise (fun x y => ordL x y ≠ 1)
set_option maxHeartbeats 4000000 in
theorem sortedX (B : Nat) (m : Option Nat) (p : Way) (D : List Way) (β : Way → Nat) (w : World) (hB : B < w.heap.size) (hc : w.cell? ⟨B, 0, none⟩ = some (.map m)) (hk : KidsAt w m p D β) (hd : D.Nodup) (hn : D.length ≤ 100000) (hsm : ∀ l ∈ kidsB D p, l.length ≤ 1000) :
    Calls Tryz.prog 68 #[seqX B, .func (.func 12) #[] #[]] w fun e w' => ∃ (v : Value) (ts : List (List UInt8)), e = .returned v ∧ ts.Perm (kidsB D p) ∧ AscX ts ∧ w'.ownsRow w.heap.size 9 1 v ts.length (ts.map encStr) ∧ Below w.heap.size w w' := by
  have HA : Hid _ := collectX B m p D β w hB hc hk hd hn
  have HK : Hid _ := hsm
  have HN : Hid ((kidsB D p).length ≤ 100000) := by
    show _ ≤ _
    unfold kidsB
    rw [List.length_map]
    have := kids_len D p
    omega
  clear hB hc hk hd hn hsm
  go_enter Tryz.func68, Tryz.ntmps68
  go_wp2_with fail
  refine Calls.mono HA.out ?_
  rintro e w1 ⟨v, ss, rfl, hp, hr, hnil, hb⟩
  have hss : ∀ l ∈ ss, l.length ≤ 1000 := fun l hl => HK.out l (hp.mem_iff.1 hl)
  have hlen : ss.length ≤ 100000 := by rw [hp.length_eq]; exact HN.out
  rcases hr.2 with ⟨hv, _⟩ | ⟨g, cap, cur, hv, hbase, hb', h1, h2, h3, h4⟩
  · have h5 := hnil.1 hv
    subst h5
    subst hv
    have HR : Hid (Go.RowKit.Below w.heap.size w w1) := hb
    have HP : Hid _ := hp
    clear hr hnil hb hss hp hlen
    go_wp2_with (first | (go_at_call 102; refine (sortNilS w1).mono ?_; rintro e w2 ⟨rfl, hb2⟩; (have HB2 : Hid _ := hb2); clear hb2) | fail)
    go_ret
    exact ⟨_, [], rfl, HP.out, List.Pairwise.nil, World.ownsRow_nil _ _ _ _, xtrans2 HR.out HB2.out⟩
  · subst hv
    have hH : Holds encC w1 g 0 ss.toArray := fun j hj => by
      have h := holds_of_block hb' (by simpa using h4) j hj
      have hj' : j < ss.length := by simpa using hj
      have e : ss.toArray[j]! = ss[j] := by simp [hj']
      refine ⟨?_, h.2⟩
      rw [h.1, e]
      show some (encStr ss[j]) = some (encStr (cl ss[j]))
      rw [cl_id (hss _ (List.getElem_mem hj'))]
    have hcon := Any.slices_SortFunc Tryz.sortF encC (fun _ => rfl) cfC swoC 12 #[] g 0 cap ss.toArray w1 (enters_of Tryz.func12 (by kernel_rfl) rfl) (cmpC g 0 ss.toArray.size w1).lays hH (Array.getElem?_eq_some_iff.1 hb').1 (by simp; omega)
    have HCON : Hid (Calls Tryz.prog 102 #[.slice (some ⟨g, 0, none⟩) ss.length cap, .func (.func 12) #[] #[]] w1 fun e w' => e = .returned (.tuple #[]) ∧ ∃ d' n os, PermIn 0 ss.toArray.size ss.toArray d' ∧ SortedIn (ltOf cfC) 0 ss.toArray.size d' ∧ w' = sortWorld encC w1 g 0 n d' os) := hcon
    have HR : Hid (Go.RowKit.Below w.heap.size w w1) := hb
    have HS : Hid _ := hss
    have HP : Hid _ := hp
    have HX : Hid (w.heap.size ≤ g ∧ w1.heap[g]? = some (.cells cur 9 (0, 0)) ∧ ss.length ≤ cap ∧ cap ≤ maxLen ∧ cur.size = cap * 1) := ⟨hbase, hb', h1, h2, h3⟩
    clear hcon hH hr hnil hb hss hp hbase hb' h1 h2 h3 h4 hlen
    go_wp2_with (first | (go_at_call 102; refine Calls.mono HCON.out ?_; rintro e w2 ⟨rfl, d', nn, os, hpm, hso, rfl⟩) | fail)
    obtain ⟨ts, rfl⟩ : ∃ ts : List (List UInt8), d' = ts.toArray := ⟨d'.toList, by simp⟩
    have hl : ts.length = ss.length := by simpa using hpm.1
    have hpp : ts.Perm ss := by
      have := hpm.2.2
      simpa [hl, List.take_of_length_le] using this
    have hts : ∀ l ∈ ts, l.length ≤ 1000 := fun l h => HS.out l (hpp.mem_iff.1 h)
    rw [putC hts]
    go_ret
    refine ⟨_, ts, (by rw [← hl] <;> rfl), hpp.trans HP.out, ?_, ?_, HR.out.grown (grownBy_sorted _) HR.out.size (fun j hj => by cases hj; exact HX.out.1)⟩
    · unfold AscX
      rw [List.pairwise_iff_getElem]
      intro i j hi hj hij e
      have hs := hso i j (Nat.zero_le _) hij (by simp; omega)
      have e1 : ts.toArray[j]! = ts[j] := by simp [hj]
      have e2 : ts.toArray[i]! = ts[i] := by simp [hi]
      rw [e1, e2] at hs
      have : ltOf cfC ts[j] ts[i] = true := by
        rw [lt_iff, cl_id (hts _ (List.getElem_mem hj)), cl_id (hts _ (List.getElem_mem hi)), ordL_anti, e]
      rw [this] at hs
      cases hs
    · have := ownsRow_sorted (n := nn) (os := os) hl HX.out.1 HX.out.2.1 HX.out.2.2.1 HX.out.2.2.2.1 HX.out.2.2.2.2
      rw [hl]
      exact this
end Go.Proofs.YtbblckcjedjbcaaGreatDoor
namespace Go.Proofs.YtbblckcjedjbcaaGreatDoor
open Go.RowKit Go.Maps Go.Sort
set_option linter.unusedVariables false
set_option linter.unusedSimpArgs false

def leX (x y : List UInt8) : Bool := decide (ordL x y ≠ 1)
theorem leX_trans (a b c : List UInt8) (h1 : leX a b = true) (h2 : leX b c = true) : leX a c = true := by
  unfold leX at *
  rw [decide_eq_true_eq] at *
  intro h
  have h3 : ordL c a = -1 := by rw [ordL_anti, h]
  rcases ordL_range b c with e | e | e
  · have h4 := ordL_trans _ _ _ e h3
    rw [ordL_anti, h4] at h1
    exact h1 rfl
  · have := ordL_zero _ _ e
    subst this
    rw [h] at h1
    exact h1 rfl
  · exact h2 e
theorem leX_total (a b : List UInt8) : (leX a b || leX b a) = true := by
  unfold leX
  rw [Bool.or_eq_true, decide_eq_true_eq, decide_eq_true_eq]
  by_cases h : ordL a b = 1
  · right
    rw [ordL_anti, h]
    decide
  · exact .inl h
theorem leX_anti {a b : List UInt8} (h1 : ordL a b ≠ 1) (h2 : ordL b a ≠ 1) : a = b := by
  have h3 := ordL_anti a b
  rcases ordL_range a b with e | e | e
  · rw [e] at h3; exact absurd h3 h2
  · exact ordL_zero a b e
  · exact absurd e h1
/-- In the order of places. -/
def sortX (l : List (List UInt8)) : List (List UInt8) := l.mergeSort leX
theorem sortX_perm (l : List (List UInt8)) : (sortX l).Perm l := List.mergeSort_perm l leX
theorem sortX_asc (l : List (List UInt8)) : AscX (sortX l) := by
  have := List.pairwise_mergeSort (le := leX) leX_trans leX_total l
  exact this.imp (fun h => by unfold leX at h; simpa using h)
theorem sortX_only {l ts : List (List UInt8)} (hp : ts.Perm l) (ha : AscX ts) : ts = sortX l :=
  List.Perm.eq_of_pairwise (le := fun x y => ordL x y ≠ 1) (fun a b _ _ h1 h2 => leX_anti h1 h2) ha (sortX_asc l) (hp.trans (sortX_perm l).symm)
def allS (D : List Way) (hs : List He) (p : Way) (R : Way → List He) : List He := here hs p ++ (sortX (kidsB D p)).flatMap (fun l => R (wayOf p l))
def allH (D : List Way) (hs : List He) : Nat → Way → List He
  | 0, p => allS D hs p (fun _ => [])
  | d + 1, p => allS D hs p (allH D hs d)
/-- A list of helds is put behind another one: what turns. -/
theorem wpList_appM {w : World} {ops : Array Oper} {rest : List Oper} {o : Oper} {act : Act} {Q : Exit → Act → World → Prop} (hgd : o.guard = none) (s x : Operand)
    (ho : o.op = .call { callee := .builtin .append, args := #[s, x], argTypes := #[76, 76] }) (v : Value) (l : List He) (hs : act.eval s = v) (hown : w.ownsRow 0 91 1 v l.length (ptrs l))
    (a : Option Addr) (c : Nat) (m : List He) (hx : act.eval x = .slice a m.length c) (hm : w.ownsRow 0 91 1 (.slice a m.length c) m.length (ptrs m)) (hlen : l.length + m.length ≤ 1000000)
    (h : ∀ v' w', w'.ownsRow 0 91 1 v' (l ++ m).length (ptrs (l ++ m)) → Chg w w' (fun k => v.ownBlock = some k) → (∀ k, v'.ownBlock = some k → v.ownBlock = some k ∨ w.heap.size ≤ k) → wpList Tryz.prog ops Q rest (act.put o.dst v') w') : wpList Tryz.prog ops Q (o :: rest) act w := by
  obtain ⟨i0, hi, hz0, hz1, hz2⟩ := info_parts Tryz.infoS
  rcases hm.2 with ⟨h0, h1⟩ | ⟨g, cap, cur, hv, _⟩
  · have hn : m = [] := by simpa using h1
    subst hn
    simp only [Value.slice.injEq] at h0
    obtain ⟨rfl, _, rfl⟩ := h0
    refine wpList_append_own_none hgd s x 76 ho 0 91 i0 1 Tryz.underlying76 hi _ _ _ hs hown hx ?_
    exact h v w (by rw [List.append_nil]; exact hown) (Chg.refl _ _) (fun k hk => .inl hk)
  · simp only [Value.slice.injEq] at hv
    obtain ⟨rfl, _, rfl⟩ := hv
    refine wpList_append_own_at _ hgd s x 76 ho 0 91 i0 _ 1 8 Tryz.underlying76 hi hz0 hz1 hz2 rfl (by decide) v l.length (ptrs l) hs hown ⟨g, 0, none⟩ m.length c (ptrs m) hx (by rw [ptrs_len, Nat.mul_one]) (fun j u hu => by rw [addr_add, Nat.zero_add]; exact cell_n hm hu) (ptrs_one _) (by unfold maxLen; omega) (by omega) (Nat.zero_le _) ?_
    intro v' w' ho' hg' _ hat'
    refine h v' w' (by rw [List.length_append, ptrs_append]; exact ho') (Chg.grown hg') (fun k hk => ?_)
    rcases hat' with e | e
    · exact .inl (by rw [← e]; exact hk)
    · rw [hk] at e
      cases e
      exact .inr (Nat.le_refl _)
/-- What all leaves. -/
def AllE (w : World) (v : Value) (l : List He) (e : Ending) (w' : World) : Prop :=
  ∃ v', e = .returned v' ∧ w'.ownsRow 0 91 1 v' l.length (ptrs l) ∧ Chg w w' (fun k => v.ownBlock = some k) ∧ ∀ k, v'.ownBlock = some k → v.ownBlock = some k ∨ w.heap.size ≤ k
theorem names_small {w : World} {y : Lay} {D : List Way} {hs : List He} (hT : Tr w y D hs) (p : Way) : ∀ l ∈ kidsB D p, l.length ≤ 1000 := by
  intro l hl
  obtain ⟨n, hn, rfl⟩ := List.mem_map.1 hl
  have h1 := hT.sml _ (kids_mem.1 hn) n (by simp)
  rw [Array.length_toList]
  exact h1
theorem way_kid {D : List Way} {p : Way} {l : List UInt8} (h : l ∈ kidsB D p) : wayOf p l ∈ D := by
  obtain ⟨n, hn, rfl⟩ := List.mem_map.1 h
  unfold wayOf
  have : (⟨n.data.toList.toArray⟩ : ByteArray) = n := ByteArray.ext (by simp)
  rw [this]
  exact kids_mem.1 hn
theorem flat_next {ts : List (List UInt8)} {j : Nat} {x : List UInt8} (hx : ts[j]? = some x) (f : List UInt8 → List He) : (ts.take (j + 1)).flatMap f = (ts.take j).flatMap f ++ f x := by
  rw [List.take_add_one, hx, Option.toList_some, List.flatMap_append]
  simp
theorem flat_le {ts : List (List UInt8)} {j : Nat} (f : List UInt8 → List He) : ((ts.take j).flatMap f).length ≤ (ts.flatMap f).length := by
  have : ts.flatMap f = (ts.take j).flatMap f ++ (ts.drop j).flatMap f := by rw [← List.flatMap_append, List.take_append_drop]
  rw [this, List.length_append]
  omega
set_option maxHeartbeats 64000000 in
set_option maxRecDepth 100000 in
theorem allN_step (w : World) (y : Lay) (D : List Way) (hs : List He) (p : Way) (R : Way → List He) (v : Value) (l : List He) (hT : Tr w y D hs) (hp : p ∈ D) (hD : D.length ≤ 100000) (hv : w.ownsRow 0 91 1 v l.length (ptrs l)) (hF : ∀ k, v.ownBlock = some k → ¬ Ft y D hs k) (hl : l.length + (allS D hs p R).length ≤ 100000)
    (hrec : ∀ (w1 : World) (x : List UInt8) (v1 : Value) (l1 : List He), x ∈ kidsB D p → Tr w1 y D hs → w1.ownsRow 0 91 1 v1 l1.length (ptrs l1) → (∀ k, v1.ownBlock = some k → ¬ Ft y D hs k) → l1.length + (R (wayOf p x)).length ≤ 100000 → Calls Tryz.prog 43 #[ndV (y.β (wayOf p x)), v1] w1 (AllE w1 v1 (l1 ++ R (wayOf p x)))) :
    Calls Tryz.prog 43 #[ndV (y.β p), v] w (AllE w v (l ++ allS D hs p R)) := by
  obtain ⟨a', c', hρ, hm⟩ := hT.hlp hp
  obtain ⟨c0, c1, _, fz⟩ := (hT.nd p hp).cells
  rw [hρ] at c1
  obtain ⟨ts, hts⟩ : ∃ ts, sortX (kidsB D p) = ts := ⟨_, rfl⟩
  have HSP : Hid (allS D hs p R = here hs p ++ ts.flatMap (fun l => R (wayOf p l))) := by show _ = _; unfold allS; rw [hts]
  have hl' := hl
  rw [HSP.out, List.length_append] at hl'
  have hhl : (here hs p).length ≤ 100000 := by omega
  have HT : Hid _ := hT
  have HP : Hid (p ∈ D) := hp
  have HV : Hid _ := hv
  have HM : Hid _ := hm
  have HF : Hid _ := hF
  have HREC : Hid _ := hrec
  have HSM : Hid _ := names_small hT p
  have HTK : Hid (∀ x ∈ ts, x ∈ kidsB D p) := fun x hx => (sortX_perm (kidsB D p)).mem_iff.1 (by rw [hts]; exact hx)
  have HTL : Hid (ts.length ≤ 100000) := by
    show _ ≤ _
    rw [← hts, (sortX_perm (kidsB D p)).length_eq]
    unfold kidsB
    rw [List.length_map]
    have := kids_len D p
    omega
  have HKE : Hid (∀ us, us.Perm (kidsB D p) → AscX us → us = ts) := fun us h1 h2 => by rw [← hts]; exact sortX_only h1 h2
  have hpl : y.β p < w.heap.size := by obtain ⟨c, t, hb, _⟩ := hT.kβ hp; exact lt_of_blk hb
  rw [HSP.out]
  clear hT hp hv hF hrec hρ hm hts hl fz
  go_enter Tryz.func43, Tryz.ntmps43
  go_upto_region 2 with (first
    | (at_builtin; refine wpList_appM rfl _ _ rfl v l rfl HV.out a' c' (here hs p) rfl HM.out (by omega) ?_
       intro v2 w2 ho2 hc2 ha2
       have HO2 : Hid (w2.ownsRow 0 91 1 v2 (l ++ here hs p).length (ptrs (l ++ here hs p))) := ho2
       have HC2 : Hid _ := hc2
       have HA2 : Hid _ := ha2
       clear ho2 hc2 ha2 c0 c1)
    | fail)
  have HT2 : Hid (Tr w2 y D hs) := HT.out.chg HC2.out (fun k hk e => HF.out k e hk)
  have HF2 : Hid (∀ k, v2.ownBlock = some k → ¬ Ft y D hs k) := fun k hk hf => by
    rcases HA2.out k hk with e | e
    · exact HF.out k e hf
    · have := HT.out.lt hf
      omega
  obtain ⟨c0, _, _, _⟩ := (HT2.out.nd p HP.out).cells
  have HBK : Hid (w2.heap.size < (w2.alloc (.cells #[.map (y.μ p)] 74)).heap.size) := by show _ < _; simp
  have HSO : Hid _ := sortedX w2.heap.size (y.μ p) p D y.β (w2.alloc (.cells #[.map (y.μ p)] 74)) (by simp) (by simp) (((HT2.out.below ((Below.refl _ _).alloc (Nat.le_refl _) _)).kids p HP.out)) HT2.out.dn hD HSM.out
  go_wp2_with (first
    | (go_at_call 69; refine (keysX _ _).mono ?_; rintro e w3 ⟨rfl, rfl⟩)
    | (go_at_call 68; refine Calls.mono HSO.out ?_; rintro e w4 ⟨v4, us, rfl, hp4, ha4, ho4, hb4⟩
       have hus := HKE.out us hp4 ha4
       subst hus
       have HB4 : Hid (Below w2.heap.size w2 w4) := xtrans2 ((Below.refl _ _).alloc (Nat.le_refl _) _) hb4
       have HO4 : Hid _ := ho4
       obtain ⟨a4, c4, hv4⟩ := owns_shape ho4
       subst hv4
       clear hp4 ha4 ho4 hb4 c0)
    | fail)
  have HT4 : Hid (Tr w4 y D hs) := HT2.out.below HB4.out
  have HO4f : Hid _ := owns_below HO2.out HB4.out
  have htl : us.length ≤ 100000 := HTL.out
  go_loopw [1, 20] (fun vt vi wr => ∃ j : Nat, vi = .int .i64 j ∧ j ≤ us.length ∧ Hid (wr.ownsRow 0 91 1 vt ((l ++ here hs p) ++ (us.take j).flatMap (fun l => R (wayOf p l))).length (ptrs ((l ++ here hs p) ++ (us.take j).flatMap (fun l => R (wayOf p l))))) ∧ Hid (Chg w4 wr (fun k => v2.ownBlock = some k)) ∧ Hid (∀ k, vt.ownBlock = some k → v2.ownBlock = some k ∨ w4.heap.size ≤ k)) (fun _ vi _ => us.length - (intOf vi).toNat)
  case atStart =>
    refine ⟨0, rfl, Nat.zero_le _, ?_, Chg.refl _ _, fun k hk => .inl hk⟩
    show World.ownsRow _ _ _ _ _ _ _
    simp only [List.take_zero, List.flatMap_nil, List.append_nil]
    exact HO4f.out
  case round =>
    obtain ⟨j, rfl, hj, HO, HC, HA⟩ := hrel
    have HTr : Hid (Tr wr y D hs) := HT4.out.chg HC.out (fun k hk e => HF2.out k e hk)
    have HFr : Hid (∀ k, u1.ownBlock = some k → ¬ Ft y D hs k) := fun k hk hf => by
      rcases HA.out k hk with e | e
      · exact HF2.out k e hf
      · have := HT4.out.lt hf
        omega
    by_cases hlt : j < us.length
    · have hlt' : (j : Int) < (us.length : Int) := by omega
      obtain ⟨x, hx⟩ : ∃ x, us[j]? = some x := ⟨us[j], List.getElem?_eq_getElem hlt⟩
      have HFN : Hid _ := flat_next hx (fun l => R (wayOf p l))
      have hxk : x ∈ kidsB D p := HTK.out x (List.mem_of_getElem? hx)
      have hnr : wr.ownsRow w2.heap.size 9 1 (.slice a4 us.length c4) us.length (us.map encStr) := by
        refine owns_chg (owns_lo HO4.out (by simp)) HC.out (fun k hk e => ?_)
        obtain ⟨cu, h1⟩ := owns_kind HO4.out hk
        obtain ⟨cu2, h2⟩ := owns_kind HO4f.out e
        rw [h1] at h2
        simp only [Option.some.injEq, Obj.cells.injEq] at h2
        exact absurd h2.2.1 (by decide)
      obtain ⟨g, hg4⟩ : ∃ g, a4 = some ⟨g, 0, none⟩ := by
        rcases hnr.2 with ⟨h0, h1⟩ | ⟨g, cap, cur, hv, _⟩
        · omega
        · simp only [Value.slice.injEq] at hv
          exact ⟨g, hv.1⟩
      subst hg4
      have n0 : wr.cell? ⟨g, j, none⟩ = some (.string ⟨x.toArray⟩) := cell_n hnr (by rw [List.getElem?_map, hx]; rfl)
      obtain ⟨c0, _, _, _⟩ := (HTr.out.nd p HP.out).cells
      have hnx : (⟨x.toArray⟩ : ByteArray).size ≤ 1000 := HSM.out x hxk
      have hlk := ((HTr.out.kids p HP.out).get hnx)
      have hin : p ++ [⟨x.toArray⟩] ∈ D := way_kid hxk
      unfold kidV at hlk
      rw [if_pos (inD_iff.2 hin)] at hlk
      have hbd : ((l ++ here hs p) ++ (us.take j).flatMap (fun l => R (wayOf p l))).length + (R (wayOf p x)).length ≤ 100000 := by
        have h1 := flat_le (ts := us) (j := j + 1) (fun l => R (wayOf p l))
        rw [HFN.out, List.length_append] at h1
        rw [List.length_append, List.length_append]
        omega
      have HRC : Hid (Calls Tryz.prog 43 #[ndV (y.β (p ++ [⟨x.toArray⟩])), u1] wr (AllE wr u1 (((l ++ here hs p) ++ (us.take j).flatMap (fun l => R (wayOf p l))) ++ R (wayOf p x)))) := HREC.out wr x u1 _ hxk HTr.out HO.out HFr.out hbd
      clear hx hxk hnr hnx hin hbd
      go_wp2_with fail
      refine Calls.mono HRC.out ?_
      rintro e w5 ⟨v5, rfl, ho5, hc5, ha5⟩
      have HO5 : Hid _ := ho5
      have HC5 : Hid (Chg w4 w5 (fun k => v2.ownBlock = some k)) := by
        refine ⟨hc5.os.trans HC.out.os, hc5.tape.trans HC.out.tape, hc5.output.trans HC.out.output, Nat.le_trans HC.out.size hc5.size, fun k hk hn => (hc5.block k (Nat.lt_of_lt_of_le hk HC.out.size) (fun e => ?_)).trans (HC.out.block k hk hn)⟩
        rcases HA.out k e with e2 | e2
        · exact hn e2
        · omega
      have HA5 : Hid (∀ k, v5.ownBlock = some k → v2.ownBlock = some k ∨ w4.heap.size ≤ k) := fun k hk => by
        rcases ha5 k hk with e | e
        · exact HA.out k e
        · exact .inr (Nat.le_trans HC.out.size e)
      clear ho5 hc5 ha5 n0 c0 hlk
      go_wp2_with fail
      go_roundw
      case rel =>
        refine ⟨j + 1, by go_num, by omega, ?_, HC5.out, HA5.out⟩
        show World.ownsRow _ _ _ _ _ _ _
        rw [HFN.out, ← List.append_assoc]
        exact HO5.out
      case measure => simp [intOf]; omega
    · obtain rfl : j = us.length := by omega
      have hge : ¬ ((us.length : Int) < (us.length : Int)) := by omega
      have HO' : Hid (wr.ownsRow 0 91 1 u1 (l ++ (here hs p ++ us.flatMap (fun l => R (wayOf p l)))).length (ptrs (l ++ (here hs p ++ us.flatMap (fun l => R (wayOf p l)))))) := by
        have := HO.out
        rw [List.take_length, List.append_assoc] at this
        exact this
      go_wp2_with fail
      go_ret
      refine ⟨_, rfl, HO'.out, ?_, fun k hk => ?_⟩
      · have h1 : Chg w w4 (fun k => v.ownBlock = some k) := HC2.out.trans (Chg.of_below HB4.out _)
        refine ⟨HC.out.os.trans h1.os, HC.out.tape.trans h1.tape, HC.out.output.trans h1.output, Nat.le_trans h1.size HC.out.size, fun k hk hn => (HC.out.block k (Nat.lt_of_lt_of_le hk h1.size) (fun e => ?_)).trans (h1.block k hk hn)⟩
        rcases HA2.out k e with e2 | e2
        · exact hn e2
        · omega
      · rcases HA.out k hk with e | e
        · exact HA2.out k e
        · exact .inr (Nat.le_trans HC2.out.size (Nat.le_trans HB4.out.size e))
end Go.Proofs.YtbblckcjedjbcaaGreatDoor
