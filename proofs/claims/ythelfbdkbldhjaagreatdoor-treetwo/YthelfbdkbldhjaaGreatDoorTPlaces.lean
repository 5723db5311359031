/-
  tree: watched.
-/
import Derived.Test.YthelfbdkbldhjaaGreatDoorTOps
import Derived.Test.YthelfbdkbldhjaaGreatDoorCovers
import Derived.Test.YthelfbdkbldhjaaGreatDoorLine
import Derived.Sort.KeysCollected
import Derived.Maps.RangeWalk
import Derived.WalkSpells
import Derived.Sort.OwnSorted
import Derived.Test.YthelfbdkbldhjaaGreatDoorShelfG
import Derived.Shelf.SlSortCmp.Whole1
import Derived.Test.YthelfbdkbldhjaaGreatDoorTStep
import Derived.Test.YthelfbdkbldhjaaGreatDoorTMake
import Derived.Deep.AppendLies
import Derived.Maps.OwnOps
namespace Go.Proofs.YthelfbdkbldhjaaGreatDoor
open Go.RowKit Go.Maps
set_option linter.unusedVariables false
set_option linter.unusedSimpArgs false

theorem Tryz.infoT : (Tryz.prog.info? 9).map (fun i => (i.zero, i.size, i.bytes)) = some (some (.string ⟨#[]⟩), 1, 16) := by kernel_rfl
abbrev ordV : Value := .func (.func 47) #[] #[]
/-- What a sort of places does. -/
def SortsTo : Prop := ∀ (base g cap : Nat) (ss : List (List UInt8)) (w : World), w.ownsRow base 9 1 (.slice (some ⟨g, 0, none⟩) ss.length cap) ss.length (ss.map encStr) → (∀ l ∈ ss, l.length ≤ 1000) → ss.length ≤ 1000000 →
  Calls Tryz.prog 73 #[.slice (some ⟨g, 0, none⟩) ss.length cap, ordV] w fun e w' => e = .returned (.tuple #[]) ∧ ∃ ts : List (List UInt8), ts.Perm ss ∧ ts.Pairwise (fun x y => ordL x y ≠ 1) ∧ w'.ownsRow base 9 1 (.slice (some ⟨g, 0, none⟩) ts.length cap) ts.length (ts.map encStr) ∧ w.grownBy w' (some g)
def SortsNil : Prop := ∀ w : World, Calls Tryz.prog 73 #[.slice none 0 0, ordV] w fun e w' => e = .returned (.tuple #[]) ∧ Below w.heap.size w w'
theorem grown_of_below {w w' : World} (h : Below w.heap.size w w') (row : Option Nat) : w.grownBy w' row := ⟨h.os, h.tape, h.output, h.size, fun k hk _ => h.block k hk⟩
def wF (kind : Int) (at' : ByteArray) (l : List UInt8) : Bool := covers kind at' 1 ⟨l.toArray⟩
set_option maxHeartbeats 4000000 in
set_option maxRecDepth 100000 in
theorem watched_any (hS : SortsTo) (hN : SortsNil) (b n : Nat) (D : DataW Value) (kind : Int) (at' : ByteArray) (w : World) (hg : Ground w) (hm : MapAt w b n D) (hk : ∀ l ∈ strKeys D, l.length ≤ 1000) (hsz : Maps.size D ≤ 1000000) :
    Calls Tryz.prog 45 #[.map (some b), .int .i64 kind, .string at'] w fun e w' => ∃ (a : Option Addr) (c : Nat) (ts : List (List UInt8)), e = .returned (.slice a ts.length c) ∧ ts.Perm ((strKeys D).filter (wF kind at')) ∧ ts.Pairwise (fun x y => ordL x y ≠ 1) ∧ w'.ownsRow w.heap.size 9 1 (.slice a ts.length c) ts.length (ts.map encStr) ∧ Below w.heap.size w w' := by
  obtain ⟨i0, hi, hz0, hz1, hz2⟩ := info_parts Tryz.infoT
  have hbl := hm.lt
  have HG : Hid (Ground w) := hg
  have HM : Hid (MapAt w b n D) := hm
  have HK : Hid (∀ l ∈ strKeys D, l.length ≤ 1000) := hk
  clear hg hk
  go_enter Tryz.func45, Tryz.ntmps45
  go_wp2_with (first
    | (at_range; go_loud (refine wpList_range_own _ rfl _ 47 rfl 9 45 keyed Tryz.underlying47 raw b n D rfl hm ?_; intro w0 hrg0 hg0 hs0))
    | fail)
  go_frame
  go_loopw [7] (fun v wr => ∃ (left : Lit → Bool) (cnt : Nat) (all : List (List UInt8)), wr.ranges Tryz.prog 9 raw b w.heap.size n D left cnt ∧ all.length + cnt ≤ Maps.size D ∧ Hid (wr.ownsRow w.heap.size 9 1 v (all.filter (wF kind at')).length ((all.filter (wF kind at')).map encStr)) ∧ Collected D left all ∧ Hid (Below w.heap.size w wr)) (fun _ wr => wr.rangeLeft b w.heap.size)
  case atStart => exact ⟨_, _, [], hrg0, by simp, World.ownsRow_nil _ _ _ _, Collected.start D, (Below.refl _ _).grown hg0 (Nat.le_refl _) (fun j hj => by cases hj)⟩
  case round =>
    obtain ⟨left, cnt, all, hrg, hcs, HR, hC, HB⟩ := hrel
    go_wp2_with (first
      | (at_next; go_loud (refine wpList_next_ranges _ rfl _ rfl 9 keyed raw encStr id (fun key kl hk => by obtain ⟨x, hx, _⟩ := Maps.keyOf_str Tryz.underlying9 hk; exact ⟨x, hx⟩) (fun v y hv => ⟨v, rfl⟩) b w.heap.size n _ _ _ rfl hrg ?_ ?_))
      | fail)
    · intro hc0 hl0
      have HP : Hid (all.Perm (strKeys D)) := hC.perm HM.out keyed Tryz.underlying9 hl0
      have HPF : Hid ((all.filter (wF kind at')).Perm ((strKeys D).filter (wF kind at'))) := HP.out.filter _
      have HSS : Hid (∀ l ∈ all.filter (wF kind at'), l.length ≤ 1000) := fun l hl => HK.out l (HP.out.mem_iff.1 (List.mem_filter.1 hl).1)
      have HLn : Hid ((all.filter (wF kind at')).length ≤ 1000000) := Nat.le_trans (List.length_filter_le _ _) (by omega)
      clear hrg hC hc0 hl0 hcs
      obtain ⟨ss, hss⟩ : ∃ ss, all.filter (wF kind at') = ss := ⟨_, rfl⟩
      rw [hss] at HR HPF HSS HLn
      clear hss
      rcases HR.out.2 with ⟨hv, hl⟩ | ⟨g, cap, cur, hv, hbase, hb, h1, h2, h3, h4⟩
      · have hs0 : ss = [] := List.eq_nil_of_length_eq_zero hl
        subst hs0
        subst hv
        go_wp2_with fail
        refine (hN _).mono ?_
        rintro e w5 ⟨rfl, hb5⟩
        have HB5 : Hid (Below w.heap.size w w5) := trans2 HB.out hb5
        clear hb5
        go_wp2_with fail
        go_ret
        exact ⟨none, 0, [], rfl, HPF.out, List.Pairwise.nil, World.ownsRow_nil _ _ _ _, HB5.out⟩
      · subst hv
        have HCON : Hid _ := hS w.heap.size g cap ss wr HR.out HSS.out HLn.out
        have HBa : Hid (w.heap.size ≤ g) := hbase
        clear hb h1 h2 h3 h4 hbase
        go_wp2_with fail
        refine Calls.mono HCON.out ?_
        rintro e w5 ⟨rfl, ts, hp5, hs5, ho5, hg5⟩
        have HB5 : Hid (Below w.heap.size w w5) := HB.out.grown hg5 HB.out.size (fun j hj => by cases hj; exact HBa.out)
        have HO5 : Hid _ := ho5
        have HP5 : Hid _ := hp5
        have HS5 : Hid _ := hs5
        clear hp5 hs5 ho5 hg5
        go_wp2_with fail
        go_ret
        exact ⟨_, cap, ts, by rw [HP5.out.length_eq]; rfl, HP5.out.trans HPF.out, HS5.out, HO5.out, HB5.out⟩
    · intro x c kl yd yp w2 cnt2 hkey hlk hv hat hrg2 hlt hg2 hs2 hen
      obtain ⟨x', ex, rfl, _⟩ := Maps.keyOf_str Tryz.underlying9 hkey
      obtain rfl : x = x' := encStr_inj ex
      have HR2 : Hid (w2.ownsRow w.heap.size 9 1 u7 (all.filter (wF kind at')).length ((all.filter (wF kind at')).map encStr)) := HR.out.kept hg2 (Or.inr (row_ne_iter HR.out hrg).symm)
      have HB2 : Hid (Below w.heap.size w w2) := HB.out.grown hg2 HB.out.size (fun j hj => by cases hj; exact Nat.le_refl _)
      have HCV : Hid _ := covers_any kind 1 at' ⟨x.toArray⟩ w2 (HG.out.below HB2.out)
      clear hs2
      obtain ⟨f, hf⟩ : ∃ f, wF kind at' x = f := ⟨_, rfl⟩
      have hf' : covers kind at' 1 ⟨x.toArray⟩ = f := hf
      rw [hf'] at HCV
      cases f with
      | false =>
        have HF : Hid ((all ++ [x]).filter (wF kind at') = all.filter (wF kind at')) := by show _ = _; rw [List.filter_append]; simp [hf]
        go_wp2_with fail
        refine Calls.mono HCV.out ?_
        rintro e w3 ⟨rfl, hb3⟩
        have hrg3 := hrg2.kept (grown_of_below hb3 none) (by simp) (by simp)
        have HR3 : Hid (w3.ownsRow w.heap.size 9 1 u7 (all.filter (wF kind at')).length ((all.filter (wF kind at')).map encStr)) := World.ownsRow.kept HR2.out (grown_of_below hb3 none) (by cases u7.ownBlock <;> simp)
        have HB3 : Hid (Below w.heap.size w w3) := trans2 HB2.out hb3
        clear hb3
        go_wp2_with fail
        go_roundw
        case rel => exact ⟨_, cnt2, all ++ [x], hrg3, by simp; omega, by show World.ownsRow _ _ _ _ _ _ _; rw [HF.out]; exact HR3.out, hC.step hlk hat, HB3⟩
        case measure => rw [hrg3.left_eq, hrg.left_eq]; exact hlt
      | true =>
        have HF : Hid ((all ++ [x]).filter (wF kind at') = all.filter (wF kind at') ++ [x]) := by show _ = _; rw [List.filter_append]; simp [hf]
        have HFL : Hid ((all.filter (wF kind at')).length ≤ 1000000) := Nat.le_trans (List.length_filter_le _ _) (by omega)
        go_wp2_with fail
        refine Calls.mono HCV.out ?_
        rintro e w3 ⟨rfl, hb3⟩
        have hrg3 := hrg2.kept (grown_of_below hb3 none) (by simp) (by simp)
        have HR3 : Hid (w3.ownsRow w.heap.size 9 1 u7 (all.filter (wF kind at')).length ((all.filter (wF kind at')).map encStr)) := World.ownsRow.kept HR2.out (grown_of_below hb3 none) (by cases u7.ownBlock <;> simp)
        have HB3 : Hid (Below w.heap.size w w3) := trans2 HB2.out hb3
        clear hb3
        go_wp2_with (first
          | (at_builtin; refine wpList_append_own _ rfl _ _ 80 rfl w.heap.size 9 i0 (.string ⟨#[]⟩) 1 16 Tryz.underlying80 hi hz0 hz1 hz2 rfl (by decide) _ _ _ rfl (World.ownsRow.alloc HR3.out _) ⟨w3.heap.size, 0, none⟩ 1 1 [encStr x] rfl rfl (cell_one_new _ _ _) (by simp [Value.oneCell', encStr]) (by have := HFL.out; unfold maxLen; omega) (by have := HFL.out; omega) (by have := HB3.out.size; simp; omega) ?_; intro v' w4 hown4 hg4 hnil4; go_frame)
          | fail)
        have hrg4 := (hrg3.alloc _).kept hg4 (row_ne_low HR3.out hbl) (row_ne_iter HR3.out hrg3)
        go_roundw
        case rel =>
          refine ⟨_, cnt2, all ++ [x], hrg4, by simp; omega, ?_, hC.step hlk hat, ?_⟩
          · show World.ownsRow _ _ _ _ _ _ _
            rw [HF.out]
            simpa using hown4
          · exact (HB3.out.alloc HB3.out.size _).grown hg4 (by have := HB3.out.size; simp; omega) (fun j hj => (HR3.out.lt j hj).1)
        case measure => rw [hrg4.left_eq, hrg.left_eq]; exact hlt
end Go.Proofs.YthelfbdkbldhjaaGreatDoor
namespace Go.Proofs.YthelfbdkbldhjaaGreatDoor
open Go.RowKit Go.Maps Go.Sort Go.Shelf
set_option linter.unusedVariables false

/-- No more of a text than a place may have. -/
def cl (l : List UInt8) : List UInt8 := l.take 1000
def encC (l : List UInt8) : Value := encStr (cl l)
def cfC (x y : List UInt8) : Int := ordL (cl x) (cl y)
theorem cl_id {l : List UInt8} (h : l.length ≤ 1000) : cl l = l := List.take_of_length_le h

theorem lt_iff (x y : List UInt8) : ltOf cfC x y = true ↔ ordL (cl x) (cl y) = -1 := by
  unfold ltOf cfC
  rcases ordL_range (cl x) (cl y) with h | h | h <;> simp [h]
theorem swoC : SWO (ltOf cfC) where
  irrefl x := by
    cases h : ltOf cfC x x with
    | false => rfl
    | true => rw [lt_iff, ordL_self] at h; cases h
  trans x y z h1 h2 := by
    rw [lt_iff] at *
    exact ordL_trans _ _ _ h1 h2
  ntrans x y z h1 h2 := by
    cases h : ltOf cfC x z with
    | false => rfl
    | true =>
      rw [lt_iff] at h
      have g1 : ¬ ordL (cl x) (cl y) = -1 := fun e => by rw [(lt_iff x y).2 e] at h1; cases h1
      have g2 : ¬ ordL (cl y) (cl z) = -1 := fun e => by rw [(lt_iff y z).2 e] at h2; cases h2
      exfalso
      rcases ordL_range (cl x) (cl y) with e | e | e
      · exact g1 e
      · have := ordL_zero _ _ e
        rw [this] at h
        exact g2 h
      · have e' : ordL (cl y) (cl x) = -1 := by rw [ordL_anti, e]
        exact g2 (ordL_trans _ _ _ e' h)

theorem cmpC (blk off size : Nat) (w : World) : CmpReads Tryz.prog 47 #[] encC cfC blk off size w := by
  intro m os dk _ x y
  have hs : ∀ l : List UInt8, (⟨(cl l).toArray⟩ : ByteArray).size ≤ maxLen := fun l => by
    have : (cl l).length ≤ 1000 := List.length_take_le _ _
    show (cl l).toArray.size ≤ maxLen
    unfold maxLen
    simp
    omega
  have h := order_O ⟨(cl x).toArray⟩ ⟨(cl y).toArray⟩ (hs x) (hs y) (sortWorld encC w blk off m dk os)
  rw [O_list] at h
  exact h

theorem putC {w : World} {g n : Nat} {os : Array Obj} {ts : List (List UInt8)} (h : ∀ l ∈ ts, l.length ≤ 1000) : sortWorld encC w g 0 n ts.toArray os = grow (putRow encStr (Sort.ahead w n) g 0 ts.toArray) os := by
  unfold sortWorld putRow
  congr 1
  congr 1
  funext c
  unfold putCells
  congr 1
  funext k x
  split
  · rename_i hk
    have hk' : k < ts.length := by simpa using hk.2
    have e : ts.toArray[k - 0]! = ts[k] := by simp [hk']
    rw [e]
    show encStr (cl ts[k]) = encStr ts[k]
    rw [cl_id (h _ (List.getElem_mem hk'))]
  · rfl

set_option maxHeartbeats 1000000 in
theorem sorts_to : SortsTo := by
  intro base g cap ss w hr hss hlen
  rcases hr.2 with ⟨hv, _⟩ | ⟨g', cap', cur, hv, hbase, hb', h1, h2, h3, h4⟩
  · cases hv
  obtain ⟨rfl, rfl⟩ : g = g' ∧ cap = cap' := by
    simp only [Value.slice.injEq, Option.some.injEq, Addr.mk.injEq] at hv
    exact ⟨hv.1.1, hv.2.2⟩
  have hH : Holds encC w g 0 ss.toArray := fun j hj => by
    have h := holds_of_block hb' (by simpa using h4) j hj
    have hj' : j < ss.length := by simpa using hj
    have e : ss.toArray[j]! = ss[j] := by simp [hj']
    refine ⟨?_, h.2⟩
    rw [h.1, e]
    show some (encStr ss[j]) = some (encStr (cl ss[j]))
    rw [cl_id (hss _ (List.getElem_mem hj'))]
  have hcon := Any.slices_SortFunc Tryz.sortF encC (fun _ => rfl) cfC swoC 47 #[] g 0 cap ss.toArray w (enters_of Tryz.func47 (by kernel_rfl) rfl) (cmpC g 0 ss.toArray.size w).lays hH (Array.getElem?_eq_some_iff.1 hb').1 (by simp; omega)
  have HCON : Calls Tryz.prog 73 #[.slice (some ⟨g, 0, none⟩) ss.length cap, ordV] w fun e w' => e = .returned (.tuple #[]) ∧ ∃ d' n os, PermIn 0 ss.toArray.size ss.toArray d' ∧ SortedIn (ltOf cfC) 0 ss.toArray.size d' ∧ w' = sortWorld encC w g 0 n d' os := hcon
  refine Calls.mono HCON ?_
  rintro e w2 ⟨rfl, d', nn, os, hpm, hso, rfl⟩
  obtain ⟨ts, rfl⟩ : ∃ ts : List (List UInt8), d' = ts.toArray := ⟨d'.toList, by simp⟩
  have hl : ts.length = ss.length := by simpa using hpm.1
  have hpp : ts.Perm ss := by
    have := hpm.2.2
    simpa [hl, List.take_of_length_le] using this
  have hts : ∀ l ∈ ts, l.length ≤ 1000 := fun l h => hss l (hpp.mem_iff.1 h)
  rw [putC hts]
  refine ⟨rfl, ts, hpp, ?_, ?_, grownBy_sorted _⟩
  · rw [List.pairwise_iff_getElem]
    intro i j hi hj hij e
    have hs := hso i j (Nat.zero_le _) hij (by simp; omega)
    have e1 : ts.toArray[j]! = ts[j] := by simp [hj]
    have e2 : ts.toArray[i]! = ts[i] := by simp [hi]
    rw [e1, e2] at hs
    have : ltOf cfC ts[j] ts[i] = true := by
      rw [lt_iff, cl_id (hts _ (List.getElem_mem hj)), cl_id (hts _ (List.getElem_mem hi)), ordL_anti, e]
    rw [this] at hs
    cases hs
  · have := ownsRow_sorted (n := nn) (os := os) hl hbase hb' h1 h2 h3
    rw [hl]
    exact this
end Go.Proofs.YthelfbdkbldhjaaGreatDoor
namespace Go.Proofs.YthelfbdkbldhjaaGreatDoor
open Go.RowKit Go.Maps
set_option linter.unusedVariables false

theorem wpList_lookup_raw {P : Program} (w : World) {ops : Array Oper} {rest : List Oper} {o : Oper} {a : Act} {Q : Exit → Act → World → Prop} (hg : o.guard = none) (m x : Operand) (t : TypeId) (hop : o.op = Op.lookup t m x false)
    (k e : TypeId) (K : Keyed P k) (ht : P.underlying t = some (.map k e)) {z : Value} (hz : (zeroValue e).run P w = .ok z w) (b n : Nat) (D : DataW Value)
    (hm : a.eval m = .map (some b)) (hown : w.ownsMap P k raw b n D) (key : Value) (kl : Lit) (hx : a.eval x = key) (hkey : keyOf P k key = some kl)
    (hK : ∀ v ps, raw v = some (D.atKey kl (.held z), ps) → wpList P ops Q rest (a.put o.dst v) w) :
    wpList P ops Q (o :: rest) a w := by
  refine wpList_plain hg fun K' hK' => ?_
  obtain ⟨v, ps, hrun, hv⟩ := hown.lookup K ht hz (zd := .held z) (zp := []) rfl hkey
  unfold Oper.wp
  simp [execOp, hop, hm, hx, hrun, Result.andThen]
  exact hK' _ _ (hK v ps hv)

def cellsOf : Value → List Value
  | .agg xs => xs.toList
  | _ => []
theorem size_of {H : Type} (D : DataW H) : (strKeys D).length = Maps.size D := by
  cases D <;> simp [strKeys, Maps.size]

/-- All that a map has are nodes, at texts that are not too long. -/
def WF (D : DataW Value) : Prop := ∀ l ∈ strKeys D, l.length ≤ 1000 ∧ ∃ p d v m c o k, look D ⟨l.toArray⟩ = fuV p d v m c o k ∧ p.size ≤ 1000 ∧ d.size ≤ 1000

end Go.Proofs.YthelfbdkbldhjaaGreatDoor
namespace Go.Proofs.YthelfbdkbldhjaaGreatDoor
open Go.RowKit Go.Maps Go.Sort Go.Shelf
set_option linter.unusedVariables false

abbrev seqV (B : Nat) : Value := .func (.func 81) #[] #[.pointer (some ⟨B, 0, none⟩)]
theorem keys_any (mb : Option Nat) (w : World) :
    Calls Tryz.prog 52 #[.map mb] w fun e w' => e = .returned (seqV w.heap.size) ∧ w' = w.alloc (.cells #[.map mb] 47) :=
  (callsIn_wide (n := 5)).1 (AnyZ.keys_in Tryz.keysM Fence.wide 5 trivial rfl mb w)

theorem appSeq_any (B b n : Nat) (D : DataW Value) (w : World) (hB : B < w.heap.size) (hc : w.cell? ⟨B, 0, none⟩ = some (.map (some b))) (hm : MapAt w b n D) (hn : Maps.size D ≤ 1000000) :
    Calls Tryz.prog 106 #[.slice none 0 0, seqV B] w fun e w' => ∃ (v : Value) (ss : List (List UInt8)), e = .returned v ∧ ss.Perm (strKeys D) ∧ w'.ownsRow w.heap.size 9 1 v ss.length (ss.map encStr) ∧ (v = .slice none 0 0 ↔ ss = []) ∧ Below w.heap.size w w' :=
  (callsIn_wide (n := 5)).1 (AnyZ.appendSeq_in Tryz.appSeq Fence.wide 5 trivial rfl (by omega) 81 #[.pointer (some ⟨B, 0, none⟩)] trivial (enters_of Tryz.func81 (by kernel_rfl) rfl) (fun ss => ss.Perm (strKeys D)) (Maps.size D) (by unfold maxLen; omega) (by omega) w
    (AnyZ.keys_gives (ρ := Tryz.keysI_ren) Tryz.keysI Fence.wide 4 trivial rfl (by omega) B b n D w hB hc hm))

set_option maxHeartbeats 1000000 in
theorem collect_any (B b n : Nat) (D : DataW Value) (w : World) (hB : B < w.heap.size) (hc : w.cell? ⟨B, 0, none⟩ = some (.map (some b))) (hm : MapAt w b n D) (hn : Maps.size D ≤ 1000000) :
    Calls Tryz.prog 80 #[seqV B] w fun e w' => ∃ (v : Value) (ss : List (List UInt8)), e = .returned v ∧ ss.Perm (strKeys D) ∧ w'.ownsRow w.heap.size 9 1 v ss.length (ss.map encStr) ∧ (v = .slice none 0 0 ↔ ss = []) ∧ Below w.heap.size w w' := by
  have HA : Hid _ := appSeq_any B b n D w hB hc hm hn
  clear hB hc hm hn
  go_enter Tryz.func80, Tryz.ntmps80
  go_wp2_with (first | (go_at_call 106; refine Calls.mono HA.out ?_; rintro e w1 ⟨v, ss, rfl, hp, hr, hnil, hb⟩) | fail)
  go_ret
  exact ⟨v, ss, rfl, hp, hr, hnil, hb⟩

/-- In the order of places. -/
def Asc (ts : List (List UInt8)) : Prop := ts.Pairwise (fun x y => ordL x y ≠ 1)

set_option maxHeartbeats 1000000 in
theorem sorted_any (B b n : Nat) (D : DataW Value) (w : World) (hB : B < w.heap.size) (hc : w.cell? ⟨B, 0, none⟩ = some (.map (some b))) (hm : MapAt w b n D) (hn : Maps.size D ≤ 1000000) (hk : ∀ l ∈ strKeys D, l.length ≤ 1000) (hne : strKeys D ≠ []) (hkl : (strKeys D).length ≤ 1000000) :
    Calls Tryz.prog 51 #[seqV B, .func (.func 47) #[] #[]] w fun e w' => ∃ (g cap : Nat) (ts : List (List UInt8)), e = .returned (.slice (some ⟨g, 0, none⟩) ts.length cap) ∧ ts.Perm (strKeys D) ∧ Asc ts ∧ w'.ownsRow w.heap.size 9 1 (.slice (some ⟨g, 0, none⟩) ts.length cap) ts.length (ts.map encStr) ∧ Below w.heap.size w w' := by
  have HA : Hid _ := collect_any B b n D w hB hc hm hn
  have HK : Hid _ := hk
  have HNE : Hid _ := hne
  have HN : Hid ((strKeys D).length ≤ 1000000) := hkl
  clear hB hc hm hn hk hne hkl
  go_enter Tryz.func51, Tryz.ntmps51
  go_wp2_with fail
  refine Calls.mono HA.out ?_
  rintro e w1 ⟨v, ss, rfl, hp, hr, hnil, hb⟩
  have hss : ∀ l ∈ ss, l.length ≤ 1000 := fun l hl => HK.out l (hp.mem_iff.1 hl)
  have hlen : ss.length ≤ 1000000 := by rw [hp.length_eq]; exact HN.out
  rcases hr.2 with ⟨hv, _⟩ | ⟨g, cap, cur, hv, hbase, hb', h1, h2, h3, h4⟩
  · have := hnil.1 hv
    subst this
    exact absurd (List.perm_nil.1 hp.symm) HNE.out
  subst hv
  have hH : Holds encC w1 g 0 ss.toArray := fun j hj => by
    have h := holds_of_block hb' (by simpa using h4) j hj
    have hj' : j < ss.length := by simpa using hj
    have e : ss.toArray[j]! = ss[j] := by simp [hj']
    refine ⟨?_, h.2⟩
    rw [h.1, e]
    show some (encStr ss[j]) = some (encStr (cl ss[j]))
    rw [cl_id (hss _ (List.getElem_mem hj'))]
  have hcon := Any.slices_SortFunc Tryz.sortF encC (fun _ => rfl) cfC swoC 47 #[] g 0 cap ss.toArray w1 (enters_of Tryz.func47 (by kernel_rfl) rfl) (cmpC g 0 ss.toArray.size w1).lays hH (Array.getElem?_eq_some_iff.1 hb').1 (by simp; omega)
  have HCON : Hid (Calls Tryz.prog 73 #[.slice (some ⟨g, 0, none⟩) ss.length cap, .func (.func 47) #[] #[]] w1 fun e w' => e = .returned (.tuple #[]) ∧ ∃ d' n os, PermIn 0 ss.toArray.size ss.toArray d' ∧ SortedIn (ltOf cfC) 0 ss.toArray.size d' ∧ w' = sortWorld encC w1 g 0 n d' os) := hcon
  have HR : Hid (Go.RowKit.Below w.heap.size w w1) := hb
  have HS : Hid _ := hss
  have HP : Hid _ := hp
  have HX : Hid (w.heap.size ≤ g ∧ w1.heap[g]? = some (.cells cur 9 (0, 0)) ∧ ss.length ≤ cap ∧ cap ≤ maxLen ∧ cur.size = cap * 1) := ⟨hbase, hb', h1, h2, h3⟩
  clear hcon hH hr hnil hb hss hp hbase hb' h1 h2 h3 h4 hlen
  go_wp2_with (first | (go_at_call 73; refine Calls.mono HCON.out ?_; rintro e w2 ⟨rfl, d', nn, os, hpm, hso, rfl⟩) | fail)
  obtain ⟨ts, rfl⟩ : ∃ ts : List (List UInt8), d' = ts.toArray := ⟨d'.toList, by simp⟩
  have hl : ts.length = ss.length := by simpa using hpm.1
  have hpp : ts.Perm ss := by
    have := hpm.2.2
    simpa [hl, List.take_of_length_le] using this
  have hts : ∀ l ∈ ts, l.length ≤ 1000 := fun l h => HS.out l (hpp.mem_iff.1 h)
  rw [putC hts]
  go_ret
  refine ⟨g, cap, ts, (by rw [hl] <;> rfl), hpp.trans HP.out, ?_, ?_, HR.out.grown (grownBy_sorted _) HR.out.size (fun j hj => by cases hj; exact HX.out.1)⟩
  · unfold Asc
    rw [List.pairwise_iff_getElem]
    intro i j hi hj hij e
    have hs := hso i j (Nat.zero_le _) hij (by simp; omega)
    have e1 : ts.toArray[j]! = ts[j] := by simp [hj]
    have e2 : ts.toArray[i]! = ts[i] := by simp [hi]
    rw [e1, e2] at hs
    have : ltOf cfC ts[j] ts[i] = true := by
      rw [lt_iff, cl_id (hts _ (List.getElem_mem hj)), cl_id (hts _ (List.getElem_mem hi)), ordL_anti, e]
    rw [this] at hs
    cases hs
  · have := ownsRow_sorted (n := nn) (os := os) hl HX.out.1 HX.out.2.1 HX.out.2.2.1 HX.out.2.2.2.1 HX.out.2.2.2.2
    rw [hl]
    exact this

set_option maxHeartbeats 1000000 in
/-- The places of all nodes, in their order. -/
theorem places_any (b n : Nat) (D : DataW Value) (w : World) (hm : MapAt w b n D) (hn : Maps.size D ≤ 1000000) (hk : ∀ l ∈ strKeys D, l.length ≤ 1000) (hne : strKeys D ≠ []) :
    Calls Tryz.prog 32 #[.map (some b)] w fun e w' => ∃ (g cap : Nat) (ts : List (List UInt8)), e = .returned (.slice (some ⟨g, 0, none⟩) ts.length cap) ∧ ts.Perm (strKeys D) ∧ Asc ts ∧ w'.ownsRow w.heap.size 9 1 (.slice (some ⟨g, 0, none⟩) ts.length cap) ts.length (ts.map encStr) ∧ Go.RowKit.Below w.heap.size w w' := by
  have HS : Hid _ := sorted_any w.heap.size b n D (w.alloc (.cells #[.map (some b)] 47)) (by simp) (by simp) (map_below hm ((Go.RowKit.Below.refl _ _).alloc (Nat.le_refl _) _)) hn hk hne (by rw [size_of]; exact hn)
  clear hm hn hk hne
  go_enter Tryz.func32, Tryz.ntmps32
  go_wp2_with (first
    | (go_at_call 52; refine (keys_any _ _).mono ?_; rintro e w1 ⟨rfl, rfl⟩)
    | (go_at_call 51; refine Calls.mono HS.out ?_; rintro e w2 ⟨g, cap, ts, rfl, h1, h2, h3, h4⟩)
    | fail)
  go_ret
  exact ⟨g, cap, ts, rfl, h1, h2, ⟨h3.1, h3.2.imp id (fun ⟨g', c', cur, a, b, c⟩ => ⟨g', c', cur, a, by simp at b; omega, c⟩)⟩, trans2 ((Go.RowKit.Below.refl _ _).alloc (Nat.le_refl _) _) h4⟩
end Go.Proofs.YthelfbdkbldhjaaGreatDoor
