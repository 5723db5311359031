import Derived.Shelf.Strings.Fields
import Derived.Test.YtdjfeomdiljaeaaGreatDoorProg
import Derived.Test.YtdjfeomdiljaeaaGreatDoorNtApp
namespace Go.Proofs
open Go.Shelf
def Tryz.lays157_ren : Go.Shelf.Ren := ⟨fun | 157 => 85 | 229 => 159 | 199 => 160 | 261 => 237 | 311 => 277 | 312 => 278 | n => n, fun | 9 => 9 | 31 => 87 | 3 => 3 | 5 => 5 | 4 => 4 | 119 => 218 | 0 => 0 | 40 => 220 | 152 => 283 | 21 => 21 | 154 => 285 | 51 => 286 | 141 => 288 | 196 => 306 | 193 => 303 | 198 => 309 | 49 => 307 | 194 => 304 | 201 => 312 | 226 => 320 | 46 => 290 | 227 => 321 | n => n, fun | 0 => 2 | 6 => 3 | n => n⟩
theorem Tryz.lays157 : Go.Proofs.Lays.n157 Tryz.prog Tryz.lays157_ren := {
  mixed := by kernel_rfl
  f157 := Tryz.func85.trans (congrArg some (by kernel_rfl))
  f199 := Tryz.func160.trans (congrArg some (by kernel_rfl))
  f229 := Tryz.func159.trans (congrArg some (by kernel_rfl))
  f261 := Tryz.func237.trans (congrArg some (by kernel_rfl))
  f311 := Tryz.func277.trans (congrArg some (by kernel_rfl))
  f312 := Tryz.func278.trans (congrArg some (by kernel_rfl))
  t0 := Tryz.underlying0
  a0 := Tryz.isAgg0
  z0 := Tryz.sizeOf0
  v0 := Tryz.zeroValue0
  t3 := Tryz.underlying3
  a3 := Tryz.isAgg3
  z3 := Tryz.sizeOf3
  v3 := Tryz.zeroValue3
  t4 := Tryz.underlying4
  a4 := Tryz.isAgg4
  z4 := Tryz.sizeOf4
  v4 := Tryz.zeroValue4
  t5 := Tryz.underlying5
  a5 := Tryz.isAgg5
  z5 := Tryz.sizeOf5
  v5 := Tryz.zeroValue5
  t9 := Tryz.underlying9
  a9 := Tryz.isAgg9
  z9 := Tryz.sizeOf9
  v9 := Tryz.zeroValue9
  t21 := Tryz.underlying21
  a21 := Tryz.isAgg21
  z21 := Tryz.sizeOf21
  v21 := Tryz.zeroValue21
  t31 := Tryz.underlying87
  a31 := Tryz.isAgg87
  z31 := Tryz.sizeOf87
  v31 := Tryz.zeroValue87
  t40 := Tryz.underlying220
  a40 := Tryz.isAgg220
  z40 := Tryz.sizeOf220
  v40 := Tryz.zeroValue220
  t46 := Tryz.underlying290
  a46 := Tryz.isAgg290
  z46 := Tryz.sizeOf290
  v46 := Tryz.zeroValue290
  t49 := Tryz.underlying307
  a49 := Tryz.isAgg307
  z49 := Tryz.sizeOf307
  v49 := Tryz.zeroValue307
  t51 := Tryz.underlying286
  a51 := Tryz.isAgg286
  z51 := Tryz.sizeOf286
  v51 := Tryz.zeroValue286
  t119 := Tryz.underlying218
  a119 := Tryz.isAgg218
  z119 := Tryz.sizeOf218
  t141 := Tryz.underlying288
  a141 := Tryz.isAgg288
  z141 := Tryz.sizeOf288
  v141 := Tryz.zeroValue288
  t152 := Tryz.underlying283
  a152 := Tryz.isAgg283
  z152 := Tryz.sizeOf283
  v152 := Tryz.zeroValue283
  t154 := Tryz.underlying285
  a154 := Tryz.isAgg285
  z154 := Tryz.sizeOf285
  v154 := Tryz.zeroValue285
  t193 := Tryz.underlying303
  a193 := Tryz.isAgg303
  z193 := Tryz.sizeOf303
  v193 := Tryz.zeroValue303
  t194 := Tryz.underlying304
  a194 := Tryz.isAgg304
  z194 := Tryz.sizeOf304
  v194 := Tryz.zeroValue304
  t196 := Tryz.underlying306
  a196 := Tryz.isAgg306
  z196 := Tryz.sizeOf306
  v196 := Tryz.zeroValue306
  t198 := Tryz.underlying309
  a198 := Tryz.isAgg309
  z198 := Tryz.sizeOf309
  v198 := Tryz.zeroValue309
  t201 := Tryz.underlying312
  a201 := Tryz.isAgg312
  z201 := Tryz.sizeOf312
  v201 := Tryz.zeroValue312
  t226 := Tryz.underlying320
  a226 := Tryz.isAgg320
  z226 := Tryz.sizeOf320
  v226 := Tryz.zeroValue320
  t227 := Tryz.underlying321
  a227 := Tryz.isAgg321
  z227 := Tryz.sizeOf321
  v227 := Tryz.zeroValue321
  g0 := by kernel_rfl
  g6 := by kernel_rfl }
open Go.RowKit Go.Lib in
theorem Tryz.strings_Fields (s : ByteArray) (w : World) (hs : s.size < 4294967281) (hascii : ∀ (j : Nat) b, s.data.toList[j]? = some b → b.toNat < 128) (htab : Lib.TabIs Tryz.prog w "strings.asciiSpace" .u8 Lib.asciiSpaceTab) :
    Calls Tryz.prog 85 #[.string s] w fun e w' =>
      e = .returned (.slice (some ⟨w.heap.size, 0, none⟩) (Lib.fields s.data.toList).length (Lib.fields s.data.toList).length) ∧ w' = w.alloc (.cells ((Lib.fields s.data.toList).map fun l => Value.string ⟨l.toArray⟩).toArray 9) := Any.strings_Fields Tryz.lays157 (by kernel_rfl) (by kernel_rfl) s w hs hascii htab
end Go.Proofs
namespace Go.Proofs.YtdjfeomdiljaeaaGreatDoor
open Go.RowKit
set_option linter.unusedVariables false
set_option linter.unusedSimpArgs false

theorem fieldsOf_bad (k : Int) (w : World) (h : ¬ (1 ≤ k ∧ k < 25)) : Calls Tryz.prog 41 #[.int .i64 k] w fun e w' => e = .panicked PN ∧ Below w.heap.size w w' := by
  by_cases h1 : 1 ≤ k
  · have h2 : ¬ k < 25 := fun g => h ⟨h1, g⟩
    clear h
    go_enter Tryz.func41, Tryz.ntmps41
    go_wp2_with (first
      | (go_at_call 70; refine Calls.mono (must_no _) ?_; rintro e w1 ⟨rfl, rfl⟩)
      | fail)
    exact ⟨rfl, rfl, Below.refl _ _⟩
  · clear h
    go_enter Tryz.func41, Tryz.ntmps41
    go_wp2_with (first
      | (go_at_call 70; refine Calls.mono (must_no _) ?_; rintro e w1 ⟨rfl, rfl⟩)
      | fail)
    exact ⟨rfl, rfl, Below.refl _ _⟩
/-- The names that stand in the table for a kind. -/
def allNm : List ByteArray := allT.map fun x => x.1
end Go.Proofs.YtdjfeomdiljaeaaGreatDoor
namespace Go.Proofs.YtdjfeomdiljaeaaGreatDoor
open Go.RowKit
set_option linter.unusedVariables false
set_option linter.unusedSimpArgs false

def fidx (l : List UInt8) : Nat := (allT.map fun x => x.1.data.toList).findIdx (fun n => n == l)
theorem toList_mk (l : List UInt8) : (⟨l.toArray⟩ : ByteArray).toList = l := by rw [ByteArray.toList_eq]
theorem look_any (L : List FieldT) (hn : L.map (fun x => (x.1.nm, x.2)) = allT) (l : List UInt8) (h : fidx l < 16) :
    ∃ x, L[fidx l]? = some x ∧ (x.1.nm.toList == (⟨l.toArray⟩ : ByteArray).toList) = true ∧ allT[fidx l]? = some (x.1.nm, x.2) ∧ ∀ (j : Nat) (y : FieldT), j < fidx l → L[j]? = some y → (y.1.nm.toList == (⟨l.toArray⟩ : ByteArray).toList) = false := by
  have e : (L.map fun x => x.1.nm.data.toList) = allT.map fun x => x.1.data.toList := by rw [← hn, List.map_map]; rfl
  have hl : L.length = 16 := by
    have h1 := congrArg List.length hn
    rw [List.length_map] at h1
    rw [h1]
    rfl
  have e2 : fidx l = (L.map fun x => x.1.nm.data.toList).findIdx (fun n => n == l) := by rw [e]; rfl
  obtain ⟨x, hx⟩ : ∃ x, L[fidx l]? = some x := ⟨L[fidx l]'(by omega), List.getElem?_eq_getElem _⟩
  refine ⟨x, hx, ?_, ?_, fun j y hj hy => ?_⟩
  · have hlt : (L.map fun x => x.1.nm.data.toList).findIdx (fun n => n == l) < (L.map fun x => x.1.nm.data.toList).length := by rw [← e2, List.length_map]; omega
    have h2 := List.findIdx_getElem (w := hlt)
    have h3 : (L.map fun x => x.1.nm.data.toList)[fidx l]? = some x.1.nm.data.toList := by rw [List.getElem?_map, hx]; rfl
    rw [List.getElem?_eq_getElem (by rw [e2]; exact hlt)] at h3
    have h4 : (L.map fun x => x.1.nm.data.toList)[fidx l]'(by rw [e2]; exact hlt) = x.1.nm.data.toList := by simpa using h3
    have h5 : (x.1.nm.data.toList == l) = true := by
      rw [← h4]
      simp only [e2]
      exact h2
    rw [toList_mk, ByteArray.toList_eq]
    exact h5
  · rw [← hn, List.getElem?_map, hx]
    rfl
  · have hj2 : j < (L.map fun x => x.1.nm.data.toList).findIdx (fun n => n == l) := by rw [← e2]; exact hj
    have h2 := List.not_of_lt_findIdx hj2
    have h3 : (L.map fun x => x.1.nm.data.toList)[j]? = some y.1.nm.data.toList := by rw [List.getElem?_map, hy]; rfl
    have hjl : j < (L.map fun x => x.1.nm.data.toList).length := by rw [List.length_map]; exact (List.getElem?_eq_some_iff.1 hy).1
    rw [List.getElem?_eq_getElem hjl] at h3
    have h4 : (L.map fun x => x.1.nm.data.toList)[j]'hjl = y.1.nm.data.toList := by simpa using h3
    rw [toList_mk, ByteArray.toList_eq, ← h4]
    simpa using h2
end Go.Proofs.YtdjfeomdiljaeaaGreatDoor
namespace Go.Proofs.YtdjfeomdiljaeaaGreatDoor
open Go.RowKit
set_option linter.unusedVariables false
set_option linter.unusedSimpArgs false

/-- The table: which fields a kind has. -/
def kfT : List ByteArray := [⟨#[]⟩, ⟨#[83, 101, 115, 115, 105, 111, 110]⟩, ⟨#[83, 101, 115, 115, 105, 111, 110, 32, 82, 101, 113, 117, 101, 115, 116, 32, 79, 112, 115]⟩, ⟨#[83, 101, 115, 115, 105, 111, 110]⟩, ⟨#[83, 101, 115, 115, 105, 111, 110, 32, 67, 111, 110, 110]⟩, ⟨#[83, 101, 115, 115, 105, 111, 110, 32, 67, 111, 110, 110, 32, 83, 116, 97, 109, 112, 32, 87, 97, 116, 99, 104, 101, 115]⟩, ⟨#[83, 101, 115, 115, 105, 111, 110, 32, 67, 111, 110, 110, 32, 87, 97, 116, 99, 104, 101, 115]⟩, ⟨#[83, 101, 115, 115, 105, 111, 110, 32, 67, 111, 110, 110, 32, 87, 97, 116, 99, 104, 101, 115]⟩, ⟨#[83, 101, 115, 115, 105, 111, 110, 32, 67, 111, 110, 110, 32, 83, 116, 97, 109, 112]⟩, ⟨#[78, 117, 109, 32, 83, 101, 115, 115, 105, 111, 110, 32, 67, 111, 100, 101]⟩, ⟨#[78, 117, 109, 32, 83, 101, 115, 115, 105, 111, 110, 32, 82, 101, 113, 117, 101, 115, 116, 32, 82, 101, 112, 108, 121]⟩, ⟨#[78, 117, 109, 32, 83, 101, 115, 115, 105, 111, 110]⟩, ⟨#[78, 117, 109, 32, 83, 101, 115, 115, 105, 111, 110, 32, 67, 111, 110, 110, 32, 83, 116, 97, 109, 112, 32, 67, 111, 100, 101]⟩, ⟨#[78, 117, 109, 32, 83, 101, 115, 115, 105, 111, 110, 32, 67, 111, 110, 110, 32, 83, 116, 97, 109, 112, 32, 67, 111, 100, 101, 32, 80, 97, 114, 116, 115]⟩, ⟨#[78, 117, 109, 32, 83, 101, 115, 115, 105, 111, 110, 32, 67, 111, 110, 110, 32, 87, 97, 116, 99, 104, 101, 115, 32, 73, 116, 101, 109, 115]⟩, ⟨#[86, 105, 101, 119]⟩, ⟨#[78, 117, 109, 32, 83, 116, 97, 109, 112, 32, 79, 102]⟩, ⟨#[78, 117, 109, 32, 83, 116, 97, 109, 112, 32, 79, 102, 32, 69, 110, 116, 114, 105, 101, 115, 32, 67, 111, 109, 109, 105, 116]⟩, ⟨#[78, 117, 109, 32, 83, 116, 97, 109, 112]⟩, ⟨#[78, 117, 109, 32, 83, 116, 97, 109, 112, 32, 79, 102, 32, 83, 116, 97, 116, 101]⟩, ⟨#[78, 117, 109]⟩, ⟨#[]⟩, ⟨#[86, 105, 101, 119]⟩, ⟨#[78, 117, 109]⟩, ⟨#[78, 117, 109, 32, 83, 101, 115, 115, 105, 111, 110, 32, 67, 111, 110, 110, 32, 87, 97, 116, 99, 104, 101, 115]⟩]
theorem owns_shapeN {w : World} {B e s n : Nat} {v : Value} {xs : List Value} (h : w.ownsRow B e s v n xs) : ∃ a c, v = .slice a n c := by
  rcases h.2 with ⟨rfl, rfl⟩ | ⟨g, cap, cur, hv, _⟩
  · exact ⟨none, 0, rfl⟩
  · exact ⟨_, cap, hv⟩
theorem owns_loN {w : World} {B B' e s n : Nat} {v : Value} {xs : List Value} (h : w.ownsRow B e s v n xs) (hB : B' ≤ B) : w.ownsRow B' e s v n xs :=
  ⟨h.1, h.2.imp id (fun ⟨g, cap, cur, a, b, c⟩ => ⟨g, cap, cur, a, Nat.le_trans hB b, c⟩)⟩
/-- What fieldsOf leaves: the rows of the names that the table has for a kind. -/
def FoEnd (s : ByteArray) (w : World) (e : Ending) (w' : World) : Prop := ∃ (v : Value) (X : List FieldT), e = .returned v ∧ (∃ a c, v = .slice a X.length c) ∧ w'.ownsRow w.heap.size 148 5 v X.length (fCs X) ∧ (X.map (fun x => some (x.1.nm, x.2)) = (Lib.fields s.data.toList).map fun l => allT[fidx l]?) ∧ (∀ x ∈ X, x.1.Ck w' x.2.1 x.2.2) ∧ Below w.heap.size w w'
structure KfAt (w : World) : Prop where
  kf : ∀ (k : Nat) (s : ByteArray), kfT[k]? = some s → w.cell? ⟨0, k, none⟩ = some (.string s)
  tab : Lib.TabIs Tryz.prog w "strings.asciiSpace" .u8 Lib.asciiSpaceTab
def kfOk (s : ByteArray) : Bool := s.size < 100 && s.data.toList.all (fun b => b.toNat < 128)
theorem kf_all : kfT.all kfOk = true := by kernel_rfl
theorem cnt_ok : kfT.all (fun s => decide ((Lib.fields s.data.toList).length ≤ 100)) = true := by kernel_rfl
theorem fidx_ok : kfT.all (fun s => (Lib.fields s.data.toList).all (fun l => decide (fidx l < 16))) = true := by kernel_rfl
set_option maxHeartbeats 6400000 in
set_option maxRecDepth 100000 in
theorem fieldsOf_any (k : Nat) (s : ByteArray) (hk1 : 1 ≤ k) (hk2 : k < 25) (hs : kfT[k]? = some s) (w : World) (hK : KfAt w) (hKb : ∀ w', Below w.heap.size w w' → KfAt w') : Calls Tryz.prog 41 #[.int .i64 k] w (FoEnd s w) := by
  have h1 : (1 : Int) ≤ (k : Int) := by omega
  have h2 : (k : Int) < 25 := by omega
  have h0 : (0 : Int) ≤ (k : Int) := by omega
  have HKB : Hid (∀ w', Below w.heap.size w w' → KfAt w') := hKb
  have HSO : Hid (kfT[k]? = some s) := hs
  have hok : kfOk s = true := by
    have h3 := List.all_eq_true.1 kf_all s (List.mem_of_getElem? hs)
    exact h3
  have HOKS : Hid (kfOk s = true) := hok
  clear hK hKb hs hok
  go_enter Tryz.func41, Tryz.ntmps41
  go_upto_region 4 with (first
    | (go_at_call 70; refine Calls.mono (must_yes _) ?_; rintro e w1 ⟨rfl, hw1⟩; rw [hw1]; clear hw1)
    | (go_at_call 84; refine Calls.mono (all_row _) ?_; rintro e w2 ⟨g, L, rfl, hl, hn, hr, hc, hb⟩
       have HLL : Hid (L.length = 16) := hl
       have HNN : Hid (L.map (fun x => (x.1.nm, x.2)) = allT) := hn
       have HRR : Hid (RowC w2 (some ⟨g, 0, none⟩) 5 (L.map fun x => x.1.cl)) := hr
       have HCC : Hid (∀ x ∈ L, x.1.Ck w2 x.2.1 x.2.2) := hc
       have HB2 : Hid (Below w.heap.size w w2) := hb
       clear hl hn hr hc hb)
    | fail)
  have hkc := (HKB.out w2 HB2.out).kf k s HSO.out
  have HFS : Hid _ := Tryz.strings_Fields s w2 (by have h3 := HOKS.out; simp [kfOk] at h3; omega) (fun j b hb => by
    have h3 := HOKS.out
    simp only [kfOk, Bool.and_eq_true, List.all_eq_true, decide_eq_true_eq] at h3
    exact h3.2 b (List.mem_of_getElem? hb)) (HKB.out w2 HB2.out).tab
  go_wp2_with (first
    | (go_at_call 85; refine Calls.mono HFS.out ?_; rintro e w3 ⟨rfl, rfl⟩)
    | fail)
  obtain ⟨NL, hNL⟩ : ∃ NL, Lib.fields s.data.toList = NL := ⟨_, rfl⟩
  have HNN2 : Hid (Lib.fields s.data.toList = NL) := hNL
  have HFI : Hid (∀ l ∈ NL, fidx l < 16) := by
    show ∀ l ∈ NL, fidx l < 16
    intro l hl
    have h3 := List.all_eq_true.1 fidx_ok s (List.mem_of_getElem? HSO.out)
    rw [hNL] at h3
    exact of_decide_eq_true (List.all_eq_true.1 h3 l hl)
  obtain ⟨n, hn⟩ : ∃ n, NL.length = n := ⟨_, rfl⟩
  have HNL : Hid (NL.length = n) := hn
  obtain ⟨nb, hnb⟩ : ∃ nb, w2.heap.size = nb := ⟨_, rfl⟩
  obtain ⟨W3, hW3⟩ : ∃ W3, w2.alloc (.cells (NL.map fun l => Value.string ⟨l.toArray⟩).toArray 9) = W3 := ⟨_, rfl⟩
  have HB3 : Hid (Below w2.heap.size w2 W3) := by rw [← hW3]; exact (Below.refl _ _).alloc (Nat.le_refl _) _
  have HE3 : Hid (W3.heap[nb]? = some (.cells (NL.map fun l => Value.string ⟨l.toArray⟩).toArray 9 (0, 0))) := by show _ = _; rw [← hW3, ← hnb]; exact heap_alloc_new _ _
  have HNLE : Hid (n ≤ 100) := by
    show n ≤ 100
    have h3 := List.all_eq_true.1 cnt_ok s (List.mem_of_getElem? HSO.out)
    rw [hNL] at h3
    have h4 : NL.length ≤ 100 := of_decide_eq_true h3
    omega
  rw [hNL, hn, hW3, hnb]
  clear hn hnb hW3 hkc
  have hnle := HNLE.out
  have HBW : Hid (Below w.heap.size w W3) := xtransN HB2.out HB3.out
  go_loopw [4, 21] (fun v iv wr => ∃ (q : Nat) (X : List FieldT), iv = .int .i64 q ∧ q ≤ n ∧ X.length = q ∧ Hid (wr.ownsRow W3.heap.size 148 5 v X.length (fCs X)) ∧ Hid (∀ x ∈ X, x ∈ L) ∧ Hid (X.map (fun x => some (x.1.nm, x.2)) = (NL.take q).map fun l => allT[fidx l]?) ∧ Hid (Below W3.heap.size W3 wr)) (fun _ iv _ => n - (intOf iv).toNat)
  case atStart => exact ⟨0, [], rfl, Nat.zero_le _, rfl, World.ownsRow_nil _ _ _ _, fun x hx => (by cases hx), rfl, Below.refl _ _⟩
  case round =>
    obtain ⟨q, X, rfl, hqn, hXq, HOr, HXL, HXM, HBr⟩ := hrel
    by_cases hlt : q < n
    · have hlt' : (q : Int) < (n : Int) := by omega
      obtain ⟨l, hl⟩ : ∃ l, NL[q]? = some l := ⟨NL[q]'(by rw [HNL.out]; exact hlt), List.getElem?_eq_getElem _⟩
      obtain ⟨x, hx, hxn, hxt, hbf⟩ := look_any L HNN.out l (HFI.out l (List.mem_of_getElem? hl))
      have n0 : wr.cell? ⟨nb, q, none⟩ = some (.string ⟨l.toArray⟩) := by
        have h3 := kept_block HBr.out HE3.out
        unfold World.cell?
        rw [h3]
        simp [hl]
      have HLQ : Hid (NL[q]? = some l) := hl
      have HX : Hid (L[fidx l]? = some x) := hx
      have HXN : Hid _ := hxn
      have HXT : Hid (allT[fidx l]? = some (x.1.nm, x.2)) := hxt
      have HBF : Hid _ := hbf
      clear hl hx hxn hxt hbf
      go_upto_region 7 with fail
      obtain ⟨bx, hbx⟩ : ∃ bx, wr.heap.size = bx := ⟨_, rfl⟩
      obtain ⟨w4, hw4⟩ : ∃ w4, wr.alloc (.cells #[.string ⟨l.toArray⟩] 9) = w4 := ⟨_, rfl⟩
      have HB4 : Hid (Below wr.heap.size wr w4) := by rw [← hw4]; exact (Below.refl _ _).alloc (Nat.le_refl _) _
      have HC4 : Hid (w4.cell? ⟨bx, 0, none⟩ = some (.string ⟨l.toArray⟩)) := by show _ = _; rw [← hw4, ← hbx]; exact cells_1 (heap_alloc_new _ _)
      have HL4 : Hid (RowC w4 (some ⟨g, 0, none⟩) 5 (L.map fun x => x.1.cl)) := HRR.out.below (xtransN HB3.out (xtransN HBr.out HB4.out))
      have HIX : Hid (Calls Tryz.prog 86 #[.slice (some ⟨g, 0, none⟩) 16 16, .func (.func 87) #[] #[ptV bx]] w4 fun e w' => e = .returned (.int .i64 (fidx l : Nat)) ∧ Below w4.heap.size w4 w') := by
        have h3 := index_any (some ⟨g, 0, none⟩) L (fidx l) x ⟨l.toArray⟩ bx w4 HL4.out HC4.out HX.out HXN.out HBF.out 16
        rw [HLL.out] at h3
        exact h3
      have HFL : Hid (fidx l < 16) := by
        have h3 := (List.getElem?_eq_some_iff.1 HX.out).1
        rw [HLL.out] at h3
        exact h3
      obtain ⟨fi, hfi⟩ : ∃ fi, fidx l = fi := ⟨_, rfl⟩
      have HFE : Hid (fidx l = fi) := hfi
      rw [hfi] at HIX HFL HX
      rw [hw4, hbx]
      clear hw4 hbx hfi n0
      go_upto_region 8 with (first
        | (go_at_call 86; refine Calls.mono HIX.out ?_; rintro e w5 ⟨rfl, hb⟩
           have HB5 : Hid (Below wr.heap.size wr w5) := xtransN HB4.out hb
           clear hb)
        | fail)
      have hf1 : (fi : Int) < 16 := by have := HFL.out; omega
      have hf0 : (0 : Int) ≤ (fi : Int) := by omega
      have HX5 : Hid (w5.cell? ⟨g, fi * 5, none⟩ = some (.string x.1.nm) ∧ w5.cell? ⟨g, fi * 5 + 1, none⟩ = some (.func (.func x.1.cF) #[] x.1.cC) ∧ w5.cell? ⟨g, fi * 5 + 2, none⟩ = some (.func (.func x.1.eF) #[] x.1.eC) ∧ w5.cell? ⟨g, fi * 5 + 3, none⟩ = some (.func (.func x.1.wF) #[] x.1.wC) ∧ w5.cell? ⟨g, fi * 5 + 4, none⟩ = some (.func (.func x.1.rF) #[] x.1.rC)) := by
        obtain ⟨g', o, e0, m0, m1, m2, m3, m4⟩ := (HRR.out.below (xtransN HB3.out (xtransN HBr.out HB5.out))).at5 (map_at (f := fun x : FieldT => x.1.cl) HX.out)
        simp only [Option.some.injEq, Addr.mk.injEq, and_true] at e0
        obtain ⟨rfl, rfl⟩ := e0
        simp only [Nat.zero_add] at m0 m1 m2 m3 m4
        exact ⟨m0, m1, m2, m3, m4⟩
      obtain ⟨m0, m1, m2, m3, m4⟩ := HX5.out
      have HO5 : Hid _ := owns_below HOr.out HB5.out
      have hap : ∀ (o : Obj), True := fun _ => trivial
      go_wp2_with (first
        | (at_builtin; refine wpList_appF rfl _ _ rfl W3.heap.size _ X rfl (owns_below HO5.out ((Below.refl _ _).alloc (Nat.le_refl _) _)) w5.heap.size x rfl (heap_alloc_new _ _) (by omega) (by have h3 := HBr.out.size; have h4 := HB5.out.size; rw [World.size_alloc]; omega) ?_
           intro v7 w7 ho7 hb7
           have HO7 : Hid (w7.ownsRow W3.heap.size 148 5 v7 (X ++ [x]).length (fCs (X ++ [x]))) := ho7
           have HB7 : Hid (Below W3.heap.size W3 w7) := (xtransN HBr.out (ext_alloc HB5.out _)).trans hb7
           clear ho7 hb7 m0 m1 m2 m3 m4)
        | fail)
      go_roundw
      case rel => exact ⟨q + 1, X ++ [x], by go_num, by omega, by simp [hXq], HO7.out, fun y hy => (by
          rcases List.mem_append.1 hy with h3 | h3
          · exact HXL.out y h3
          · rw [List.mem_singleton.1 h3]
            exact List.mem_of_getElem? HX.out), (by
          show _ = _
          rw [List.map_append, HXM.out, List.take_add_one, HLQ.out, List.map_append]
          simp [HXT.out]), HB7.out⟩
      case measure => simp [intOf]; omega
    · have hlt' : ¬ (q : Int) < (n : Int) := by omega
      have hq : q = n := by omega
      obtain ⟨ha, hc, hv⟩ := owns_shapeN HOr.out
      have HV : Hid (_ = Value.slice ha X.length hc) := hv
      have HXE : Hid (X.map (fun x => some (x.1.nm, x.2)) = NL.map fun l => allT[fidx l]?) := by
        show _ = _
        rw [HXM.out, List.take_of_length_le (by rw [HNL.out, hq]; exact Nat.le_refl _)]
      clear hv hq
      go_wp2_with fail
      go_ret
      exact ⟨_, X, rfl, ⟨ha, hc, HV.out⟩, owns_loN HOr.out (Nat.le_trans HB2.out.size HB3.out.size), by rw [HNN2.out]; exact HXE.out, fun x hx => (HCC.out x (HXL.out x hx)).below (xtransN HB3.out HBr.out), xtransN HBW.out HBr.out⟩
end Go.Proofs.YtdjfeomdiljaeaaGreatDoor
namespace Go.Proofs.YtdjfeomdiljaeaaGreatDoor
open Go.RowKit
set_option linter.unusedVariables false
set_option linter.unusedSimpArgs false

/-- What a kind's fields check, and how they are emptied. -/
def fT (s : ByteArray) : List ((NoN → Prop) × (NoN → NoN)) := (Lib.fields s.data.toList).filterMap fun l => (allT[fidx l]?).map fun t => t.2
def ChkP (s : ByteArray) (N : NoN) : Prop := (∀ t ∈ fT s, t.1 N) ∧ BareN ((fT s).foldl (fun M t => t.2 M) N)
theorem fT_of {s : ByteArray} {X : List FieldT} (h : X.map (fun x => some (x.1.nm, x.2)) = (Lib.fields s.data.toList).map fun l => allT[fidx l]?) : fT s = X.map fun x => x.2 := by
  have e : fT s = ((Lib.fields s.data.toList).map fun l => allT[fidx l]?).filterMap (fun o => o.map fun t => t.2) := by
    rw [List.filterMap_map]
    rfl
  rw [e, ← h, List.filterMap_map]
  clear e h
  induction X with
  | nil => rfl
  | cons x X ih => simp only [List.filterMap_cons, Function.comp, Option.map_some, List.map_cons, ih]
theorem chk_iff {s : ByteArray} {X : List FieldT} {N : NoN} (h : X.map (fun x => some (x.1.nm, x.2)) = (Lib.fields s.data.toList).map fun l => allT[fidx l]?) : ((∀ x ∈ X, x.2.1 N) ∧ BareN (X.foldl (fun M x => x.2.2 M) N)) ↔ ChkP s N := by
  unfold ChkP
  rw [fT_of h, List.foldl_map]
  exact ⟨fun g => ⟨fun t ht => by
    obtain ⟨x, hx, rfl⟩ := List.mem_map.1 ht
    exact g.1 x hx, g.2⟩, fun g => ⟨fun x hx => g.1 x.2 (List.mem_map.2 ⟨x, hx, rfl⟩), g.2⟩⟩
theorem ownsC {w : World} {B k n c : Nat} {e : TypeId} {E : Type} {f : E → List Value} {L : List E} (hk : ∀ x, (f x).length = k) (hl : L.length ≤ maxLen) {a : Option Addr} (h : w.ownsRow B e k (.slice a n c) n (L.flatMap f)) (hn : n = L.length) : RowC w a k (L.map f) := by
  subst hn
  refine ⟨by rw [List.length_map]; exact hl, ?_⟩
  rcases h.2 with ⟨hv, hx⟩ | ⟨g, cap, cur, hv, hB, hg, r⟩
  · left
    have h0 : L.length = 0 := by
      injection hv
    rw [List.length_eq_zero_iff.1 h0]
    rfl
  · right
    have h' := h
    rw [hv] at h'
    have ha : a = some ⟨g, 0, none⟩ := by cases hv; rfl
    refine ⟨g, 0, ha, lt_of_blk hg, fun j t cs v hj hv' => ?_⟩
    rw [List.getElem?_map] at hj
    obtain ⟨x, hx, rfl⟩ := Option.map_eq_some_iff.1 hj
    rw [Nat.zero_add]
    exact cell_n h' (flat_at hk L j t x v hx hv')
set_option maxHeartbeats 1600000 in
theorem chk1_any (b : Nat) (N : NoN) (k : Nat) (s : ByteArray) (hk1 : 1 ≤ k) (hk2 : k < 25) (hs : kfT[k]? = some s) (hNK : N.K = k) (w : World) (hK : KfAt w) (hKb : ∀ w', Below w.heap.size w w' → KfAt w') (hN : NB w b N) (hA : N.At w) (hg : Ground w) :
    Calls Tryz.prog 39 #[ptV b] w fun e w' => (e = .returned (.bool true) ∧ ChkP s N ∨ e = .panicked PN ∧ ¬ ChkP s N) ∧ Below w.heap.size w w' := by
  obtain ⟨ok, hok⟩ : ∃ ok : Prop, ChkP s N = ok := ⟨_, rfl⟩
  have HOK : Hid (ok = ChkP s N) := hok.symm
  rw [hok]
  clear hok
  have hc := hN.cell (i := 0) (v := .int .i64 N.K) rfl
  rw [hNK] at hc
  have HN : Hid (NB w b N) := hN
  have HA : Hid (N.At w) := hA
  have HG : Hid (Ground w) := hg
  have HCN : Hid ((Lib.fields s.data.toList).length ≤ 100) := by
    have h3 := List.all_eq_true.1 cnt_ok s (List.mem_of_getElem? hs)
    exact (of_decide_eq_true h3 : (Lib.fields s.data.toList).length ≤ 100)
  have HFO : Hid _ := fieldsOf_any k s hk1 hk2 hs w hK hKb
  clear hN hA hg hK hKb hNK hs
  go_enter Tryz.func39, Tryz.ntmps39
  go_wp2_with (first
    | (go_at_call 41; refine Calls.mono HFO.out ?_; rintro e w1 ⟨v, X, rfl, ⟨a, c, rfl⟩, ho, hm, hck, hb⟩
       have HB1 : Hid (Below w.heap.size w w1) := hb
       have HM : Hid _ := hm
       have hx : X.length ≤ maxLen := by
         have h3 := congrArg List.length hm
         simp only [List.length_map] at h3
         rw [h3]
         exact Nat.le_trans HCN.out (by decide)
       have HNC : Hid _ := note_ck b N a c X w1 (kept_block hb HN.out) (HA.out.below hb) (HG.out.below hb) (ownsC (f := fun x : FieldT => x.1.cl) (k := 5) (fun x => rfl) hx ho rfl) hck
       clear hb hm hck ho hx hc)
    | (go_at_call 40; refine Calls.mono HNC.out ?_; rintro e w2 ⟨⟨rfl, h⟩ | ⟨rfl, h⟩, hb⟩
       rotate_left
       · exact ⟨rfl, .inr ⟨rfl, by rw [HOK.out]; exact fun g => h ((chk_iff HM.out).2 g)⟩, xtransN HB1.out hb⟩
       have H1 : Hid _ := h
       have HB2 : Hid (Below w.heap.size w w2) := xtransN HB1.out hb
       clear h hb)
    | fail)
  go_ret
  exact ⟨.inl ⟨rfl, by rw [HOK.out]; exact (chk_iff HM.out).1 H1.out⟩, HB2.out⟩
theorem chk1_bad (b : Nat) (N : NoN) (h : ¬ (1 ≤ N.K ∧ N.K < 25)) (w : World) (hN : NB w b N) :
    Calls Tryz.prog 39 #[ptV b] w fun e w' => e = .panicked PN ∧ Below w.heap.size w w' := by
  have hc := hN.cell (i := 0) (v := .int .i64 N.K) rfl
  have HFB : Hid _ := fieldsOf_bad N.K w h
  clear hN h
  go_enter Tryz.func39, Tryz.ntmps39
  go_wp2_with (first
    | (go_at_call 41; refine Calls.mono HFB.out ?_; rintro e w1 ⟨rfl, hb⟩)
    | fail)
  exact ⟨rfl, rfl, hb⟩
end Go.Proofs.YtdjfeomdiljaeaaGreatDoor
