/-
  slices.Reverse of changes.
-/
import Derived.Test.YtkmiemjjedbnaaaDoorDBase
import Derived.Shelf.SlicesQ.Reverse
namespace Go.Proofs
open Go.Shelf
def Tryd.revC_ren : Go.Shelf.Ren := ⟨fun | 35 => 19 | n => n, fun | 0 => 0 | 3 => 3 | 4 => 4 | 22 => 29 | 23 => 49 | n => n, fun | n => n⟩
theorem Tryd.revC : Go.Proofs.SlLaysE0.n35 Tryd.prog Tryd.revC_ren := {
  mixed := by kernel_rfl
  f35 := ⟨Tryd.f19.name, by decide, Tryd.func19.trans (congrArg some (by kernel_rfl))⟩
  t0 := Tryd.underlying0
  a0 := Tryd.isAgg0
  z0 := Tryd.sizeOf0
  v0 := Tryd.zeroValue0
  t3 := Tryd.underlying3
  a3 := Tryd.isAgg3
  z3 := Tryd.sizeOf3
  v3 := Tryd.zeroValue3
  t4 := Tryd.underlying4
  a4 := Tryd.isAgg4
  z4 := Tryd.sizeOf4
  v4 := Tryd.zeroValue4
  t22 := Tryd.underlying29
  a22 := Tryd.isAgg29
  z22 := Tryd.sizeOf29
  v22 := Tryd.zeroValue29 }
end Go.Proofs
namespace Go.Proofs.YtkmiemjjedbnaaaDoor
open Go.RowKit Go.Sort
set_option linter.unusedVariables false
set_option linter.unusedSimpArgs false

abbrev TupC : Type := Int × ByteArray × ByteArray × Int
def tupC (c : ChT) : TupC := (c.k, c.p, c.d, c.v)
def encC (t : TupC) : List Value := [.int .i64 t.1, .string t.2.1, .string t.2.2.1, .int .i64 t.2.2.2]
theorem encC_tup (c : ChT) : encC (tupC c) = c.cells := rfl
theorem flat_chCs (L : List ChT) : flatK encC 4 (L.map tupC).toArray = (chCs L).toArray := by
  refine ext_get! (by simp [chCs_len]) fun t ht => ?_
  have ht' : t < (L.map tupC).toArray.size * 4 := by simpa using ht
  have htl : t < L.length * 4 := by simpa using ht'
  rw [get_flatK _ _ _ t ht']
  have hq : t / 4 < L.length := by omega
  obtain ⟨s, hs⟩ : ∃ s, L[t / 4]? = some s := ⟨L[t / 4], List.getElem?_eq_getElem hq⟩
  obtain ⟨x, hx⟩ : ∃ x, s.cells[t % 4]? = some x := ⟨s.cells[t % 4]'(by simp; omega), List.getElem?_eq_getElem _⟩
  have h1 := chCs_at L (t / 4) (t % 4) s x hs hx []
  rw [List.append_nil, show t / 4 * 4 + t % 4 = t by omega] at h1
  have h2 : (L.map tupC).toArray[t / 4]! = tupC s := by
    rw [getElem!_pos _ _ (by simpa using hq)]
    simp [(List.getElem?_eq_some_iff.1 hs).2]
  rw [h2, encC_tup]
  have h3 : (s.cells)[t % 4]! = x := by
    rw [List.getElem!_eq_getElem?_getD, hx]
    rfl
  have h4 : (chCs L).toArray[t]! = x := by
    rw [getElem!_pos _ _ (by simpa [chCs_len] using htl)]
    simpa using (List.getElem?_eq_some_iff.1 h1).2
  rw [h3, h4]
theorem owns_cells {w : World} {B e s n g cap : Nat} {xs : List Value} (h : w.ownsRow B e s (.slice (some ⟨g, 0, none⟩) n cap) n xs) : ∃ cur, w.heap[g]? = some (.cells cur e (0, 0)) ∧ B ≤ g ∧ n ≤ cap ∧ cap ≤ maxLen ∧ cur.size = cap * s ∧ cur.toList.take (n * s) = xs ∧ xs.length = n * s := by
  rcases h.2 with ⟨h0, _⟩ | ⟨g', cap', cur, hv, hB, hg, hn, hc, hsz, ht⟩
  · cases h0
  · cases hv
    exact ⟨cur, hg, hB, hn, hc, hsz, ht, h.1⟩
theorem reverse_any (base : Nat) (v : Value) (L : List ChT) (w : World) (hr : w.ownsRow base 49 4 v L.length (chCs L)) :
    Calls Tryd.prog 19 #[v] w fun e w' => e = .returned (.tuple #[]) ∧ w'.ownsRow base 49 4 v L.length (chCs L.reverse) ∧ Chg w w' (fun k => v.ownBlock = some k) := by
  obtain ⟨a, c, rfl, hnc⟩ := owns_form hr
  cases a with
  | none =>
    have h0 : L = [] := by
      rcases hs_of_row hr with h | ⟨b, o, h, _⟩
      · exact h
      · cases h
    subst h0
    refine (AnyQ.slices_Reverse_empty Tryd.revC none c w).mono ?_
    rintro e w' ⟨rfl, rfl⟩
    exact ⟨rfl, hr, Chg.refl _ _⟩
  | some ad =>
    have had : ∃ g, ad = ⟨g, 0, none⟩ := by
      rcases hr.2 with ⟨h0, _⟩ | ⟨g', cap', cur, hv, _⟩
      · cases h0
      · cases hv
        exact ⟨g', rfl⟩
    obtain ⟨g, rfl⟩ := had
    obtain ⟨cur, hg, hB, hn, hc, hsz, ht, hlen⟩ := owns_cells hr
    have hH : HoldsK encC 4 w g 0 (L.map tupC).toArray := by
      unfold HoldsK
      rw [flat_chCs]
      intro j hj
      have hj' : j < (chCs L).length := by simpa using hj
      refine ⟨?_, by simp [World.frozen?, hg]⟩
      rw [Nat.zero_add]
      have h1 : (chCs L)[j]? = some ((chCs L)[j]'hj') := List.getElem?_eq_getElem hj'
      rw [cell_n hr h1]
      simp [getElem!_pos, hj']
    have hbig : (L.map tupC).toArray.size ≤ 9223372036854775807 := by
      have : L.length ≤ maxLen := by omega
      unfold maxLen at this
      simp
      omega
    have hcall := AnyQ.slices_Reverse Tryd.revC 4 Tryd.isAgg49 Tryd.sizeOf49 encC (fun _ => rfl) (fun x v hv => by
      simp only [encC, List.mem_cons, List.not_mem_nil, or_false] at hv
      rcases hv with rfl | rfl | rfl | rfl <;> rfl) g 0 c (L.map tupC).toArray w hH hbig
    have hsize : (L.map tupC).toArray.size = L.length := by simp
    rw [hsize] at hcall
    refine Calls.mono hcall ?_
    rintro e w' ⟨rfl, m, rfl⟩
    have hrev : (L.map tupC).toArray.reverse = (L.reverse.map tupC).toArray := by simp
    have hF : flatK encC 4 (L.map tupC).toArray.reverse = (chCs L.reverse).toArray := by rw [hrev, flat_chCs]
    have hw : putRowK encC 4 (Sort.ahead w m) g 0 (L.map tupC).toArray.reverse = putRow id (Sort.ahead w m) g 0 (chCs L.reverse).toArray := by unfold putRowK; rw [hF]
    rw [hw]
    have hlr : (chCs L.reverse).length = L.length * 4 := by rw [chCs_len, List.length_reverse]
    have hheap : (putRow id (Sort.ahead w m) g 0 (chCs L.reverse).toArray).heap = w.heap.modify g (onCells (putCells id 0 (chCs L.reverse).toArray)) := rfl
    have hgn : (putRow id (Sort.ahead w m) g 0 (chCs L.reverse).toArray).heap[g]? = some (.cells (putCells id 0 (chCs L.reverse).toArray cur) 49 (0, 0)) := by
      rw [hheap, Array.getElem?_modify, if_pos rfl, hg]
      rfl
    refine ⟨rfl, ⟨hlr, .inr ⟨g, c, putCells id 0 (chCs L.reverse).toArray cur, rfl, hB, hgn, hn, hc, ?_, ?_⟩⟩, ?_⟩
    · simp [putCells, hsz]
    · apply List.ext_getElem?
      intro i
      rw [List.getElem?_take]
      split
      · rename_i hi
        have hic : i < cur.size := by rw [hsz]; have := Nat.mul_le_mul_right 4 hn; omega
        have hil : i < (chCs L.reverse).length := by omega
        rw [Array.getElem?_toList]
        unfold putCells
        rw [Array.getElem?_mapIdx, Array.getElem?_eq_getElem hic]
        simp [hil, getElem!_pos]
      · rename_i hi
        rw [List.getElem?_eq_none (by omega)]
    · refine ⟨rfl, rfl, rfl, by rw [hheap]; simp, fun k hk hn' => ?_⟩
      rw [hheap, Array.getElem?_modify, if_neg (fun e => hn' (by rw [e]; rfl))]
end Go.Proofs.YtkmiemjjedbnaaaDoor
