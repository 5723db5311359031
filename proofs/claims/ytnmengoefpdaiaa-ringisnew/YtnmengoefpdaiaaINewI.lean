/-
  A slice of ints that came in, as a list.
-/
import Derived.Test.YtnmengoefpdaiaaLRow
import Derived.ChangeSlices
import Derived.OpenShut
import Derived.ChangeOld
namespace Go.Proofs.Ytnmengoefpdaiaa.I
open Go.RowKit Go.ChangeShapes Go.WideShapes
theorem addrI_add (b o j : Nat) : (⟨b, o, none⟩ : Addr).add j = ⟨b, o + j, none⟩ := by unfold Addr.add; split <;> simp_all
theorem ints_of {H : Type} {enc : TypeId × Value → H} {W : World} {t : TypeId} (ht : Try.prog.underlying t = some (.slice 3)) {a : Option Addr} {len cap : Nat} {d : DataW H} {p : List MemPlace}
    (h : DataW.Trod enc Try.prog W 0 (fun _ => true) true t (.slice a len cap) d p) : ∃ zs : List Int, IntsAt W (fun b => b < W.heap.size) (.slice a len cap) zs := by
  obtain ⟨fuel, hf⟩ := h
  rcases open_ints ht Try.underlying3 (by kernel_rfl) hf with ⟨hcs, _⟩ | ⟨x, l, c, zs, hcs, _, hl, hm, hz, _, hcell, hwz⟩
  · simp [Value.cells] at hcs
    obtain ⟨rfl, rfl, rfl⟩ := hcs
    exact ⟨[], RowAt.nil _ _ _ _⟩
  · simp [Value.cells] at hcs
    obtain ⟨rfl, rfl, rfl⟩ := hcs
    have hzl : zs.length = cap := by simpa using hz
    have htl : (zs.take len).length = len := by rw [List.length_take]; omega
    refine ⟨zs.take len, some x, cap, by rw [htl], by rw [htl]; exact hl, fun h => (by cases h), ?_⟩
    by_cases h0 : len = 0
    · left
      exact List.eq_nil_of_length_eq_zero (by rw [htl]; exact h0)
    · right
      obtain ⟨b, o, spot⟩ := x
      have hc0 := hcell 0 (by omega)
      have hspot : spot = none := by simpa [Addr.add] using World.cell?_spot hc0
      subst hspot
      have hb : b < W.heap.size := by
        have := World.block_lt_of_cell? _ _ hc0
        simpa [Addr.add] using this
      refine ⟨b, o, rfl, hb, hb, fun j z hj => ?_⟩
      have hjl : j < len := by
        rw [List.getElem?_eq_some_iff] at hj
        have := hj.1
        omega
      rw [List.getElem?_take, if_pos hjl] at hj
      have := hcell j (by omega)
      rw [List.getD_eq_getElem?_getD, hj, addrI_add] at this
      show W.cell? ⟨b, o + j * 1, none⟩ = _
      rw [Nat.mul_one]
      exact this
end Go.Proofs.Ytnmengoefpdaiaa.I
