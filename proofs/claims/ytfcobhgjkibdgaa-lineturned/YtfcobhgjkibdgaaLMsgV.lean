/-
  heraldlaw16: a message that came in by value.
-/
import Derived.Test.YtfcobhgjkibdgaaLScript
namespace Go.Proofs.Ytfcobhgjkibdgaa
open Go.RowKit
set_option linter.unusedVariables false
set_option linter.unusedSimpArgs false

theorem msgv_of {H : Type} {enc : TypeId × Value → H} {W : World} {ns : Array Value} {d : DataW H} {p : List MemPlace} (h : DataW.Trod enc Try.prog W 0 (fun _ => true) true 23 (.agg ns) d p) : ∃ x : MsT, ns = #[.int .i64 x.f, .int .i64 x.t, .string x.b] := by
  obtain ⟨fuel, hf0⟩ := h
  have hf1 : DataW.trod enc Try.prog W 0 (fun _ => true) true fuel 23 ns.toList = some (d, p) := hf0
  obtain ⟨cs, rfl⟩ : ∃ cs : List Value, ns = cs.toArray := ⟨ns.toList, by simp⟩
  rw [List.toList_toArray] at hf1
  obtain ⟨xs, m, _, hx, hl, hxl, hf⟩ := DataW.trod_struct Try.underlying23 hf1
  rw [Try.cellsMs] at hl
  obtain ⟨c0, c1, c2, rfl⟩ := list3 hl
  obtain ⟨x0, x1, x2, rfl⟩ := list3 (l := xs) hxl
  obtain ⟨z0, q0, _⟩ := DataW.trod_int Try.underlying3 (hf 0 _ rfl)
  obtain ⟨z1, q1, _⟩ := DataW.trod_int Try.underlying3 (hf 1 _ rfl)
  obtain ⟨z2, q2, _⟩ := DataW.trod_string Try.underlying9 (hf 2 _ rfl)
  simp [Try.cells3', Try.cells9'] at q0 q1 q2
  subst q0 q1 q2
  exact ⟨⟨z0, z1, z2⟩, rfl⟩
end Go.Proofs.Ytfcobhgjkibdgaa
