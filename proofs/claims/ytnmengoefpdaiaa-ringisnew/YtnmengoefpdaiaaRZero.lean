/-
  the document's ring that is all zero.
-/
import Derived.Test.YtnmengoefpdaiaaRFilled
namespace Go.Proofs.Ytnmengoefpdaiaa
open Go.RowKit
set_option linter.unusedVariables false
set_option linter.unusedSimpArgs false

theorem zeroR_last : zeroR.last = 0 := rfl
theorem zeroR_may (e : EnT) : zeroR.may e = if ¬ (0 ≤ e.v ∧ e.v ≤ 2147483647) then 3 else if e.s ≠ 1 then 61 else 62 := by
  show (if (0 : Nat) = 2147483647 ∨ ¬ (0 ≤ e.v ∧ e.v ≤ 2147483647) then (3 : Int) else if e.s ≠ ((0 : Nat) : Int) + 1 then 61 else if e.v < 0 then 1 else if (0 : Nat) = 0 ∧ (0 : Nat) = 0 then 62 else 0) = _
  by_cases h : 0 ≤ e.v ∧ e.v ≤ 2147483647
  · have h3 : ¬ e.v < 0 := by omega
    by_cases h2 : e.s = 1
    · simp [h, h2]
    · simp [h, h2]
  · rw [if_pos (.inr h), if_pos h]
theorem zeroR_free (n : Int) : zeroR.free n = if n < 0 then 63 else if 0 < n then 61 else 0 := rfl
theorem zeroR_atC (n : Int) : zeroR.atC n = if n ≤ 0 then 60 else if 0 < n then 61 else 0 := rfl
theorem zeroR_afterC (n most : Int) : zeroR.afterC n most = if most < 0 ∨ 64 < most then 1 else if n < 0 then 60 else if 0 < n then 61 else 0 := rfl
end Go.Proofs.Ytnmengoefpdaiaa
