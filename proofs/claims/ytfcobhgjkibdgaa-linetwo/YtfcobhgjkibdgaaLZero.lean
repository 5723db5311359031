/-
  line: a zero line.
-/
import Derived.Test.YtfcobhgjkibdgaaLTwo
import Derived.Test.YtfcobhgjkibdgaaLAt
namespace Go.Proofs.Ytfcobhgjkibdgaa
open Go.RowKit Go.Maps
set_option linter.unusedVariables false
set_option linter.unusedSimpArgs false

theorem hz (w : World) (b : Nat) (h : w.heap[b]? = some (.cells lineZ 64 (0, 0))) : AtL w (fun j => j = b) ln0 (.pointer (some ⟨b, 0, none⟩)) :=
  .inr ⟨b, none, fun _ => False, rfl, rfl, h, .inl ⟨rfl, rfl, fun _ h => h⟩, fun j => by simp⟩
end Go.Proofs.Ytfcobhgjkibdgaa
