/-
  view: bare.
-/
import Derived.Test.YtlbhnlpdijhmlaaVNote
namespace Go.Proofs.Ytlbhnlpdijhmlaa
open Go.RowKit
set_option linter.unusedVariables false
set_option linter.unusedSimpArgs false

set_option maxHeartbeats 6400000 in
set_option maxRecDepth 100000 in
theorem bare_tell (t : VwT) (w : World) : Calls Try.prog 18 #[.agg (tellCs t).toArray, .int .i64 22, vwV t] w fun e w' => e = .returned (.bool true) ∧ Below w.heap.size w w' := by
  go_enter Try.func18, Try.ntmps18
  go_wp2_with fail
  go_ret
  exact ⟨rfl, ((Below.refl _ _).alloc (Nat.le_refl _) _).alloc (by simp) _⟩
end Go.Proofs.Ytlbhnlpdijhmlaa
