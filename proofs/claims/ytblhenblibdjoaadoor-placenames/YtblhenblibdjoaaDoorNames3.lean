/-
  PlaceNames: the errors.
-/
import Derived.Test.YtblhenblibdjoaaDoorNames1
namespace Go.Proofs.YtblhenblibdjoaaDoor
open Go.RowKit
set_option maxHeartbeats 40000000 in
set_option maxRecDepth 100000 in
theorem errors1_any (w : World) :
    Calls Tryd.prog 12 #[] w fun e w' => e = .returned (.bool true) ∧ Below w.heap.size w w' := by
  go_enter Tryd.func12, Tryd.ntmps12
  go_wp2_with (first | (go_at_call 11; go_in))
  refine (pairs_any _ 55 _ (by decide) _ (twice_new w _ 55 (by kernel_rfl))).mono ?_
  rintro e w1 ⟨rfl, m, rfl⟩
  go_wp2
  go_ret
  exact ⟨rfl, below_drewN ((Below.refl _ _).alloc (Nat.le_refl _) _) _⟩
end Go.Proofs.YtblhenblibdjoaaDoor
