/-
  FanNews: the closed facts of its row, one by one.
-/
import Derived.Test.YtjcnigffpamcgaaGreatDoorRows
import Derived.JoinedCond
import Derived.KernelRfl
namespace Go.Proofs.YtjcnigffpamcgaaGreatDoor.fanNews
set_option linter.unusedVariables false

theorem j_inPlace : (Rows.fanNewsRow.inPlace == Tryz.prog.inPlace 3) = true := by kernel_rfl
theorem j_unfollowed : (Rows.fanNewsRow.unfollowed == Tryz.prog.unfollowed 3) = true := by kernel_rfl
theorem j_recurses : (Rows.fanNewsRow.recurses == Tryz.prog.recurses 3) = true := by kernel_rfl
theorem j_named : (Rows.fanNewsRow.named == Tryz.prog.varsNamed 3) = true := by kernel_rfl
theorem joined : joinedFacts Tryz.prog 3 Tryz.f3 (OpenSpec.ofChange Rows.fanNewsSpec).bare Rows.fanNewsRow = true := by
  unfold joinedFacts
  rw [j_inPlace, j_unfollowed, j_recurses, j_named]
  kernel_rfl
end Go.Proofs.YtjcnigffpamcgaaGreatDoor.fanNews
