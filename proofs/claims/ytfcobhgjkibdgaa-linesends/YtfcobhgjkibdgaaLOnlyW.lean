/-
  heraldlaw16: the walks over one script.
-/
import Derived.Test.YtfcobhgjkibdgaaLOnly
namespace Go.Proofs.Ytfcobhgjkibdgaa
open Go.RowKit
set_option linter.unusedVariables false

set_option maxHeartbeats 1600000 in
theorem LineSends_walk {At : World → (Nat → Prop) → LnT → Value → Prop} (sv : Lines At) (v : Value) (l : List StL) (w : World) (h : StsAt w (fun b => b < w.heap.size) v l) (hwf : ∀ x ∈ l, (Lit.int .i64 x.n).wf = true) :
    Calls Try.prog 8 #[v] w fun e w' => e = .returned (.bool true) ∧ Below w.heap.size w w' := by
  have HO : Hid (∀ lo hi, _) := fun lo hi => only_any sv l v lo hi w h hwf
  clear h hwf
  go_enter Try.func8, Try.ntmps8
  go_wp2_with fail
  refine Calls.mono (HO.out _ _) ?_
  rintro e w1 ⟨rfl, hb⟩
  have HB : Hid _ := hb
  clear hb
  go_wp2_with fail
  go_ret
  exact ⟨rfl, HB.out⟩
end Go.Proofs.Ytfcobhgjkibdgaa
