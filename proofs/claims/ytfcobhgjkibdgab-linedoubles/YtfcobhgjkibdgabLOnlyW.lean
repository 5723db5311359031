/-
  heraldlaw16: the walks over one script.
-/
import Derived.Test.YtfcobhgjkibdgabLOnly
namespace Go.Proofs.Ytfcobhgjkibdgab
open Go.RowKit
set_option linter.unusedVariables false

set_option maxHeartbeats 1600000 in
theorem LineDoubles_walk {At : World → (Nat → Prop) → LnT → Value → Prop} (sv : Lines At) (v : Value) (l : List StL) (w : World) (h : StsAt w (fun b => b < w.heap.size) v l) (hwf : ∀ x ∈ l, (Lit.int .i64 x.n).wf = true) :
    Calls Try.prog 4 #[v] w fun e w' => e = .returned (.bool true) ∧ Below w.heap.size w w' := by
  have HO : Hid (∀ lo hi, _) := fun lo hi => only_any sv l v lo hi w h hwf
  clear h hwf
  go_enter Try.func4, Try.ntmps4
  go_wp2_with fail
  refine Calls.mono (HO.out _ _) ?_
  rintro e w1 ⟨rfl, hb⟩
  have HB : Hid _ := hb
  clear hb
  go_wp2_with fail
  go_ret
  exact ⟨rfl, HB.out⟩
set_option maxHeartbeats 1600000 in
theorem LineSpoils_walk {At : World → (Nat → Prop) → LnT → Value → Prop} (sv : Lines At) (v : Value) (l : List StL) (w : World) (h : StsAt w (fun b => b < w.heap.size) v l) (hwf : ∀ x ∈ l, (Lit.int .i64 x.n).wf = true) :
    Calls Try.prog 5 #[v] w fun e w' => e = .returned (.bool true) ∧ Below w.heap.size w w' := by
  have HO : Hid (∀ lo hi, _) := fun lo hi => only_any sv l v lo hi w h hwf
  clear h hwf
  go_enter Try.func5, Try.ntmps5
  go_wp2_with fail
  refine Calls.mono (HO.out _ _) ?_
  rintro e w1 ⟨rfl, hb⟩
  have HB : Hid _ := hb
  clear hb
  go_wp2_with fail
  go_ret
  exact ⟨rfl, HB.out⟩
set_option maxHeartbeats 1600000 in
theorem LineNumbers_walk {At : World → (Nat → Prop) → LnT → Value → Prop} (sv : Lines At) (v : Value) (l : List StL) (w : World) (h : StsAt w (fun b => b < w.heap.size) v l) (hwf : ∀ x ∈ l, (Lit.int .i64 x.n).wf = true) :
    Calls Try.prog 6 #[v] w fun e w' => e = .returned (.bool true) ∧ Below w.heap.size w w' := by
  have HO : Hid (∀ lo hi, _) := fun lo hi => only_any sv l v lo hi w h hwf
  clear h hwf
  go_enter Try.func6, Try.ntmps6
  go_wp2_with fail
  refine Calls.mono (HO.out _ _) ?_
  rintro e w1 ⟨rfl, hb⟩
  have HB : Hid _ := hb
  clear hb
  go_wp2_with fail
  go_ret
  exact ⟨rfl, HB.out⟩
set_option maxHeartbeats 1600000 in
theorem LineGoes_walk {At : World → (Nat → Prop) → LnT → Value → Prop} (sv : Lines At) (v : Value) (l : List StL) (w : World) (h : StsAt w (fun b => b < w.heap.size) v l) (hwf : ∀ x ∈ l, (Lit.int .i64 x.n).wf = true) :
    Calls Try.prog 7 #[v] w fun e w' => e = .returned (.bool true) ∧ Below w.heap.size w w' := by
  have HO : Hid (∀ lo hi, _) := fun lo hi => only_any sv l v lo hi w h hwf
  clear h hwf
  go_enter Try.func7, Try.ntmps7
  go_wp2_with fail
  refine Calls.mono (HO.out _ _) ?_
  rintro e w1 ⟨rfl, hb⟩
  have HB : Hid _ := hb
  clear hb
  go_wp2_with fail
  go_ret
  exact ⟨rfl, HB.out⟩
set_option maxHeartbeats 1600000 in
theorem LineTakes_walk {At : World → (Nat → Prop) → LnT → Value → Prop} (sv : Lines At) (v : Value) (l : List StL) (w : World) (h : StsAt w (fun b => b < w.heap.size) v l) (hwf : ∀ x ∈ l, (Lit.int .i64 x.n).wf = true) :
    Calls Try.prog 3 #[v] w fun e w' => e = .returned (.bool true) ∧ Below w.heap.size w w' := by
  have HO : Hid (∀ w', Below w.heap.size w w' → ∀ lo hi, _) := fun w' hb lo hi => only_any sv l v lo hi w' (RowAt.map (StsAt.keep h (Kp.of_below hb _)) (Nat.le_refl _) (fun b _ hS => Nat.lt_of_lt_of_le hS hb.size) (fun b o x _ hS ⟨u, hx⟩ => ⟨u, hx.kind, hx.on, hx.cu, hx.n, hx.a, hx.t, RowAt.map hx.ms (Nat.le_refl _) (fun b _ hS => Nat.lt_of_lt_of_le hS hb.size) (fun _ _ _ _ _ h => h)⟩)) hwf
  clear h hwf
  go_enter Try.func3, Try.ntmps3
  go_wp2_with fail
  refine Calls.mono (HO.out _ (Below.refl _ _) _ _) ?_
  rintro e w1 ⟨rfl, hb⟩
  have HB : Hid (Below w.heap.size w w1) := hb
  clear hb
  go_wp2_with fail
  refine Calls.mono (HO.out _ HB.out _ _) ?_
  rintro e w2 ⟨rfl, hb⟩
  have HB2 : Hid (Below w.heap.size w w2) := trans2 HB.out hb
  clear hb
  go_wp2_with fail
  go_ret
  exact ⟨rfl, HB2.out⟩
end Go.Proofs.Ytfcobhgjkibdgab
