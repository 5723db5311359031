/-
  A call at a step of a region that draws its order.
-/
import Derived.Test.YtjcnigffpamcgaaGreatDoorQTook
import Derived.Test.YtjcnigffpamcgaaGreatDoorQTagged
import Derived.Deep.RegionLaw
import Derived.Shelf.Abstract
namespace Go.Proofs.YtjcnigffpamcgaaGreatDoor
open Go.RowKit
set_option linter.unusedVariables false

theorem step_call2 {P : Program} {ops : Array Oper} {o : Oper} {a : Act} {w : World} {K : Act → World → Prop} {Q : Exit → Act → World → Prop} {E : Prop} (hgd : o.guard = none) (f : FuncId) (x y : Operand) (ts : Array TypeId)
    (ho : o.op = .call { callee := .value (.func f), args := #[x, y], argTypes := ts }) (ef : ∀ args w, (callFunc f args).run P w = .ok (.enter f args) w) (u v : Value) (hx : a.eval x = u) (hy : a.eval y = v) {R : Ending → World → Prop} (hc : Calls P f #[u, v] w R)
    (h : ∀ e w', R e w' → ∃ r, e = .returned r ∧ K (a.put o.dst r) w') :
    if Region.wanted o (yielded ops a.tmps) = true then Oper.wp P o a w K Q else E := by
  have hw : Region.wanted o (yielded ops a.tmps) = true := by simp [Region.wanted, hgd]
  rw [if_pos hw]
  have he : (execOp a.eval o).run P w = .ok (.enter f #[u, v]) w := by
    have hf : a.eval (.func f) = .func (.func f) #[] #[] := rfl
    simp [execOp, ho, resolve, invoke, Deferred.ofValue, hx, hy, hf, ef]
  unfold Oper.wp
  rw [he, Oper.upon_enter]
  refine hc.mono ?_
  intro e w' hR
  obtain ⟨r, rfl, hk⟩ := h e w' hR
  exact hk
/-- These slots are filled. -/
def putsL (a : Act) : List Nat → List Value → Act
  | n :: ns, v :: vs => putsL (a.put (some n) v) ns vs
  | _, _ => a
/-- It went on, and nothing else. -/
def OnlyOn (R : Act → World → Prop) : Exit → Act → World → Prop
  | .normal, a, w => R a w
  | _, _, _ => False
/-- A piece of code that goes on as it should, whatever a panic would do. -/
theorem wp_cut {P : Program} {c : Code} {Q : Exit → Act → World → Prop} {a : Act} {w : World} (slots : List Nat) (R : List Value → World → Prop)
    (h1 : Code.wp P c (OnlyOn fun a' w' => ∃ vs, R vs w' ∧ a' = putsL a slots vs) a w) (h2 : ∀ vs w', R vs w' → Q .normal (putsL a slots vs) w') : Code.wp P c Q a w := by
  refine Code.wp_mono ?_ h1
  intro ex a' w' h
  cases ex <;> first | exact h.elim | skip
  obtain ⟨vs, hR, rfl⟩ := h
  exact h2 vs w' hR
end Go.Proofs.YtjcnigffpamcgaaGreatDoor
