/-
  heraldref5: what may be.
-/
import Derived.Test.YtaieijbdknfcjaaGreatDoorCRef
namespace Go.Proofs.YtaieijbdknfcjaaGreatDoor
open Go.RowKit Classical
set_option linter.unusedVariables false
set_option linter.unusedSimpArgs false

def RMay (k : Int) (p : ByteArray) (l : List SeenT) (i : Nat) (x : SeenT) : Prop :=
  isP x.p = true ∧ inB k p x.p = true ∧ fitB x.d x.v = true ∧ (∀ y, 0 < i → l[i - 1]? = some y → O y.p x.p < 0) ∧ bareB k x = true ∧ (x.p = p ∨ hasP l (upP x.p) = true)
def RGood (st : Int) (p : ByteArray) (k : Int) (l : List SeenT) : Prop := isNum st = true ∧ isP p = true ∧ (1 ≤ k ∧ k ≤ 3) ∧ l.length ≤ 64 ∧ ¬ (p = pRoot ∧ l = []) ∧ ∀ (i : Nat) (x : SeenT), l[i]? = some x → RMay k p l i x
def rchk (st : Int) (p : ByteArray) (k : Int) (l : List SeenT) [Decidable (RGood st p k l)] : Int := if RGood st p k l then 0 else 51
theorem rchk_bad {st : Int} {p : ByteArray} {k : Int} {l : List SeenT} (h : ¬ RGood st p k l) : rchk st p k l = 51 := if_neg h
theorem rchk_good {st : Int} {p : ByteArray} {k : Int} {l : List SeenT} (h : RGood st p k l) : rchk st p k l = 0 := if_pos h
/-- What stands within a round. -/
structure FC (w W : World) (g : Nat) (A N : Array Value) : Prop where
  pa : W.heap[w.heap.size]? = some (.cells A 24 (0, 0))
  pn : W.heap[g]? = some (.cells N 36 (0, 0))
  low : Below w.heap.size w W
theorem FC.below {w W W' : World} {g : Nat} {A N : Array Value} (h : FC w W g A N) (hb : Below W.heap.size W W') : FC w W' g A N := ⟨kept_block hb h.pa, kept_block hb h.pn, trans2 h.low hb⟩
theorem rmay_step {k : Int} {p : ByteArray} {l : List SeenT} {q : Nat} {x : SeenT} (h : ∀ (i : Nat) (n : SeenT), i < q → l[i]? = some n → RMay k p l i n) (hx : l[q]? = some x) (hr : RMay k p l q x) : ∀ (i : Nat) (n : SeenT), i < q + 1 → l[i]? = some n → RMay k p l i n := by
  intro i n hi hn
  by_cases hiq : i = q
  · subst hiq
    rw [hx] at hn
    cases hn
    exact hr
  · exact h i n (by omega) hn
end Go.Proofs.YtaieijbdknfcjaaGreatDoor
