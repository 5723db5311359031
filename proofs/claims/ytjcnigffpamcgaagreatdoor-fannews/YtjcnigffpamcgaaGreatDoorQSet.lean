/-
  queue: copies of cells.
-/
import Derived.Test.YtjcnigffpamcgaaGreatDoorQOwn
namespace Go.Proofs.YtjcnigffpamcgaaGreatDoor
open Go.RowKit
set_option linter.unusedVariables false
set_option linter.unusedSimpArgs false

abbrev set_3 (w : World) (g o : Nat) (x0 x1 x2 : Value) : World := (((w.setCell ⟨g, o, none⟩ x0).setCell ⟨g, o + 1, none⟩ x1).setCell ⟨g, o + 2, none⟩ x2)
theorem chg_s3 (w : World) (g o : Nat) (x0 x1 x2 : Value) : Chg w (set_3 w g o x0 x1 x2) (fun b => b = g) := by
  have h : ∀ (W : World) (j : Nat) (x : Value), Chg W (W.setCell ⟨g, j, none⟩ x) (fun b => b = g) := fun W j x => Chg.set W ⟨g, j, none⟩ x
  exact ((h w o x0).trans (h _ (o + 1) x1)).trans (h _ (o + 2) x2)
theorem at_s3 {w : World} {g o : Nat} {arr : Array Value} {t : TypeId} {x0 x1 x2 : Value} (h : w.heap[g]? = some (.cells arr t (0, 0))) (hs : o + 3 ≤ arr.size) : ∃ arr' : Array Value, (set_3 w g o x0 x1 x2).heap[g]? = some (.cells arr' t (0, 0)) ∧ arr'.size = arr.size ∧ arr'[o]? = some x0 ∧ arr'[o + 1]? = some x1 ∧ arr'[o + 2]? = some x2 ∧ ∀ j, (j < o ∨ o + 3 ≤ j) → arr'[j]? = arr[j]? := by
  refine ⟨(((arr.setIfInBounds (o) x0).setIfInBounds (o + 1) x1).setIfInBounds (o + 2) x2), ?_, by simp, ?_, ?_, ?_, fun j hj => ?_⟩
  · exact (set_at (set_at (set_at h)))
  · simp [Array.getElem?_setIfInBounds]; try omega
  · simp [Array.getElem?_setIfInBounds]; try omega
  · simp [Array.getElem?_setIfInBounds]; try omega
  · have hne : o ≠ j ∧ o + 1 ≠ j ∧ o + 2 ≠ j := by omega
    simp [Array.getElem?_setIfInBounds, hne.1, hne.2.1, hne.2.2]
abbrev set_5 (w : World) (g o : Nat) (x0 x1 x2 x3 x4 : Value) : World := (((((w.setCell ⟨g, o, none⟩ x0).setCell ⟨g, o + 1, none⟩ x1).setCell ⟨g, o + 2, none⟩ x2).setCell ⟨g, o + 3, none⟩ x3).setCell ⟨g, o + 4, none⟩ x4)
theorem chg_s5 (w : World) (g o : Nat) (x0 x1 x2 x3 x4 : Value) : Chg w (set_5 w g o x0 x1 x2 x3 x4) (fun b => b = g) := by
  have h : ∀ (W : World) (j : Nat) (x : Value), Chg W (W.setCell ⟨g, j, none⟩ x) (fun b => b = g) := fun W j x => Chg.set W ⟨g, j, none⟩ x
  exact ((((h w o x0).trans (h _ (o + 1) x1)).trans (h _ (o + 2) x2)).trans (h _ (o + 3) x3)).trans (h _ (o + 4) x4)
theorem at_s5 {w : World} {g o : Nat} {arr : Array Value} {t : TypeId} {x0 x1 x2 x3 x4 : Value} (h : w.heap[g]? = some (.cells arr t (0, 0))) (hs : o + 5 ≤ arr.size) : ∃ arr' : Array Value, (set_5 w g o x0 x1 x2 x3 x4).heap[g]? = some (.cells arr' t (0, 0)) ∧ arr'.size = arr.size ∧ arr'[o]? = some x0 ∧ arr'[o + 1]? = some x1 ∧ arr'[o + 2]? = some x2 ∧ arr'[o + 3]? = some x3 ∧ arr'[o + 4]? = some x4 ∧ ∀ j, (j < o ∨ o + 5 ≤ j) → arr'[j]? = arr[j]? := by
  refine ⟨(((((arr.setIfInBounds (o) x0).setIfInBounds (o + 1) x1).setIfInBounds (o + 2) x2).setIfInBounds (o + 3) x3).setIfInBounds (o + 4) x4), ?_, by simp, ?_, ?_, ?_, ?_, ?_, fun j hj => ?_⟩
  · exact (set_at (set_at (set_at (set_at (set_at h)))))
  · simp [Array.getElem?_setIfInBounds]; try omega
  · simp [Array.getElem?_setIfInBounds]; try omega
  · simp [Array.getElem?_setIfInBounds]; try omega
  · simp [Array.getElem?_setIfInBounds]; try omega
  · simp [Array.getElem?_setIfInBounds]; try omega
  · have hne : o ≠ j ∧ o + 1 ≠ j ∧ o + 2 ≠ j ∧ o + 3 ≠ j ∧ o + 4 ≠ j := by omega
    simp [Array.getElem?_setIfInBounds, hne.1, hne.2.1, hne.2.2.1, hne.2.2.2.1, hne.2.2.2.2]
end Go.Proofs.YtjcnigffpamcgaaGreatDoor
