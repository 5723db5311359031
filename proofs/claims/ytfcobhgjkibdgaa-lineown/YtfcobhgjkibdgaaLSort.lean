/-
  slices.Sort of a row of numbers.
-/
import Derived.Test.YtfcobhgjkibdgaaLMapS
import Derived.Test.YtfcobhgjkibdgaaShelfS
import Derived.Sort.OwnSortedInts
namespace Go.Proofs.Ytfcobhgjkibdgaa
open Go.RowKit Go.Maps
set_option linter.unusedVariables false
set_option linter.unusedSimpArgs false

theorem sort_any (lo : Nat) (u : Value) (xs : List Int) (w : World) (h : InsOwn w lo u xs) (hl : xs.length ≤ 1000000) :
    Calls Try.prog (Try.lays189_ren.f 189) #[u] w fun e w' => e = .returned (.tuple #[]) ∧ InsOwn w' lo u (xs.mergeSort fun x y => decide (x ≤ y)) ∧ Chg w w' (fun j => u.ownBlock = some j) := by
  have hlen : (xs.mergeSort fun x y => decide (x ≤ y)).length = xs.length := List.length_mergeSort _
  rcases h.2 with ⟨rfl, h0⟩ | ⟨g, cap, cur, rfl, hg, hb, h1, h2, h3, h4⟩
  · refine (Any.slices_Sort_int_none Try.lays189 none 0 w).mono ?_
    rintro e w' ⟨rfl, rfl⟩
    obtain rfl : xs = [] := List.length_eq_zero_iff.1 (by simpa using h0)
    exact ⟨rfl, by rw [List.mergeSort_nil]; exact h, Chg.refl _ _⟩
  · have ht : cur.toList.take xs.length = xs.map (Value.int .i64) := by rw [Nat.mul_one] at h4; exact h4
    refine (Any.slices_Sort_int Try.lays189 g 0 cap xs w (holds_of_blockI hb ht) (lt_of_blk hb) (by omega)).mono ?_
    rintro e w' ⟨rfl, n, os, rfl⟩
    refine ⟨rfl, ?_, ?_⟩
    · have := ownsRow_sortedI (base := lo) (n := n) (os := os) hlen hg hb h1 h2 h3
      unfold InsOwn
      simpa [hlen] using this
    · have k := grownBy_sortedI (w := w) (g := g) (n := n) (os := os) (xs.mergeSort fun x y => decide (x ≤ y)).toArray
      exact ⟨k.os, k.tape, k.output, k.size, fun i hi hne => k.block i hi (fun e => hne (by cases e; rfl))⟩
end Go.Proofs.Ytfcobhgjkibdgaa
