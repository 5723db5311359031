/-
  PlaceNames: the walk.
-/
import Derived.Test.YtblhenblibdjoaaDoorPairs
import Derived.Test.YtblhenblibdjoaaDoorParent
namespace Go.Proofs.YtblhenblibdjoaaDoor
open Go.RowKit

def sameTwo : Option Value → Option Value → Bool
  | some (.int .i64 a), some (.int .i64 b) => a == b
  | _, _ => false
def twiceB (arr : Array Value) (n : Nat) : Bool := (List.range n).all fun k => sameTwo arr[k * 2]? arr[k * 2 + 1]?
theorem sameTwo_of {x y : Option Value} (h : sameTwo x y = true) : ∃ z : Int, x = some (.int .i64 z) ∧ y = some (.int .i64 z) := by
  unfold sameTwo at h
  split at h
  · rename_i a b
    exact ⟨a, rfl, by rw [beq_iff_eq.1 h]⟩
  · cases h
theorem twice_new (w : World) (arr : Array Value) (n : Nat) (h : twiceB arr n = true) : Twice (w.alloc (.cells arr 49)) w.heap.size n := by
  intro k hk
  unfold twiceB at h
  rw [List.all_eq_true] at h
  obtain ⟨z, h1, h2⟩ := sameTwo_of (h k (by simpa using hk))
  exact ⟨z, by rw [World.cell?_alloc_at _ _ _ _ rfl, h1], by rw [World.cell?_alloc_at _ _ _ _ rfl, h2]⟩

set_option maxHeartbeats 8000000 in
set_option maxRecDepth 100000 in
theorem limits_any (w : World) :
    Calls Tryd.prog 13 #[] w fun e w' => e = .returned (.bool true) ∧ Below w.heap.size w w' := by
  go_enter Tryd.func13, Tryd.ntmps13
  go_wp2_with fail
  refine (pairs_any _ 25 _ (by decide) _ (twice_new w _ 25 (by kernel_rfl))).mono ?_
  rintro e w1 ⟨rfl, m, rfl⟩
  go_wp2
  go_ret
  exact ⟨rfl, below_drewN ((Below.refl _ _).alloc (Nat.le_refl _) _) _⟩
end Go.Proofs.YtblhenblibdjoaaDoor
