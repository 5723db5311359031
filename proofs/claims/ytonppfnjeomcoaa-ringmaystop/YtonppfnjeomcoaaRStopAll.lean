/-
  RingMayStop: whatever the numbers.
-/
import Derived.Test.YtonppfnjeomcoaaRStopWalk
namespace Go.Proofs.Ytonppfnjeomcoaa
open Go.RowKit Go.Shelf Classical
set_option linter.unusedVariables false
set_option linter.unusedSimpArgs false
attribute [local go_sem] Oper.semAt_some

set_option maxRecDepth 100000 in
set_option maxHeartbeats 3200000 in
theorem stop_out (room n k : Int) (w : World) (h : room < 1 ∨ (1 ≤ room ∧ 64 < room) ∨ (1 ≤ room ∧ room ≤ 64 ∧ n < 0) ∨ (1 ≤ room ∧ room ≤ 64 ∧ 0 ≤ n ∧ 150 < n)) :
    Calls Try.prog 3 #[.int .i64 room, .int .i64 n, .int .i64 k] w fun e w' => e = .returned (.bool true) ∧ Below w.heap.size w w' := by
  have HB : Hid (∀ w', _) := fun w' => begins_any w'
  refine (callsIn_wide (n := 6)).1 ?_
  refine callsIn_of_wp_marks Try.func3 rfl trivial ?_ rfl
  simp only [Try.ntmps3, List.size_toArray, List.length_cons, List.length_nil, Nat.reduceAdd, Nat.reduceSub, Array.replicate_succ, Array.replicate_zero, List.push_toArray, List.append_toArray, List.nil_append, List.cons_append]
  gi_wp2_with fail
  obtain ⟨w0, hw0⟩ : ∃ w0, (w.alloc (.cells #[.int .i64 k] 3)).alloc (.cells #[.bool false] 4) = w0 := ⟨_, rfl⟩
  have HB0 : Hid (Below w.heap.size w w0) := by rw [← hw0]; exact ((Below.refl _ w).alloc (Nat.le_refl _) _).alloc (by simp) _
  have HX0 : Hid (w0.heap[w.heap.size + 1]? = some (.cells #[.bool false] 4 (0, 0))) := by show _ = _; rw [← hw0]; exact heap_new' (by simp)
  rw [hw0]
  clear hw0
  refine ⟨trivial, ?_⟩
  refine (callsIn_wide.2 (HB.out _)).mono ?_
  rintro e w1 ⟨rfl, hb1⟩
  have HB1 : Hid (Below w.heap.size w w1) := trans2 HB0.out hb1
  have HX1 : Hid (w1.heap[w.heap.size + 1]? = some (.cells #[.bool false] 4 (0, 0))) := kept_block hb1 HX0.out
  have cr : w1.cell? ⟨w.heap.size + 1, 0, none⟩ = some (.bool false) := by rw [cell_blk HX1.out]; rfl
  have fr := free_blk HX1.out
  clear hb1 HB
  rcases h with h | ⟨h1, h2⟩ | ⟨h1, h2, h3⟩ | ⟨h1, h2, h3, h4⟩
  all_goals
    gi_wp2_with fail
    refine ⟨_, results_box1 rfl _ _ (w.heap.size + 1) true rfl ?_, rfl, HB1.out.setCell (by show w.heap.size ≤ w.heap.size + 1; omega) _⟩
    rw [cell_blk (same_blk HX1.out rfl)]
    rfl
theorem stop_any (room n k : Int) (w : World) :
    Calls Try.prog 3 #[.int .i64 room, .int .i64 n, .int .i64 k] w fun e w' => e = .returned (.bool true) ∧ Below w.heap.size w w' := by
  by_cases h : room < 1 ∨ (1 ≤ room ∧ 64 < room) ∨ (1 ≤ room ∧ room ≤ 64 ∧ n < 0) ∨ (1 ≤ room ∧ room ≤ 64 ∧ 0 ≤ n ∧ 150 < n)
  · exact stop_out room n k w h
  · obtain ⟨r, rfl⟩ : ∃ r : Nat, room = r := ⟨room.toNat, by omega⟩
    obtain ⟨q, rfl⟩ : ∃ q : Nat, n = q := ⟨n.toNat, by omega⟩
    exact stop_in r q k w (by omega) (by omega) (by omega)
end Go.Proofs.Ytonppfnjeomcoaa
