/-
  QueuePuts, QueueCollapses, QueueNexts, QueueTakes, QueueGoes: the walks.
-/
import Derived.Test.YtlidkieljiebiabQOnly
namespace Go.Proofs.Ytlidkieljiebiab
open Go.RowKit
set_option linter.unusedVariables false

set_option maxHeartbeats 1600000 in
theorem QueuePuts_walk (room begin_ : Int) (v : Value) (l : List StT) (w : World) (h : StepsAt w (fun b => b < w.heap.size) v l) (hsm : ∀ x ∈ l, x.Small ∧ x.Tight) (hl : l.length ≤ maxLen) :
    Calls Try.prog 3 #[.int .i64 room, .int .i64 begin_, v] w fun e w' => e = .returned (.bool true) ∧ Below w.heap.size w w' := by
  have HO : Hid (∀ lo hi, _) := fun lo hi => only_any room begin_ lo hi v l w h hsm hl
  clear h hsm hl
  go_enter Try.func3, Try.ntmps3
  go_wp2_with fail
  refine Calls.mono (HO.out _ _) ?_
  rintro e w1 ⟨rfl, hb⟩
  have HB : Hid _ := hb
  clear hb
  go_wp2_with fail
  go_ret
  exact ⟨rfl, HB.out⟩
set_option maxHeartbeats 1600000 in
theorem QueueCollapses_walk (room begin_ : Int) (v : Value) (l : List StT) (w : World) (h : StepsAt w (fun b => b < w.heap.size) v l) (hsm : ∀ x ∈ l, x.Small ∧ x.Tight) (hl : l.length ≤ maxLen) :
    Calls Try.prog 4 #[.int .i64 room, .int .i64 begin_, v] w fun e w' => e = .returned (.bool true) ∧ Below w.heap.size w w' := by
  have HO : Hid (∀ lo hi, _) := fun lo hi => only_any room begin_ lo hi v l w h hsm hl
  clear h hsm hl
  go_enter Try.func4, Try.ntmps4
  go_wp2_with fail
  refine Calls.mono (HO.out _ _) ?_
  rintro e w1 ⟨rfl, hb⟩
  have HB : Hid _ := hb
  clear hb
  go_wp2_with fail
  go_ret
  exact ⟨rfl, HB.out⟩
set_option maxHeartbeats 1600000 in
theorem QueueNexts_walk (room begin_ : Int) (v : Value) (l : List StT) (w : World) (h : StepsAt w (fun b => b < w.heap.size) v l) (hsm : ∀ x ∈ l, x.Small ∧ x.Tight) (hl : l.length ≤ maxLen) :
    Calls Try.prog 5 #[.int .i64 room, .int .i64 begin_, v] w fun e w' => e = .returned (.bool true) ∧ Below w.heap.size w w' := by
  have HO : Hid (∀ lo hi, _) := fun lo hi => only_any room begin_ lo hi v l w h hsm hl
  clear h hsm hl
  go_enter Try.func5, Try.ntmps5
  go_wp2_with fail
  refine Calls.mono (HO.out _ _) ?_
  rintro e w1 ⟨rfl, hb⟩
  have HB : Hid _ := hb
  clear hb
  go_wp2_with fail
  go_ret
  exact ⟨rfl, HB.out⟩
set_option maxHeartbeats 1600000 in
theorem QueueTakes_walk (room begin_ : Int) (v : Value) (l : List StT) (w : World) (h : StepsAt w (fun b => b < w.heap.size) v l) (hsm : ∀ x ∈ l, x.Small ∧ x.Tight) (hl : l.length ≤ maxLen) :
    Calls Try.prog 6 #[.int .i64 room, .int .i64 begin_, v] w fun e w' => e = .returned (.bool true) ∧ Below w.heap.size w w' := by
  have HO : Hid (∀ lo hi, _) := fun lo hi => only_any room begin_ lo hi v l w h hsm hl
  clear h hsm hl
  go_enter Try.func6, Try.ntmps6
  go_wp2_with fail
  refine Calls.mono (HO.out _ _) ?_
  rintro e w1 ⟨rfl, hb⟩
  have HB : Hid _ := hb
  clear hb
  go_wp2_with fail
  go_ret
  exact ⟨rfl, HB.out⟩
set_option maxHeartbeats 1600000 in
theorem QueueGoes_walk (room begin_ : Int) (v : Value) (l : List StT) (w : World) (h : StepsAt w (fun b => b < w.heap.size) v l) (hsm : ∀ x ∈ l, x.Small ∧ x.Tight) (hl : l.length ≤ maxLen) :
    Calls Try.prog 7 #[.int .i64 room, .int .i64 begin_, v] w fun e w' => e = .returned (.bool true) ∧ Below w.heap.size w w' := by
  have HO : Hid (∀ lo hi, _) := fun lo hi => only_any room begin_ lo hi v l w h hsm hl
  clear h hsm hl
  go_enter Try.func7, Try.ntmps7
  go_wp2_with fail
  refine Calls.mono (HO.out _ _) ?_
  rintro e w1 ⟨rfl, hb⟩
  have HB : Hid _ := hb
  clear hb
  go_wp2_with fail
  go_ret
  exact ⟨rfl, HB.out⟩
end Go.Proofs.Ytlidkieljiebiab
