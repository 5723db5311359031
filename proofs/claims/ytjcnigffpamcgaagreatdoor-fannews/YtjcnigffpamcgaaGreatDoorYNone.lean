/-
  fan: the calls of no hub, and of a new one.
-/
import Derived.Test.YtjcnigffpamcgaaGreatDoorYHub
namespace Go.Proofs.YtjcnigffpamcgaaGreatDoor
open Go.RowKit Go.MuLone Go.Maps
set_option linter.unusedVariables false
set_option linter.unusedSimpArgs false

set_option maxHeartbeats 1600000 in
theorem sessions_none {w : World} {p : Value} (h : NoneAt w p) : Calls Tryz.prog 27 #[p] w fun e w' => e = .returned (.tuple #[.slice none 0 0, .slice none 0 0, .slice none 0 0]) ∧ w' = w := by
  have HI : Hid _ := isNone_none h
  clear h
  go_enter_defers Tryz.func27, Tryz.ntmps27
  go_wp2_with (first
    | (go_at_call 64; refine Calls.mono HI.out ?_; rintro e w1 ⟨rfl, hw1⟩; subst hw1)
    | fail)
  exact ⟨_, results_tmp3 rfl _ _ _, rfl, rfl⟩
set_option maxHeartbeats 1600000 in
theorem hnext_none {w : World} {p : Value} (h : NoneAt w p) (a b : Int) : Calls Tryz.prog 20 #[p, .int .i64 a, .int .i64 b] w fun e w' => e = .returned (.slice none 0 0) ∧ w' = w := by
  have HI : Hid _ := isNone_none h
  clear h
  go_enter_defers Tryz.func20, Tryz.ntmps20
  go_wp2_with (first
    | (go_at_call 64; refine Calls.mono HI.out ?_; rintro e w1 ⟨rfl, hw1⟩; subst hw1)
    | fail)
  exact ⟨_, results_tmp rfl _ _ _, rfl, rfl⟩
set_option maxHeartbeats 1600000 in
theorem watches_none {w : World} {p : Value} (h : NoneAt w p) (a : Int) : Calls Tryz.prog 22 #[p, .int .i64 a] w fun e w' => e = .returned (.slice none 0 0) ∧ w' = w := by
  have HI : Hid _ := isNone_none h
  clear h
  go_enter_defers Tryz.func22, Tryz.ntmps22
  go_wp2_with (first
    | (go_at_call 64; refine Calls.mono HI.out ?_; rintro e w1 ⟨rfl, hw1⟩; subst hw1)
    | fail)
  exact ⟨_, results_tmp rfl _ _ _, rfl, rfl⟩
set_option maxHeartbeats 1600000 in
theorem floor_none {w : World} {p : Value} (h : NoneAt w p) : Calls Tryz.prog 28 #[p] w fun e w' => e = .returned (.int .i64 0) ∧ w' = w := by
  have HI : Hid _ := isNone_none h
  clear h
  go_enter_defers Tryz.func28, Tryz.ntmps28
  go_wp2_with (first
    | (go_at_call 64; refine Calls.mono HI.out ?_; rintro e w1 ⟨rfl, hw1⟩; subst hw1)
    | fail)
  exact ⟨_, results_tmp rfl _ _ _, rfl, rfl⟩
set_option maxHeartbeats 1600000 in
theorem hlast_none {w : World} {p : Value} (h : NoneAt w p) : Calls Tryz.prog 29 #[p] w fun e w' => e = .returned (.int .i64 0) ∧ w' = w := by
  have HI : Hid _ := isNone_none h
  clear h
  go_enter_defers Tryz.func29, Tryz.ntmps29
  go_wp2_with (first
    | (go_at_call 64; refine Calls.mono HI.out ?_; rintro e w1 ⟨rfl, hw1⟩; subst hw1)
    | fail)
  exact ⟨_, results_tmp rfl _ _ _, rfl, rfl⟩
set_option maxHeartbeats 1600000 in
theorem drop_none {w : World} {p : Value} (h : NoneAt w p) (a : Int) : Calls Tryz.prog 56 #[p, .int .i64 a] w fun e w' => e = .returned (.tuple #[]) ∧ w' = w := by
  have HI : Hid _ := isNone_none h
  clear h
  go_enter_defers Tryz.func56, Tryz.ntmps56
  go_wp2_with (first
    | (go_at_call 64; refine Calls.mono HI.out ?_; rintro e w1 ⟨rfl, hw1⟩; subst hw1)
    | fail)
  exact ⟨_, results_none rfl _ _ _, rfl, rfl⟩
set_option maxHeartbeats 1600000 in
theorem clear_none {w : World} {p : Value} (h : NoneAt w p) : Calls Tryz.prog 57 #[p] w fun e w' => e = .returned (.tuple #[]) ∧ w' = w := by
  have HI : Hid _ := isNone_none h
  clear h
  go_enter_defers Tryz.func57, Tryz.ntmps57
  go_wp2_with (first
    | (go_at_call 64; refine Calls.mono HI.out ?_; rintro e w1 ⟨rfl, hw1⟩; subst hw1)
    | fail)
  exact ⟨_, results_none rfl _ _ _, rfl, rfl⟩
set_option maxHeartbeats 1600000 in
theorem commit_none {w : World} {p : Value} (h : NoneAt w p) (a : Int) (c m : Value) : Calls Tryz.prog 17 #[p, .int .i64 a, c, m] w fun e w' => e = .returned (.int .i64 1) ∧ w' = w := by
  have HI : Hid _ := isNone_none h
  clear h
  go_enter_defers Tryz.func17, Tryz.ntmps17
  go_wp2_with (first
    | (go_at_call 64; refine Calls.mono HI.out ?_; rintro e w1 ⟨rfl, hw1⟩; subst hw1)
    | fail)
  exact ⟨_, results_tmp rfl _ _ _, rfl, rfl⟩
set_option maxHeartbeats 1600000 in
theorem resume_none {w : World} {p : Value} (h : NoneAt w p) (a b c : Int) (ws m : Value) : Calls Tryz.prog 55 #[p, .int .i64 a, .int .i64 b, .int .i64 c, ws, m] w fun e w' => e = .returned (.int .i64 1) ∧ w' = w := by
  have HI : Hid _ := isNone_none h
  clear h
  go_enter_defers Tryz.func55, Tryz.ntmps55
  go_wp2_with (first
    | (go_at_call 64; refine Calls.mono HI.out ?_; rintro e w1 ⟨rfl, hw1⟩; subst hw1)
    | fail)
  exact ⟨_, results_tmp rfl _ _ _, rfl, rfl⟩
set_option maxHeartbeats 1600000 in
theorem unwatch_none {w : World} {p : Value} (h : NoneAt w p) (a b c : Int) : Calls Tryz.prog 58 #[p, .int .i64 a, .int .i64 b, .int .i64 c] w fun e w' => e = .returned (.int .i64 1) ∧ w' = w := by
  have HI : Hid _ := isNone_none h
  clear h
  go_enter_defers Tryz.func58, Tryz.ntmps58
  go_wp2_with (first
    | (go_at_call 64; refine Calls.mono HI.out ?_; rintro e w1 ⟨rfl, hw1⟩; subst hw1)
    | fail)
  exact ⟨_, results_tmp rfl _ _ _, rfl, rfl⟩
set_option maxHeartbeats 1600000 in
theorem htook_none {w : World} {p : Value} (h : NoneAt w p) (a b c : Int) : Calls Tryz.prog 41 #[p, .int .i64 a, .int .i64 b, .int .i64 c] w fun e w' => e = .returned (.int .i64 1) ∧ w' = w := by
  have HI : Hid _ := isNone_none h
  clear h
  go_enter_defers Tryz.func41, Tryz.ntmps41
  go_wp2_with (first
    | (go_at_call 64; refine Calls.mono HI.out ?_; rintro e w1 ⟨rfl, hw1⟩; subst hw1)
    | fail)
  exact ⟨_, results_tmp rfl _ _ _, rfl, rfl⟩
end Go.Proofs.YtjcnigffpamcgaaGreatDoor
