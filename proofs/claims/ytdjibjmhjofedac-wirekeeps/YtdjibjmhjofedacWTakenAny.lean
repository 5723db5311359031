/-
  taken, for any number that is asked for.
-/
import Derived.Test.YtdjibjmhjofedacWNothing
namespace Go.Proofs.Ytdjibjmhjofedac
open Go.RowKit
set_option linter.unusedVariables false

set_option maxRecDepth 100000 in
set_option maxHeartbeats 3200000 in
theorem taken_le (sb sk : Nat) (rv fv : Value) (xs : List Int) (fs : List (Value × List Int)) (most : Int) (w : World) (h : St w sb rv fv xs fs sk) (hm : most ≤ 0) :
    Calls Try.prog 11 #[.pointer (some ⟨sb, 0, none⟩), .int .i64 most] w fun e w' => e = .returned (.tuple #[.slice none 0 0, .bool true]) ∧ Tk w sb rv fv xs fs sk most 0 0 (.slice none 0 0) fv w' := by
  have heq := eql_func_nil
  have HT : Hid _ := Tk.start h most
  clear h
  go_enter Try.func11, Try.ntmps11
  go_wp2_with (first | (go_at_call 31; refine Calls.mono (bodies_any _ _) ?_; rintro e w1 ⟨rfl, rfl⟩) | fail)
  go_ret2
  exact ⟨rfl, HT.out⟩

theorem taken_any (sb sk : Nat) (rv fv : Value) (xs : List Int) (fs : List (Value × List Int)) (most : Int) (w : World) (h : St w sb rv fv xs fs sk) (hl : fs.length ≤ 100000) :
    Calls Try.prog 11 #[.pointer (some ⟨sb, 0, none⟩), .int .i64 most] w fun e w' => ∃ k lv fv', e = .returned (.tuple #[lv, .bool true]) ∧ k ≤ fs.length ∧ ((k : Int) ≤ most ∨ k = 0) ∧ ((k : Int) < most → k = fs.length) ∧ Tk w sb rv fv xs fs sk most k k lv fv' w' := by
  by_cases hm : most ≤ 0
  · refine (taken_le sb sk rv fv xs fs most w h hm).mono ?_
    rintro e w' ⟨rfl, hT⟩
    exact ⟨0, _, _, rfl, Nat.zero_le _, .inr rfl, fun h => by omega, hT⟩
  · refine (taken_st sb sk rv fv xs fs most w h (by omega) hl).mono ?_
    rintro e w' ⟨k, lv, fv', rfl, h1, h2, h3, hT⟩
    exact ⟨k, lv, fv', rfl, h1, .inl h2, h3, hT⟩
end Go.Proofs.Ytdjibjmhjofedac
