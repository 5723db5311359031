/-
  note: a note that has nothing but its kind.
-/
import Derived.Test.YtdjfeomdiljaeaaGreatDoorNtChk3
namespace Go.Proofs.YtdjfeomdiljaeaaGreatDoor
open Go.RowKit
set_option linter.unusedVariables false
set_option linter.unusedSimpArgs false

def BareN (N : NoN) : Prop := N.num = 0 ∧ N.pri = 0 ∧ N.bak = 0 ∧ N.se = 0 ∧ N.cn = 0 ∧ N.rq = 0 ∧ N.st = 0 ∧ N.of = 0 ∧ N.cm = 0 ∧ N.cd = 0 ∧ N.ops.length = 0 ∧ N.ents.length = 0 ∧ (N.rst = 0 ∧ N.rcd = 0 ∧ N.rat = 0 ∧ N.res.length = 0) ∧ N.was.length = 0 ∧ N.parts.length = 0 ∧ N.items.length = 0 ∧ N.state.size = 0
set_option maxHeartbeats 1600000 in
theorem noReply_any (st cd at' : Int) (ra : Option Addr) (rc n : Nat) (w : World) :
    Calls Tryz.prog 114 #[.agg #[.int .i64 st, .int .i64 cd, .int .i64 at', .slice ra n rc]] w fun e w' => ∃ bb, e = .returned (.bool bb) ∧ (bb = true ↔ (st = 0 ∧ cd = 0 ∧ at' = 0 ∧ n = 0)) ∧ Below w.heap.size w w' := by
  have hb := heap_alloc_new w (.cells #[.int .i64 st, .int .i64 cd, .int .i64 at', .slice ra n rc] 46)
  obtain ⟨c0, c1, c2, c3⟩ := cells_4N hb
  clear hb
  go_enter Tryz.func114, Tryz.ntmps114
  by_cases h1 : st = 0
  · by_cases h2 : cd = 0
    · by_cases h3 : at' = 0
      · by_cases h4 : n = 0
        · go_wp2_with fail
          go_ret
          exact ⟨_, rfl, by simp [h1, h2, h3, h4], (Below.refl _ _).alloc (Nat.le_refl _) _⟩
        · have h4' : ¬ (n : Int) = 0 := by omega
          go_wp2_with fail
          go_ret
          exact ⟨_, rfl, by simp [h4, h4'], (Below.refl _ _).alloc (Nat.le_refl _) _⟩
      · go_wp2_with fail
        go_ret
        exact ⟨_, rfl, by simp [h3], (Below.refl _ _).alloc (Nat.le_refl _) _⟩
    · go_wp2_with fail
      go_ret
      exact ⟨_, rfl, by simp [h2], (Below.refl _ _).alloc (Nat.le_refl _) _⟩
  · go_wp2_with fail
    go_ret
    exact ⟨_, rfl, by simp [h1], (Below.refl _ _).alloc (Nat.le_refl _) _⟩
end Go.Proofs.YtdjfeomdiljaeaaGreatDoor
