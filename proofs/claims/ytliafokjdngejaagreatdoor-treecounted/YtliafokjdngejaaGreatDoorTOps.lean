/-
  tree: the small functions of an op.
-/
import Derived.Test.YtliafokjdngejaaGreatDoorTBase
namespace Go.Proofs.YtliafokjdngejaaGreatDoor
open Go.RowKit Go.Maps

abbrev opV (k : Int) (p d : ByteArray) (v f : Int) : Value := .agg #[.int .i64 k, .string p, .string d, .int .i64 v, .int .i64 f]

theorem kinds {k : Int} (h1 : 1 ≤ k) (h7 : k ≤ 7) : k = 1 ∨ k = 2 ∨ k = 3 ∨ k = 4 ∨ k = 5 ∨ k = 6 ∨ k = 7 := by omega

set_option maxHeartbeats 1600000 in
theorem flagsOf_any {k : Int} (h1 : 1 ≤ k) (h7 : k ≤ 7) (p d : ByteArray) (v f : Int) (w : World) (hg : GroundT w) :
    Calls Tryz.prog 102 #[opV k p d v f] w fun e w' => e = .returned (.int .i64 (if k = 1 then f else 0)) ∧ Below w.heap.size w w' := by
  have n1 := hg.need 1 0 true rfl
  have n2 := hg.need 2 0 false rfl
  have n3 := hg.need 3 0 false rfl
  have n4 := hg.need 4 0 false rfl
  have n5 := hg.need 5 0 false rfl
  have n6 := hg.need 6 0 false rfl
  have n7 := hg.need 7 0 false rfl
  simp only [Nat.reduceMul, Nat.reduceAdd] at n1 n2 n3 n4 n5 n6 n7
  have hlt := hg.needLt
  clear hg
  rcases kinds h1 h7 with rfl | rfl | rfl | rfl | rfl | rfl | rfl <;> clear h1 h7
  all_goals
    go_enter Tryz.func102, Tryz.ntmps102
    go_wp2
    go_ret
    exact ⟨rfl, (Below.refl _ _).alloc (Nat.le_refl _) _⟩

theorem flags4 {f : Int} (h0 : 0 ≤ f) (h3 : f ≤ 3) : f = 0 ∨ f = 1 ∨ f = 2 ∨ f = 3 := by omega

set_option maxHeartbeats 1600000 in
theorem isCounted_any {k : Int} (h1 : 1 ≤ k) (h7 : k ≤ 7) (p d : ByteArray) (v f : Int) (hf : k = 1 → 0 ≤ f ∧ f ≤ 3) (w : World) (hg : GroundT w) :
    Calls Tryz.prog 77 #[opV k p d v f] w fun e w' => e = .returned (.bool (decide (k = 1 ∧ 2 ≤ f))) ∧ Below w.heap.size w w' := by
  have HF : Hid (∀ W, GroundT W → Calls Tryz.prog 102 #[opV k p d v f] W fun e w' => e = .returned (.int .i64 (if k = 1 then f else 0)) ∧ Below W.heap.size W w') := fun W h => flagsOf_any h1 h7 p d v f W h
  have HG : Hid _ := hg
  clear hg
  by_cases hk : k = 1
  · obtain ⟨h0, h3⟩ := hf hk
    simp only [if_pos hk] at HF
    rcases flags4 h0 h3 with rfl | rfl | rfl | rfl
    all_goals
      subst hk
      clear h0 h3 hf h1 h7
      go_enter Tryz.func77, Tryz.ntmps77
      go_wp2_with (first | (go_at_call 102; refine (HF.out _ (HG.out.below ((Below.refl _ _).alloc (Nat.le_refl _) _))).mono ?_; rintro e w1 ⟨rfl, hb⟩) | fail)
      go_ret
      exact ⟨(by first | (simp; done) | (simp; decide)), (((Below.refl _ _).alloc (Nat.le_refl _) _).trans (hb.mono (by simp)))⟩
  · simp only [if_neg hk] at HF
    have hd : decide (k = 1 ∧ 2 ≤ f) = false := by simp [hk]
    rw [hd]
    clear hd h1 h7 hf
    go_enter Tryz.func77, Tryz.ntmps77
    go_wp2_with (first | (go_at_call 102; refine (HF.out _ (HG.out.below ((Below.refl _ _).alloc (Nat.le_refl _) _))).mono ?_; rintro e w1 ⟨rfl, hb⟩) | fail)
    go_ret
    exact ⟨(by first | (simp; done) | (simp; decide)), (((Below.refl _ _).alloc (Nat.le_refl _) _).trans (hb.mono (by simp)))⟩
set_option maxHeartbeats 1600000 in
theorem isBriefOp_any {k : Int} (h1 : 1 ≤ k) (h7 : k ≤ 7) (p d : ByteArray) (v f : Int) (hf : k = 1 → 0 ≤ f ∧ f ≤ 3) (w : World) (hg : GroundT w) :
    Calls Tryz.prog 78 #[opV k p d v f] w fun e w' => e = .returned (.bool (decide (k = 1 ∧ f % 2 = 1))) ∧ Below w.heap.size w w' := by
  have HF : Hid (∀ W, GroundT W → Calls Tryz.prog 102 #[opV k p d v f] W fun e w' => e = .returned (.int .i64 (if k = 1 then f else 0)) ∧ Below W.heap.size W w') := fun W h => flagsOf_any h1 h7 p d v f W h
  have HG : Hid _ := hg
  clear hg
  by_cases hk : k = 1
  · obtain ⟨h0, h3⟩ := hf hk
    simp only [if_pos hk] at HF
    rcases flags4 h0 h3 with rfl | rfl | rfl | rfl
    all_goals
      subst hk
      clear h0 h3 hf h1 h7
      go_enter Tryz.func78, Tryz.ntmps78
      go_wp2_with (first | (go_at_call 102; refine (HF.out _ (HG.out.below ((Below.refl _ _).alloc (Nat.le_refl _) _))).mono ?_; rintro e w1 ⟨rfl, hb⟩) | fail)
      go_ret
      exact ⟨(by first | (simp; done) | (simp; decide)), (((Below.refl _ _).alloc (Nat.le_refl _) _).trans (hb.mono (by simp)))⟩
  · simp only [if_neg hk] at HF
    have hd : decide (k = 1 ∧ f % 2 = 1) = false := by simp [hk]
    rw [hd]
    clear hd h1 h7 hf
    go_enter Tryz.func78, Tryz.ntmps78
    go_wp2_with (first | (go_at_call 102; refine (HF.out _ (HG.out.below ((Below.refl _ _).alloc (Nat.le_refl _) _))).mono ?_; rintro e w1 ⟨rfl, hb⟩) | fail)
    go_ret
    exact ⟨(by first | (simp; done) | (simp; decide)), (((Below.refl _ _).alloc (Nat.le_refl _) _).trans (hb.mono (by simp)))⟩

/-- The last name of a place; none of others. -/
def lastN (p : ByteArray) : ByteArray := ((parse p).2.getLast?).getD ⟨#[]⟩
theorem name_any (p : ByteArray) (w : World) (hg : Ground w) :
    Calls Tryz.prog 45 #[.string p] w fun e w' => e = .returned (.tuple #[.string (lastN p), .int .i64 (parse p).1]) ∧ Below w.heap.size w w' := by
  obtain ⟨code, xs, hp⟩ : ∃ code xs, parse p = (code, xs) := ⟨_, _, rfl⟩
  unfold lastN
  rw [hp]
  rcases List.eq_nil_or_concat xs with rfl | ⟨ys, x, rfl⟩
  · exact name_err hp w hg
  · have hc : code = 0 := Classical.byContradiction fun h => by have := parse_code hp h; simp at this
    subst hc
    simp only [List.concat_eq_append, List.getLast?_append, List.getLast?_singleton, Option.some_or, Option.getD_some]
    exact name_some hp ys.length (by simp) x (by simp) w hg

/-- Why an op is refused whatever nodes there are. -/
def malC (s k : Int) (p d : ByteArray) (f : Int) : Int :=
  if k < 1 ∨ 7 < k then 48 else
  if k = 1 ∧ ¬ (0 ≤ f ∧ f ≤ 3) then 48 else
  if (parse p).1 ≠ 0 ∨ (k = 1 ∧ 2 ≤ f) ∧ 11 < (lastN p).size then 10 else
  if (k = 1 ∨ k = 3) ∧ p = ⟨#[47]⟩ then 47 else
  if (k = 1 ∧ f % 2 = 1) ∧ s = 0 then 44 else
  if (k = 1 ∨ k = 2) ∧ 64 < d.size then 45 else 0
end Go.Proofs.YtliafokjdngejaaGreatDoor
