/-
  TreeReads: the walk.
-/
import Derived.Test.YtliafokjdngejaaGreatDoorTReadF
import Derived.Deep.RegionHeld3
namespace Go.Proofs.YtliafokjdngejaaGreatDoor
open Go.RowKit Go.Maps Go.WideShapes
set_option linter.unusedVariables false
set_option linter.unusedSimpArgs false
attribute [local go_sem ↓] Go.wp_at_zero Go.wp_at_succ

/-- What a reading op is to answer. -/
def wantC (T : List Nd) (p : ByteArray) (k v : Int) : Int :=
  if (parse p).1 ≠ 0 then 10 else match fnd T p with
    | none => 40
    | some x => if k = 4 ∧ v ≠ -1 ∧ v ≠ x.v then 42 else 0
def rdR (T : List Nd) (x : Nd) (k : Int) : ResT := ⟨x.p, if k = 5 then x.d else ⟨#[]⟩, x.v, x.m, x.c, x.o, if k = 7 then kidsM T x.p else []⟩
theorem one_read (T : List Nd) (p : ByteArray) (k v : Int) (h4 : 4 ≤ k) (h7 : k ≤ 7) : oneM T 1 1 ⟨k, p, ⟨#[]⟩, v, 0⟩ = (wantC T p k v, T, if wantC T p k v = 0 then (match fnd T p with | some x => rdR T x k | none => zr) else zr, []) := by
  have hm : malC 1 k p ⟨#[]⟩ 0 = if (parse p).1 ≠ 0 then 10 else 0 := by
    unfold malC
    rw [if_neg (by omega), if_neg (by omega)]
    by_cases hp : (parse p).1 = 0
    · rw [if_neg (by simp [hp]), if_neg (by omega), if_neg (by omega), if_neg (by omega), if_neg (by simpa using hp)]
    · rw [if_pos (.inl hp), if_pos hp]
  unfold oneM wantC
  simp only [hm]
  by_cases hp : (parse p).1 = 0
  · have hp' : ¬ ((parse p).1 ≠ 0) := by simpa using hp
    rw [if_neg hp', if_neg hp', if_neg (by omega), if_neg (by omega)]
    cases hf : fnd T p with
    | none => simp
    | some x =>
      have hmis : misC k v x.v (kidsM T x.p) = if k = 4 ∧ v ≠ -1 ∧ v ≠ x.v then 42 else 0 := by
        unfold misC
        by_cases h : k = 4 ∧ v ≠ -1 ∧ v ≠ x.v
        · rw [if_pos ⟨.inr (.inr h.1), h.2⟩, if_pos h]
        · rw [if_neg (fun h9 => h ⟨by omega, h9.2⟩), if_neg h, if_neg (by omega), if_neg (by omega)]
      show (if misC k v x.v (kidsM T x.p) ≠ 0 then _ else _) = _
      rw [hmis]
      by_cases h : k = 4 ∧ v ≠ -1 ∧ v ≠ x.v
      · simp [h]
      · simp only [if_neg h]
        have e2 : ¬ k = 2 := by omega
        have e3 : ¬ k = 3 := by omega
        simp [restM, e2, e3, rdR]
  · simp [hp]
theorem play_rd (T : List Nd) (p : ByteArray) (k v : Int) (h4 : 4 ≤ k) (h7 : k ≤ 7) : playM T 1 1 [⟨k, p, ⟨#[]⟩, v, 0⟩] = ⟨wantC T p k v, 0, T, if wantC T p k v = 0 then [match fnd T p with | some x => rdR T x k | none => zr] else [], []⟩ := by
  unfold playM
  rw [if_neg (by simp [mayC])]
  unfold playL
  rw [one_read T p k v h4 h7]
  by_cases hw : wantC T p k v = 0
  · simp only [hw]
    rw [if_neg (by simp)]
    simp [playL]
  · simp only []
    rw [if_pos hw, if_neg hw]
end Go.Proofs.YtliafokjdngejaaGreatDoor
