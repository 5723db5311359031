/-
  What bytes say: frames, skipped bytes, what is not decided yet. By numbers alone.
-/
import Derived.Test.YtdjibjmhjofedacWUnframe
namespace Go.Proofs.Ytdjibjmhjofedac
open Go.RowKit

theorem fcode_nil : fcode [] = 21 := rfl

theorem fcode_cases (xs : List Int) : fcode xs = 0 ∨ fcode xs = 21 ∨ fcode xs = 22 := by
  unfold fcode
  repeat' split
  all_goals simp

/-- The bodies, the number of skipped bytes, how many bytes are done with. -/
def dec (xs : List Int) : List (List Int) × Nat × Nat :=
  if h0 : fcode xs = 0 then
    let r := dec (xs.drop (14 + w4 xs 2))
    (((xs.drop 10).take (w4 xs 2)) :: r.1, r.2.1, 14 + w4 xs 2 + r.2.2)
  else if h1 : fcode xs = 21 then ([], 0, 0)
  else
    let r := dec (xs.drop 1)
    (r.1, r.2.1 + 1, 1 + r.2.2)
  termination_by xs.length
  decreasing_by
  · have := (fcode_ok h0).2.1
    rw [List.length_drop]; omega
  · have : xs ≠ [] := by rintro rfl; exact h1 rfl
    have := List.length_pos_iff.2 this
    rw [List.length_drop]; omega

theorem dec_body {xs : List Int} (h : fcode xs = 0) : dec xs = (((xs.drop 10).take (w4 xs 2)) :: (dec (xs.drop (14 + w4 xs 2))).1, (dec (xs.drop (14 + w4 xs 2))).2.1, 14 + w4 xs 2 + (dec (xs.drop (14 + w4 xs 2))).2.2) := by
  rw [dec, dif_pos h]
theorem dec_stop {xs : List Int} (h : fcode xs = 21) : dec xs = ([], 0, 0) := by
  rw [dec, dif_neg (by rw [h]; decide), dif_pos h]
theorem dec_skip {xs : List Int} (h : fcode xs = 22) : dec xs = ((dec (xs.drop 1)).1, (dec (xs.drop 1)).2.1 + 1, 1 + (dec (xs.drop 1)).2.2) := by
  rw [dec, dif_neg (by rw [h]; decide), dif_neg (by rw [h]; decide)]

theorem w4_append {xs ys : List Int} {j : Nat} (h : j + 4 ≤ xs.length) : w4 (xs ++ ys) j = w4 xs j := by
  unfold w4
  rw [List.drop_append_of_le_length (by omega), List.take_append_of_le_length (by rw [List.length_drop]; omega)]

theorem mkB_append_false {xs ys : List Int} (h : mkB xs = false) : mkB (xs ++ ys) = false := by
  match xs, h with
  | [x], h =>
    cases ys with
    | nil => exact h
    | cons y r =>
      have h' : ¬ x = 197 := by simpa [mkB] using h
      show decide (x = 197 ∧ y = 58) = false
      exact decide_eq_false (fun k => h' k.1)
  | x :: y :: r, h => exact h
theorem mkB_append_long {xs ys : List Int} (h : 2 ≤ xs.length) : mkB (xs ++ ys) = mkB xs := by
  match xs, h with
  | x :: y :: r, _ => rfl

theorem take_append_of {xs ys : List Int} {n : Nat} (h : n ≤ xs.length) : (xs ++ ys).take n = xs.take n := List.take_append_of_le_length h
theorem drop_append_of {xs ys : List Int} {n : Nat} (h : n ≤ xs.length) : (xs ++ ys).drop n = xs.drop n ++ ys := List.drop_append_of_le_length h

theorem fcode_append {xs ys : List Int} (h : fcode xs ≠ 21) : fcode (xs ++ ys) = fcode xs := by
  unfold fcode at h ⊢
  by_cases h1 : mkB xs = false
  · rw [if_pos h1, if_pos (mkB_append_false h1)]
  · rw [if_neg h1] at h ⊢
    by_cases h2 : xs.length < 10
    · rw [if_pos h2] at h; exact absurd rfl h
    · rw [if_neg h2] at h ⊢
      rw [if_neg (by rw [mkB_append_long (by omega)]; exact h1), if_neg (by rw [List.length_append]; omega), take_append_of (by omega), w4_append (by omega), w4_append (by omega)]
      by_cases h3 : crc (xs.take 6) ≠ w4 xs 6
      · rw [if_pos h3, if_pos h3]
      · rw [if_neg h3] at h
        rw [if_neg h3, if_neg h3]
        by_cases h4 : 262144 < w4 xs 2
        · rw [if_pos h4, if_pos h4]
        · rw [if_neg h4] at h
          rw [if_neg h4, if_neg h4]
          by_cases h5 : xs.length < 14 + w4 xs 2
          · rw [if_pos h5] at h; exact absurd rfl h
          · rw [if_neg h5, if_neg (by rw [List.length_append]; omega), take_append_of (by omega), w4_append (by omega)]

theorem dec_through (xs : List Int) : (dec xs).2.2 ≤ xs.length := by
  induction h : xs.length using Nat.strongRecOn generalizing xs with
  | _ n ih =>
    rcases fcode_cases xs with h0 | h1 | h2
    · have hl := (fcode_ok h0).2.1
      have := ih _ (by rw [← h, List.length_drop]; omega) (xs.drop (14 + w4 xs 2)) rfl
      rw [List.length_drop] at this
      rw [dec_body h0]
      show 14 + w4 xs 2 + _ ≤ n
      omega
    · rw [dec_stop h1]; exact Nat.zero_le _
    · have hp : 0 < xs.length := List.length_pos_iff.2 (by rintro rfl; cases h2)
      have := ih _ (by rw [← h, List.length_drop]; omega) (xs.drop 1) rfl
      rw [List.length_drop] at this
      rw [dec_skip h2]
      show 1 + _ ≤ n
      omega

/-- What is left is not decided. -/
theorem dec_left (xs : List Int) : fcode (xs.drop (dec xs).2.2) = 21 := by
  induction h : xs.length using Nat.strongRecOn generalizing xs with
  | _ n ih =>
    rcases fcode_cases xs with h0 | h1 | h2
    · have hl := (fcode_ok h0).2.1
      have := ih _ (by rw [← h, List.length_drop]; omega) (xs.drop (14 + w4 xs 2)) rfl
      rw [List.drop_drop] at this
      rw [dec_body h0]
      exact this
    · rw [dec_stop h1]; exact h1
    · have hp : 0 < xs.length := List.length_pos_iff.2 (by rintro rfl; cases h2)
      have := ih _ (by rw [← h, List.length_drop]; omega) (xs.drop 1) rfl
      rw [List.drop_drop] at this
      rw [dec_skip h2]
      exact this

/-- What bytes say does not hang on the pieces in which they come. -/
theorem dec_append (xs ys : List Int) : dec (xs ++ ys) = ((dec xs).1 ++ (dec (xs.drop (dec xs).2.2 ++ ys)).1, (dec xs).2.1 + (dec (xs.drop (dec xs).2.2 ++ ys)).2.1, (dec xs).2.2 + (dec (xs.drop (dec xs).2.2 ++ ys)).2.2) := by
  induction h : xs.length using Nat.strongRecOn generalizing xs with
  | _ n ih =>
    rcases fcode_cases xs with h0 | h1 | h2
    · have hl := (fcode_ok h0).2.1
      have := ih _ (by rw [← h, List.length_drop]; omega) (xs.drop (14 + w4 xs 2)) rfl
      have hf : fcode (xs ++ ys) = 0 := (fcode_append (by rw [h0]; decide)).trans h0
      rw [dec_body hf, w4_append (by omega), drop_append_of (n := 14 + w4 xs 2) (by omega), this, drop_append_of (n := 10) (by omega), take_append_of (by rw [List.length_drop]; omega), dec_body h0, List.drop_drop]
      simp only [List.cons_append, Nat.add_assoc]
    · rw [dec_stop h1]
      simp
    · have hp : 0 < xs.length := List.length_pos_iff.2 (by rintro rfl; cases h2)
      have := ih _ (by rw [← h, List.length_drop]; omega) (xs.drop 1) rfl
      have hf : fcode (xs ++ ys) = 22 := (fcode_append (by rw [h2]; decide)).trans h2
      rw [dec_skip hf, drop_append_of (n := 1) (by omega), this, dec_skip h2, List.drop_drop]
      dsimp only
      refine Prod.ext rfl (Prod.ext ?_ ?_)
      · show _ + _ + 1 = _ + 1 + _
        omega
      · show 1 + (_ + _) = 1 + _ + _
        omega
end Go.Proofs.Ytdjibjmhjofedac
