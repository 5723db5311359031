/-
  A frame cut, made longer, turned.
-/
import Derived.Test.YtdjibjmhjofedabWFrameP
namespace Go.Proofs.Ytdjibjmhjofedab

theorem w4_take {xs : List Int} {j n : Nat} (h : j + 4 ≤ n) : w4 (xs.take n) j = w4 xs j := by
  unfold w4
  rw [List.drop_take, List.take_take, Nat.min_eq_left (by omega)]
theorem w4_append {xs r : List Int} {j : Nat} (h : j + 4 ≤ xs.length) : w4 (xs ++ r) j = w4 xs j := by
  unfold w4
  rw [List.drop_append_of_le_length (by omega), List.take_append_of_le_length (by rw [List.length_drop]; omega)]
theorem mkB_take {xs : List Int} {n : Nat} (h : 2 ≤ n) : mkB (xs.take n) = mkB xs := by
  match xs, n, h with
  | [], _, _ => simp [mkB]
  | [_], n + 2, _ => simp [mkB]
  | _ :: _ :: _, n + 2, _ => simp [mkB]
theorem mkB_append {xs r : List Int} (h : 2 ≤ xs.length) : mkB (xs ++ r) = mkB xs := by
  match xs, h with
  | _ :: _ :: _, _ => simp [mkB]

/-- Cut short. -/
theorem unf_cut {body : List Int} (hn : body.length ≤ 262144) {k : Nat} (hk : k < (frameL body).length) : unfC ((frameL body).take k) = 21 := by
  have h1 := frame_head (body := body) (by omega)
  have hl := frame_len body
  have hlk : ((frameL body).take k).length = k := by rw [List.length_take]; omega
  unfold unfC
  rw [hlk]
  by_cases h10 : k < 10
  · rw [if_pos h10]
  · rw [if_neg h10]
    have hf : fcode ((frameL body).take k) = 21 := by
      unfold fcode
      rw [mkB_take (by omega), h1.1, if_neg (by simp), hlk, if_neg h10, List.take_take, Nat.min_eq_left (by omega), w4_take (by omega), if_neg (by rw [h1.2.2.2]; simp), w4_take (by omega), h1.2.1, if_neg (by omega), if_pos (by omega)]
    rw [hf, if_pos (by decide)]
/-- With more behind. -/
theorem unf_more {body : List Int} (hb : Byt body) (hn : body.length ≤ 262144) (t : Int) : unfC (frameL body ++ [t]) = 22 := by
  have h1 := frame_head (body := body) (by omega)
  have h2 := frame_tail hb (by omega)
  have hl := frame_len body
  have hll : (frameL body ++ [t]).length = body.length + 15 := by rw [List.length_append, hl]; rfl
  have hw : w4 (frameL body ++ [t]) 2 = body.length := by rw [w4_append (by omega), h1.2.1]
  have hf : fcode (frameL body ++ [t]) = 0 := by
    unfold fcode
    rw [mkB_append (by omega), h1.1, if_neg (by simp), hll, if_neg (by omega), List.take_append_of_le_length (by omega), w4_append (by omega), if_neg (by rw [h1.2.2.2]; simp), hw, if_neg (by omega), if_neg (by omega), List.take_append_of_le_length (by omega), w4_append (by omega), if_neg (by rw [h2.2.1]; simp)]
  unfold unfC
  rw [hll, if_neg (by omega), hf, if_neg (by simp), hw, if_pos (by omega)]

theorem set_parts {xs : List Int} {k : Nat} {x y : Int} (h : xs[k]? = some x) : ∃ l r, xs = l ++ x :: r ∧ xs.set k y = l ++ y :: r := by
  have hl : k < xs.length := (List.getElem?_eq_some_iff.1 h).1
  have e : (xs.take k).length = k := by rw [List.length_take]; omega
  refine ⟨xs.take k, xs.drop (k + 1), ?_, ?_⟩
  · have hd : xs.drop k = x :: xs.drop (k + 1) := by
      rw [List.drop_eq_getElem_cons hl]
      rw [List.getElem?_eq_getElem hl] at h
      rw [Option.some.inj h]
    rw [← hd, List.take_append_drop]
  · rw [List.set_eq_take_append_cons_drop, if_pos hl]
/-- The sum tells the byte that was turned. -/
theorem crc_set {xs : List Int} {k : Nat} {x y : Int} (hb : Byt xs) (h : xs[k]? = some x) (hy : 0 ≤ y ∧ y < 256) (hne : x ≠ y) : crc (xs.set k y) ≠ crc xs := by
  obtain ⟨l, r, e1, e2⟩ := set_parts (y := y) h
  intro e
  rw [e2] at e
  rw [e1] at e hb
  exact hne (crc_turned hb hy e.symm)
theorem w4_set_out {xs : List Int} {k j : Nat} {y : Int} (h : k < j ∨ j + 4 ≤ k) : w4 (xs.set k y) j = w4 xs j := by
  unfold w4
  rcases h with h | h
  · rw [List.drop_set_of_lt h]
  · rw [List.drop_set, if_neg (by omega), List.take_set, List.set_eq_of_length_le (by rw [List.length_take]; omega)]
theorem w4_set_in {xs : List Int} {k j : Nat} {x y : Int} (hb : Byt xs) (hj : j + 4 ≤ xs.length) (hx : xs[k]? = some x) (hy : 0 ≤ y ∧ y < 256) (hne : x ≠ y) (h : j ≤ k ∧ k < j + 4) : w4 (xs.set k y) j ≠ w4 xs j := by
  obtain ⟨a, b, c, d, h0, h1, h2, h3, e⟩ := w4_at hj
  obtain ⟨a', b', c', d', g0, g1, g2, g3, e'⟩ := w4_at (xs := xs.set k y) (j := j) (by rw [List.length_set]; exact hj)
  rw [e, e']
  have hl : k < xs.length := (List.getElem?_eq_some_iff.1 hx).1
  rw [List.getElem?_set] at g0 g1 g2 g3
  have ba := hb.at h0
  have bb := hb.at h1
  have bc := hb.at h2
  have bd := hb.at h3
  simp only [be, List.foldl_cons, List.foldl_nil]
  rcases (show k = j ∨ k = j + 1 ∨ k = j + 2 ∨ k = j + 3 by omega) with rfl | rfl | rfl | rfl
  · rw [if_pos rfl, if_pos hl] at g0
    rw [if_neg (by omega), h1] at g1
    rw [if_neg (by omega), h2] at g2
    rw [if_neg (by omega), h3] at g3
    rw [h0] at hx
    cases g0; cases g1; cases g2; cases g3; cases hx
    omega
  · rw [if_neg (by omega), h0] at g0
    rw [if_pos rfl, if_pos hl] at g1
    rw [if_neg (by omega), h2] at g2
    rw [if_neg (by omega), h3] at g3
    rw [h1] at hx
    cases g0; cases g1; cases g2; cases g3; cases hx
    omega
  · rw [if_neg (by omega), h0] at g0
    rw [if_neg (by omega), h1] at g1
    rw [if_pos rfl, if_pos hl] at g2
    rw [if_neg (by omega), h3] at g3
    rw [h2] at hx
    cases g0; cases g1; cases g2; cases g3; cases hx
    omega
  · rw [if_neg (by omega), h0] at g0
    rw [if_neg (by omega), h1] at g1
    rw [if_neg (by omega), h2] at g2
    rw [if_pos rfl, if_pos hl] at g3
    rw [h3] at hx
    cases g0; cases g1; cases g2; cases g3; cases hx
    omega
theorem take_get {xs : List Int} {k n : Nat} {x : Int} (h : xs[k]? = some x) (hk : k < n) : (xs.take n)[k]? = some x := by rw [List.getElem?_take, if_pos hk]; exact h
theorem take_set_out {xs : List Int} {k n : Nat} {y : Int} (h : n ≤ k) : (xs.set k y).take n = xs.take n := by
  rw [List.take_set, List.set_eq_of_length_le (by rw [List.length_take]; omega)]

/-- One byte turned. -/
theorem unf_turned {body : List Int} (hb : Byt body) (hn : body.length ≤ 262144) {k : Nat} {x y : Int} (hx : (frameL body)[k]? = some x) (hy : 0 ≤ y ∧ y < 256) (hne : x ≠ y) : unfC ((frameL body).set k y) = 22 := by
  have h1 := frame_head (body := body) (by omega)
  have h2 := frame_tail hb (by omega)
  have hl := frame_len body
  have hF := frame_byt hb (by omega)
  have hk : k < (frameL body).length := (List.getElem?_eq_some_iff.1 hx).1
  have hls : ((frameL body).set k y).length = body.length + 14 := by rw [List.length_set, hl]
  have hf : fcode ((frameL body).set k y) = 22 := by
    by_cases c1 : k < 2
    · have hm : mkB ((frameL body).set k y) = false := by
        rw [frame_parts] at hx ⊢
        rcases (show k = 0 ∨ k = 1 by omega) with rfl | rfl
        · simp at hx
          have : ¬ y = 197 := fun e => hne (by omega)
          simp [mkB, this]
        · simp at hx
          have : ¬ y = 58 := fun e => hne (by omega)
          simp [mkB, this]
      unfold fcode
      rw [if_pos hm]
    · have hm : mkB ((frameL body).set k y) = true := by
        rw [← h1.1, ← mkB_take (xs := (frameL body).set k y) (n := 2) (by omega), take_set_out (by omega), mkB_take (by omega)]
      unfold fcode
      rw [hm, if_neg (by simp), hls, if_neg (by omega)]
      by_cases c2 : k < 6
      · rw [if_pos]
        rw [w4_set_out (by omega), ← h1.2.2.2, List.take_set]
        exact crc_set (hF.take 6) (take_get hx c2) hy hne
      · rw [take_set_out (by omega)]
        by_cases c3 : k < 10
        · rw [if_pos]
          rw [h1.2.2.2]
          exact fun e => w4_set_in hF (by omega) hx hy hne (by omega) e.symm
        · rw [w4_set_out (j := 6) (by omega), if_neg (by rw [h1.2.2.2]; simp), w4_set_out (j := 2) (by omega), h1.2.1, if_neg (by omega), if_neg (by omega)]
          by_cases c4 : k < 10 + body.length
          · rw [if_pos]
            rw [w4_set_out (by omega), ← h2.2.1, List.take_set]
            exact crc_set (hF.take _) (take_get hx c4) hy hne
          · rw [take_set_out (by omega), if_pos]
            rw [h2.2.1]
            exact fun e => w4_set_in hF (by omega) hx hy hne (by omega) e.symm
  unfold unfC
  rw [hls, if_neg (by omega), hf, if_pos (by decide)]
theorem unfB_err {xs : List Int} (h : unfC xs ≠ 0) : unfB xs = [] := by unfold unfB; rw [if_neg h]
end Go.Proofs.Ytdjibjmhjofedab
