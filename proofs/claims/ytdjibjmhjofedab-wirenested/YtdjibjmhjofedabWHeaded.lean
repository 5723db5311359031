/-
  headed, Unframe in the document's answer.
-/
import Derived.Test.YtdjibjmhjofedabWRefWord
import Derived.Test.YtdjibjmhjofedabWRefSum
import Derived.Test.YtdjibjmhjofedabWUnframe
import Derived.Test.YtdjibjmhjofedabWApp
namespace Go.Proofs.Ytdjibjmhjofedab
open Go.RowKit

theorem refSum_front {b o c : Nat} {xs : List Int} (n : Nat) (hn : n ≤ xs.length) (hb : Byt xs) (hm : xs.length ≤ 1000000) {w : World} (h : Bys w (some ⟨b, o, none⟩) xs) :
    Calls Try.prog 38 #[.slice (some ⟨b, o, none⟩) n c] w fun e w' => e = .returned (.int .i64 (crc (xs.take n))) ∧ Below w.heap.size w w' := by
  have hl : (xs.take n).length = n := by rw [List.length_take]; omega
  have := refSum_any (some ⟨b, o, none⟩) c (xs.take n) w (h.take n) (hb.take n) (by rw [hl]; unfold maxLen; omega)
  rw [hl] at this
  refine this.mono ?_
  rintro e w' ⟨rfl, rfl⟩
  exact ⟨rfl, Below.refl _ _⟩
theorem from4_q {b o c : Nat} {xs : List Int} (j : Nat) (hj : j + 4 ≤ xs.length) (hb : Byt xs) (hm : xs.length ≤ 1000000) {w : World} (h : Bys w (some ⟨b, o, none⟩) xs) :
    Calls Try.prog 40 #[.slice (some ⟨b, o, none⟩) xs.length c, .int .i64 j] w fun e w' => e = .returned (.int .i64 (w4 xs j)) ∧ ∃ m, w' = w.drewN m := by
  obtain ⟨z0, z1, z2, z3, h0, h1, h2, h3, e⟩ := w4_at hj
  rw [e]
  exact from4_some b o xs.length c j z0 z1 z2 z3 w (by omega) hm (cells_of h j z0 h0) (cells_of h (j + 1) z1 h1) (cells_of h (j + 2) z2 h2) (cells_of h (j + 3) z3 h3) (hb.at h0) (hb.at h1) (hb.at h2) (hb.at h3)
theorem refSum_q {b o c : Nat} {xs : List Int} (n : Nat) (hn : n ≤ xs.length) (hb : Byt xs) (hm : xs.length ≤ 1000000) {w : World} (h : Bys w (some ⟨b, o, none⟩) xs) :
    Calls Try.prog 38 #[.slice (some ⟨b, o, none⟩) n c] w fun e w' => e = .returned (.int .i64 (crc (xs.take n))) ∧ ∃ m, w' = w.drewN m := by
  have hl : (xs.take n).length = n := by rw [List.length_take]; omega
  have := refSum_any (some ⟨b, o, none⟩) c (xs.take n) w (h.take n) (hb.take n) (by rw [hl]; unfold maxLen; omega)
  rw [hl] at this
  refine this.mono ?_
  rintro e w' ⟨rfl, rfl⟩
  exact ⟨rfl, 0, rfl⟩
theorem Bys.drewN {w : World} {a : Option Addr} {xs : List Int} (h : Bys w a xs) (m : Nat) : Bys (w.drewN m) a xs := h
theorem from4_at {b o c : Nat} {xs : List Int} (j : Nat) (hj : j + 4 ≤ xs.length) (hb : Byt xs) (hm : xs.length ≤ 1000000) {w : World} (h : Bys w (some ⟨b, o, none⟩) xs) :
    Calls Try.prog 40 #[.slice (some ⟨b, o, none⟩) xs.length c, .int .i64 j] w fun e w' => e = .returned (.int .i64 (w4 xs j)) ∧ Below w.heap.size w w' :=
  from4_any b o c xs j w hj hm (cells_of h) hb

set_option maxHeartbeats 3200000 in
set_option maxRecDepth 100000 in
theorem headed_m0 (b o c : Nat) (xs : List Int) (w : World) (h10 : 10 ≤ xs.length) (hc : xs.length ≤ c) (hcm : c ≤ maxLen) (hx : Bys w (some ⟨b, o, none⟩) xs) (hb : Byt xs) (hm : xs.length ≤ 1000000) (x0 x1 : Int) (h0 : xs[0]? = some x0) (h1 : xs[1]? = some x1) (hne : x0 ≠ 197) :
    Calls Try.prog 39 #[.slice (some ⟨b, o, none⟩) xs.length c] w fun e w' => e = .returned (.tuple #[.int .i64 (w4 xs 2), .bool false]) ∧ ∃ m, w' = w.drewN m := by
  unfold maxLen at hcm
  have HX : Hid (Bys w (some ⟨b, o, none⟩) xs) := hx
  have hsl : (6 : Int) ≤ (c : Int) := by omega
  have i0 : (0 : Int) < (xs.length : Int) := by omega
  have i1 : (1 : Int) < (xs.length : Int) := by omega
  have HS : Hid _ := @refSum_q b o c xs 6 (by omega) hb hm
  have HW : Hid _ := @from4_q b o c xs 6 (by omega) hb hm
  have HW2 : Hid _ := @from4_q b o c xs 2 (by omega) hb hm
  have hd : (x0 == 197) = false := by simpa using hne
  clear hne
  generalize w4 xs 2 = N at HW2 ⊢
  have hc0 := cells_of hx 0 _ h0
  have hc1 := cells_of hx 1 _ h1
  rw [Nat.add_zero] at hc0
  clear hx hb h0 h1
  go_enter Try.func39, Try.ntmps39
  go_wp2_with fail
  refine (HW2.out HX.out).mono ?_
  rintro e w1 ⟨rfl, m, rfl⟩
  go_wp2_with fail
  go_quiet (first
    | (go_at_call 40; (refine (HW.out (Bys.drewN HX.out _)).mono (fun _ _ h => ⟨h.1, (by obtain ⟨k, hk⟩ := h.2; exact ⟨_, by rw [hk, World.drewN_drewN, Nat.add_assoc]⟩)⟩)))
    | (go_at_call 38; (refine (HS.out (Bys.drewN HX.out _)).mono (fun _ _ h => ⟨h.1, (by obtain ⟨k, hk⟩ := h.2; exact ⟨_, by rw [hk, World.drewN_drewN, Nat.add_assoc]⟩)⟩))))
  go_wp2
  go_ret2
  exact ⟨rfl, m + nq, by simp⟩

set_option maxHeartbeats 3200000 in
set_option maxRecDepth 100000 in
theorem headed_m1 (b o c : Nat) (xs : List Int) (w : World) (h10 : 10 ≤ xs.length) (hc : xs.length ≤ c) (hcm : c ≤ maxLen) (hx : Bys w (some ⟨b, o, none⟩) xs) (hb : Byt xs) (hm : xs.length ≤ 1000000) (x0 x1 : Int) (h0 : xs[0]? = some x0) (h1 : xs[1]? = some x1) (he : x0 = 197) (hne : x1 ≠ 58) :
    Calls Try.prog 39 #[.slice (some ⟨b, o, none⟩) xs.length c] w fun e w' => e = .returned (.tuple #[.int .i64 (w4 xs 2), .bool false]) ∧ ∃ m, w' = w.drewN m := by
  unfold maxLen at hcm
  have HX : Hid (Bys w (some ⟨b, o, none⟩) xs) := hx
  have hsl : (6 : Int) ≤ (c : Int) := by omega
  have i0 : (0 : Int) < (xs.length : Int) := by omega
  have i1 : (1 : Int) < (xs.length : Int) := by omega
  have HS : Hid _ := @refSum_q b o c xs 6 (by omega) hb hm
  have HW : Hid _ := @from4_q b o c xs 6 (by omega) hb hm
  have HW2 : Hid _ := @from4_q b o c xs 2 (by omega) hb hm
  subst he
  have hd : (x1 == 58) = false := by simpa using hne
  clear hne
  generalize w4 xs 2 = N at HW2 ⊢
  have hc0 := cells_of hx 0 _ h0
  have hc1 := cells_of hx 1 _ h1
  rw [Nat.add_zero] at hc0
  clear hx hb h0 h1
  go_enter Try.func39, Try.ntmps39
  go_wp2_with fail
  refine (HW2.out HX.out).mono ?_
  rintro e w1 ⟨rfl, m, rfl⟩
  go_wp2_with fail
  go_quiet (first
    | (go_at_call 40; (refine (HW.out (Bys.drewN HX.out _)).mono (fun _ _ h => ⟨h.1, (by obtain ⟨k, hk⟩ := h.2; exact ⟨_, by rw [hk, World.drewN_drewN, Nat.add_assoc]⟩)⟩)))
    | (go_at_call 38; (refine (HS.out (Bys.drewN HX.out _)).mono (fun _ _ h => ⟨h.1, (by obtain ⟨k, hk⟩ := h.2; exact ⟨_, by rw [hk, World.drewN_drewN, Nat.add_assoc]⟩)⟩))))
  go_wp2
  go_ret2
  exact ⟨rfl, m + nq, by simp⟩

set_option maxHeartbeats 3200000 in
set_option maxRecDepth 100000 in
theorem headed_s (b o c : Nat) (xs : List Int) (w : World) (h10 : 10 ≤ xs.length) (hc : xs.length ≤ c) (hcm : c ≤ maxLen) (hx : Bys w (some ⟨b, o, none⟩) xs) (hb : Byt xs) (hm : xs.length ≤ 1000000) (x0 x1 : Int) (h0 : xs[0]? = some x0) (h1 : xs[1]? = some x1) (he : x0 = 197) (he1 : x1 = 58) (hne : crc (xs.take 6) ≠ w4 xs 6) :
    Calls Try.prog 39 #[.slice (some ⟨b, o, none⟩) xs.length c] w fun e w' => e = .returned (.tuple #[.int .i64 (w4 xs 2), .bool false]) ∧ ∃ m, w' = w.drewN m := by
  unfold maxLen at hcm
  have HX : Hid (Bys w (some ⟨b, o, none⟩) xs) := hx
  have hsl : (6 : Int) ≤ (c : Int) := by omega
  have i0 : (0 : Int) < (xs.length : Int) := by omega
  have i1 : (1 : Int) < (xs.length : Int) := by omega
  have HS : Hid _ := @refSum_q b o c xs 6 (by omega) hb hm
  have HW : Hid _ := @from4_q b o c xs 6 (by omega) hb hm
  have HW2 : Hid _ := @from4_q b o c xs 2 (by omega) hb hm
  subst he
  subst he1
  have hd : ((w4 xs 6 : Int) == (crc (xs.take 6) : Int)) = false := by simp; omega
  generalize w4 xs 6 = C2 at HW hd hne
  generalize crc (xs.take 6) = C1 at HS hd hne
  clear hne
  generalize w4 xs 2 = N at HW2 ⊢
  have hc0 := cells_of hx 0 _ h0
  have hc1 := cells_of hx 1 _ h1
  rw [Nat.add_zero] at hc0
  clear hx hb h0 h1
  go_enter Try.func39, Try.ntmps39
  go_wp2_with fail
  refine (HW2.out HX.out).mono ?_
  rintro e w1 ⟨rfl, m, rfl⟩
  go_wp2_with fail
  go_quiet (first
    | (go_at_call 40; (refine (HW.out (Bys.drewN HX.out _)).mono (fun _ _ h => ⟨h.1, (by obtain ⟨k, hk⟩ := h.2; exact ⟨_, by rw [hk, World.drewN_drewN, Nat.add_assoc]⟩)⟩)))
    | (go_at_call 38; (refine (HS.out (Bys.drewN HX.out _)).mono (fun _ _ h => ⟨h.1, (by obtain ⟨k, hk⟩ := h.2; exact ⟨_, by rw [hk, World.drewN_drewN, Nat.add_assoc]⟩)⟩))))
  go_wp2
  go_ret2
  exact ⟨rfl, m + nq, by simp⟩

set_option maxHeartbeats 3200000 in
set_option maxRecDepth 100000 in
theorem headed_good (b o c : Nat) (xs : List Int) (w : World) (h10 : 10 ≤ xs.length) (hc : xs.length ≤ c) (hcm : c ≤ maxLen) (hx : Bys w (some ⟨b, o, none⟩) xs) (hb : Byt xs) (hm : xs.length ≤ 1000000) (x0 x1 : Int) (h0 : xs[0]? = some x0) (h1 : xs[1]? = some x1) (he : x0 = 197) (he1 : x1 = 58) (hs : crc (xs.take 6) = w4 xs 6) :
    Calls Try.prog 39 #[.slice (some ⟨b, o, none⟩) xs.length c] w fun e w' => e = .returned (.tuple #[.int .i64 (w4 xs 2), .bool (decide ((w4 xs 2 : Int) ≤ 262144))]) ∧ ∃ m, w' = w.drewN m := by
  unfold maxLen at hcm
  have HX : Hid (Bys w (some ⟨b, o, none⟩) xs) := hx
  have hsl : (6 : Int) ≤ (c : Int) := by omega
  have i0 : (0 : Int) < (xs.length : Int) := by omega
  have i1 : (1 : Int) < (xs.length : Int) := by omega
  have HS : Hid _ := @refSum_q b o c xs 6 (by omega) hb hm
  have HW : Hid _ := @from4_q b o c xs 6 (by omega) hb hm
  have HW2 : Hid _ := @from4_q b o c xs 2 (by omega) hb hm
  subst he
  subst he1
  rw [hs] at HS
  generalize w4 xs 6 = C2 at HW HS hs
  clear hs
  generalize w4 xs 2 = N at HW2 ⊢
  have hc0 := cells_of hx 0 _ h0
  have hc1 := cells_of hx 1 _ h1
  rw [Nat.add_zero] at hc0
  clear hx hb h0 h1
  go_enter Try.func39, Try.ntmps39
  go_wp2_with fail
  refine (HW2.out HX.out).mono ?_
  rintro e w1 ⟨rfl, m, rfl⟩
  go_wp2_with fail
  go_quiet (first
    | (go_at_call 40; (refine (HW.out (Bys.drewN HX.out _)).mono (fun _ _ h => ⟨h.1, (by obtain ⟨k, hk⟩ := h.2; exact ⟨_, by rw [hk, World.drewN_drewN, Nat.add_assoc]⟩)⟩)))
    | (go_at_call 38; (refine (HS.out (Bys.drewN HX.out _)).mono (fun _ _ h => ⟨h.1, (by obtain ⟨k, hk⟩ := h.2; exact ⟨_, by rw [hk, World.drewN_drewN, Nat.add_assoc]⟩)⟩))))
  go_wp2
  go_ret2
  exact ⟨rfl, m + nq, by simp⟩

/-- Is the head right? -/
def hdB (xs : List Int) : Bool := decide (mkB xs = true ∧ crc (xs.take 6) = w4 xs 6 ∧ w4 xs 2 ≤ 262144)
theorem headed_any (b o c : Nat) (xs : List Int) (w : World) (h10 : 10 ≤ xs.length) (hc : xs.length ≤ c) (hcm : c ≤ maxLen) (hx : Bys w (some ⟨b, o, none⟩) xs) (hb : Byt xs) (hm : xs.length ≤ 1000000) :
    Calls Try.prog 39 #[.slice (some ⟨b, o, none⟩) xs.length c] w fun e w' => e = .returned (.tuple #[.int .i64 (w4 xs 2), .bool (hdB xs)]) ∧ Below w.heap.size w w' := by
  have fin : ∀ r, r = hdB xs → (Calls Try.prog 39 #[.slice (some ⟨b, o, none⟩) xs.length c] w fun e w' => e = .returned (.tuple #[.int .i64 (w4 xs 2), .bool r]) ∧ ∃ m, w' = w.drewN m) → Calls Try.prog 39 #[.slice (some ⟨b, o, none⟩) xs.length c] w fun e w' => e = .returned (.tuple #[.int .i64 (w4 xs 2), .bool (hdB xs)]) ∧ Below w.heap.size w w' := by
    rintro r rfl h
    refine h.mono ?_
    rintro e w' ⟨rfl, m, rfl⟩
    exact ⟨rfl, below_drewN (Below.refl _ _) m⟩
  match xs, h10, fin, hx, hb, hm, hc with
  | x0 :: x1 :: r, h10, fin, hx, hb, hm, hc =>
    by_cases e0 : x0 = 197
    · by_cases e1 : x1 = 58
      · have hmk : mkB (x0 :: x1 :: r) = true := by simp [mkB, e0, e1]
        by_cases hs : crc ((x0 :: x1 :: r).take 6) = w4 (x0 :: x1 :: r) 6
        · refine fin _ ?_ (headed_good b o c _ w h10 hc hcm hx hb hm x0 x1 rfl rfl e0 e1 hs)
          unfold hdB
          rw [hmk, hs]
          by_cases hN : w4 (x0 :: x1 :: r) 2 ≤ 262144
          · rw [decide_eq_true (by omega), decide_eq_true ⟨rfl, rfl, hN⟩]
          · rw [decide_eq_false (by omega), decide_eq_false (fun h => hN h.2.2)]
        · refine fin _ ?_ (headed_s b o c _ w h10 hc hcm hx hb hm x0 x1 rfl rfl e0 e1 hs)
          unfold hdB
          rw [decide_eq_false (fun h => hs h.2.1)]
      · refine fin _ ?_ (headed_m1 b o c _ w h10 hc hcm hx hb hm x0 x1 rfl rfl e0 e1)
        unfold hdB
        rw [decide_eq_false (fun h => e1 (by simpa [mkB, e0] using h.1))]
    · refine fin _ ?_ (headed_m0 b o c _ w h10 hc hcm hx hb hm x0 x1 rfl rfl e0)
      unfold hdB
      rw [decide_eq_false (fun h => e0 (by have := h.1; simp [mkB] at this; exact this.1))]
  | [_], h10, _, _, _, _, _ => simp at h10
  | [], h10, _, _, _, _, _ => simp at h10

set_option maxHeartbeats 3200000 in
set_option maxRecDepth 100000 in
theorem refUnframe_any (a : Option Addr) (c : Nat) (xs : List Int) (w : World) (hx : Bys w a xs) (hb : Byt xs) (hc : xs.length ≤ c) (hcm : c ≤ maxLen) (hm : xs.length ≤ 1000000) :
    Calls Try.prog 25 #[.slice a xs.length c] w fun e w' => ∃ a' c', e = .returned (.tuple #[.slice a' (unfB xs).length c', .int .i64 (unfC xs)]) ∧ Bys w' a' (unfB xs) ∧ Below w.heap.size w w' := by
  obtain ⟨i0, hi, hz0, hz1, hz2⟩ := info_parts Try.info5
  by_cases h10 : xs.length < 10
  · have e1 : unfC xs = 21 := by unfold unfC; rw [if_pos h10]
    have e2 : unfB xs = [] := by unfold unfB; rw [if_neg (by rw [e1]; decide)]
    rw [e1, e2]
    clear e1 e2 hx hb
    go_enter Try.func25, Try.ntmps25
    go_wp2
    go_ret2
    exact ⟨none, 0, rfl, .inl rfl, Below.refl _ _⟩
  · rcases hx with rfl | ⟨b, o, rfl, hlt, hs⟩
    · simp at h10
    · have hx : Bys w (some ⟨b, o, none⟩) xs := .inr ⟨b, o, rfl, hlt, hs⟩
      have HH : Hid _ := headed_any b o c xs w (by omega) hc hcm hx hb hm
      have HX : Hid (Bys w (some ⟨b, o, none⟩) xs) := hx
      have HLT : Hid _ := hlt
      unfold maxLen at hcm
      by_cases hr : hdB xs = true
      · rw [hr] at HH
        have hr' : mkB xs = true ∧ crc (xs.take 6) = w4 xs 6 ∧ w4 xs 2 ≤ 262144 := of_decide_eq_true hr
        have hN := hr'.2.2
        by_cases h4 : xs.length < 14 + w4 xs 2
        · have ef : fcode xs = 21 := by
            unfold fcode
            rw [if_neg (by rw [hr'.1]; simp), if_neg h10, if_neg (by rw [hr'.2.1]; simp), if_neg (by omega), if_pos h4]
          have e1 : unfC xs = 21 := by unfold unfC; rw [if_neg h10, if_pos (by rw [ef]; decide), ef]
          have e2 : unfB xs = [] := by unfold unfB; rw [if_neg (by rw [e1]; decide)]
          rw [e1, e2]
          generalize w4 xs 2 = N at HH hN h4
          clear ef e1 e2 hr hr' hx hb hs hlt
          go_enter Try.func25, Try.ntmps25
          go_wp2_with (first | (go_at_call 39; refine Calls.mono HH.out ?_; rintro e w1 ⟨rfl, hb1⟩; have HB1 : Hid _ := hb1; clear hb1) | fail)
          go_ret2
          exact ⟨none, 0, rfl, .inl rfl, HB1.out⟩
        · by_cases hmore : 14 + w4 xs 2 < xs.length
          · have e1 : unfC xs = 22 := by
              unfold unfC
              rw [if_neg h10]
              split
              · rename_i hf
                unfold fcode at hf ⊢
                rw [if_neg (by rw [hr'.1]; simp), if_neg h10, if_neg (by rw [hr'.2.1]; simp), if_neg (by omega), if_neg h4] at hf ⊢
                split at hf
                · rename_i h5; rw [if_pos h5]
                · exact absurd rfl hf
              · rfl
            have e2 : unfB xs = [] := by unfold unfB; rw [if_neg (by rw [e1]; decide)]
            rw [e1, e2]
            generalize w4 xs 2 = N at HH hN h4 hmore
            have hg : (N : Int) + 14 < (xs.length : Int) := by omega
            clear e1 e2 hr hr' hx hb hs hlt
            go_enter Try.func25, Try.ntmps25
            go_wp2_with (first | (go_at_call 39; refine Calls.mono HH.out ?_; rintro e w1 ⟨rfl, hb1⟩; have HB1 : Hid _ := hb1; have HX1 : Hid (Bys w1 (some ⟨b, o, none⟩) xs) := Bys.below HX.out hb1; clear hb1) | fail)
            go_quiet (fail)
            go_wp2
            go_ret2
            exact ⟨none, 0, rfl, .inl rfl, below_drewN HB1.out _⟩
          · by_cases h5 : crc (xs.take (10 + w4 xs 2)) ≠ w4 xs (10 + w4 xs 2)
            · have ef : fcode xs = 22 := by
                unfold fcode
                rw [if_neg (by rw [hr'.1]; simp), if_neg h10, if_neg (by rw [hr'.2.1]; simp), if_neg (by omega), if_neg h4, if_pos h5]
              have e1 : unfC xs = 22 := by unfold unfC; rw [if_neg h10, if_pos (by rw [ef]; decide), ef]
              have e2 : unfB xs = [] := by unfold unfB; rw [if_neg (by rw [e1]; decide)]
              rw [e1, e2]
              obtain ⟨E, hE⟩ : ∃ E, 10 + w4 xs 2 = E := ⟨_, rfl⟩
              have HW : Hid _ := @from4_q b o c xs E (by omega) hb hm
              have HS : Hid _ := @refSum_q b o c xs E (by omega) hb hm
              rw [hE] at h5
              have hd : ((w4 xs E : Int) != (crc (xs.take E) : Int)) = true := by simp; omega
              generalize w4 xs E = C2 at HW hd h5
              generalize crc (xs.take E) = C1 at HS hd h5
              generalize w4 xs 2 = N at HH hN h4 hmore hE
              have hEi : (10 : Int) + (N : Int) = (E : Int) := by omega
              have hg : decide ((N : Int) + 14 < (xs.length : Int)) = false := by simp; omega
              have hE1 : (E : Int) ≤ (c : Int) := by omega
              clear ef e1 e2 hr hr' hx hb hs hlt h5 hE
              go_enter Try.func25, Try.ntmps25
              go_wp2_with (first | (go_at_call 39; refine Calls.mono HH.out ?_; rintro e w1 ⟨rfl, hb1⟩; have HB1 : Hid _ := hb1; have HX1 : Hid (Bys w1 (some ⟨b, o, none⟩) xs) := Bys.below HX.out hb1; clear hb1) | fail)
              go_quiet (first
                | (go_at_call 40; (refine (HW.out (Bys.drewN HX1.out _)).mono (fun _ _ h => ⟨h.1, (by obtain ⟨k, hk⟩ := h.2; exact ⟨_, by rw [hk, World.drewN_drewN]⟩)⟩)))
                | (go_at_call 38; (refine (HS.out (Bys.drewN HX1.out _)).mono (fun _ _ h => ⟨h.1, (by obtain ⟨k, hk⟩ := h.2; exact ⟨_, by rw [hk, World.drewN_drewN]⟩)⟩))))
              go_wp2
              go_ret2
              exact ⟨none, 0, rfl, .inl rfl, below_drewN HB1.out _⟩
            · have h5' : crc (xs.take (10 + w4 xs 2)) = w4 xs (10 + w4 xs 2) := by simpa using h5
              have ef : fcode xs = 0 := by
                unfold fcode
                rw [if_neg (by rw [hr'.1]; simp), if_neg h10, if_neg (by rw [hr'.2.1]; simp), if_neg (by omega), if_neg h4, if_neg h5]
              have e1 : unfC xs = 0 := by unfold unfC; rw [if_neg h10, if_neg (by rw [ef]; simp), if_neg hmore]
              have e2 : unfB xs = (xs.drop 10).take (w4 xs 2) := by unfold unfB; rw [if_pos e1]
              have hlen : ((xs.drop 10).take (w4 xs 2)).length = w4 xs 2 := by rw [List.length_take, List.length_drop]; omega
              have hcat : Bys w (some ⟨b, o + 10, none⟩) ((xs.drop 10).take (w4 xs 2)) := (hx.drop 10 hlt).take _
              rw [e1, e2, hlen]
              have HC : Hid _ := hcat
              have HL : Hid _ := hlen
              generalize (xs.drop 10).take (w4 xs 2) = ys at HC HL
              obtain ⟨E, hE⟩ : ∃ E, 10 + w4 xs 2 = E := ⟨_, rfl⟩
              have HW : Hid _ := @from4_q b o c xs E (by omega) hb hm
              have HS : Hid _ := @refSum_q b o c xs E (by omega) hb hm
              rw [hE] at h5'
              rw [h5'] at HS
              generalize w4 xs E = C2 at HW HS h5'
              generalize w4 xs 2 = N at HH hN h4 hmore hE HL
              have hEi : (10 : Int) + (N : Int) = (E : Int) := by omega
              have hg : decide ((N : Int) + 14 < (xs.length : Int)) = false := by simp; omega
              have hE1 : (E : Int) ≤ (c : Int) := by omega
              have hE2 : (10 : Int) ≤ (E : Int) := by omega
              have hE3 : ¬ c - 10 = 0 := by omega
              have HE : Hid (E - 10 = N) := by show E - 10 = N; omega
              clear ef e1 e2 hr hr' hx hb hs hlt h5 h5' hE hcat hlen
              go_enter Try.func25, Try.ntmps25
              go_wp2_with (first | (go_at_call 39; refine Calls.mono HH.out ?_; rintro e w1 ⟨rfl, hb1⟩; have HB1 : Hid _ := hb1; have HX1 : Hid (Bys w1 (some ⟨b, o, none⟩) xs) := Bys.below HX.out hb1; clear hb1) | fail)
              go_quiet (first
                | (go_at_call 40; (refine (HW.out (Bys.drewN HX1.out _)).mono (fun _ _ h => ⟨h.1, (by obtain ⟨k, hk⟩ := h.2; exact ⟨_, by rw [hk, World.drewN_drewN]⟩)⟩)))
                | (go_at_call 38; (refine (HS.out (Bys.drewN HX1.out _)).mono (fun _ _ h => ⟨h.1, (by obtain ⟨k, hk⟩ := h.2; exact ⟨_, by rw [hk, World.drewN_drewN]⟩)⟩))))
              have HC1 : Hid _ := Bys.below HC.out (below_drewN HB1.out nq)
              have HB2 : Hid (Below w.heap.size w (w1.drewN nq)) := below_drewN HB1.out nq
              generalize w1.drewN nq = w2 at HC1 HB2 ⊢
              go_wp2_with (first | (at_builtin; refine wpList_app rfl _ _ rfl w2.heap.size (.slice none 0 0) [] rfl (World.ownsRow_nil _ _ _ _) (some ⟨b, o + 10, none⟩) (E - 10) (c - 10) ys rfl (by rw [HE.out, HL.out]) HC1.out (fun h => by cases h) (by have := HL.out; simp; omega) (Nat.le_refl _) ?_) | fail)
              intro v3 w3 ho hg3
              have ho : w3.ownsRow w2.heap.size 5 1 v3 ys.length (bv ys) := by simpa using ho
              have HB3 : Hid (Below w.heap.size w w3) := trans2 HB2.out ((Below.refl _ _).grown hg3 (Nat.le_refl _) (fun k hk => by cases hk))
              obtain ⟨a3, c3, rfl, hx3, -⟩ := bys_of_owns ho
              have HX3 : Hid _ := hx3
              rw [HL.out]
              clear ho hg3 hx3
              go_wp2
              go_ret2
              exact ⟨a3, c3, rfl, HX3.out, HB3.out⟩
      · have hr0 : hdB xs = false := by simpa using hr
        rw [hr0] at HH
        have ef : fcode xs = 22 := by
          have hn : ¬ (mkB xs = true ∧ crc (xs.take 6) = w4 xs 6 ∧ w4 xs 2 ≤ 262144) := of_decide_eq_false hr0
          unfold fcode
          by_cases g1 : mkB xs = false
          · rw [if_pos g1]
          · rw [if_neg g1, if_neg h10]
            by_cases g2 : crc (xs.take 6) ≠ w4 xs 6
            · rw [if_pos g2]
            · rw [if_neg g2]
              have g3 : 262144 < w4 xs 2 := by
                rcases Nat.lt_or_ge 262144 (w4 xs 2) with g | g
                · exact g
                · exact absurd ⟨by simpa using g1, by simpa using g2, g⟩ hn
              rw [if_pos g3]
        have e1 : unfC xs = 22 := by unfold unfC; rw [if_neg h10, if_pos (by rw [ef]; decide), ef]
        have e2 : unfB xs = [] := by unfold unfB; rw [if_neg (by rw [e1]; decide)]
        rw [e1, e2]
        generalize w4 xs 2 = N at HH
        clear ef e1 e2 hr hr0 hx hb hs hlt
        go_enter Try.func25, Try.ntmps25
        go_wp2_with (first | (go_at_call 39; refine Calls.mono HH.out ?_; rintro e w1 ⟨rfl, hb1⟩; have HB1 : Hid _ := hb1; clear hb1) | fail)
        go_ret2
        exact ⟨none, 0, rfl, .inl rfl, HB1.out⟩
end Go.Proofs.Ytdjibjmhjofedab
