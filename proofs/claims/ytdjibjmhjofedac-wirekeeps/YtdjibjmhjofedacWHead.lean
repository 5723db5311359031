/-
  headed, Unframe in the document's answer.
-/
import Derived.Test.YtdjibjmhjofedacWFrom4
import Derived.Test.YtdjibjmhjofedacWRefSum
import Derived.Test.YtdjibjmhjofedacWUnframe
import Derived.Test.YtdjibjmhjofedacWApp
namespace Go.Proofs.Ytdjibjmhjofedac
open Go.RowKit

theorem refSum_front {b o c : Nat} {xs : List Int} (n : Nat) (hn : n ≤ xs.length) (hb : Byt xs) (hm : xs.length ≤ 1000000) {w : World} (h : Bys w (some ⟨b, o, none⟩) xs) :
    Calls Try.prog 38 #[.slice (some ⟨b, o, none⟩) n c] w fun e w' => e = .returned (.int .i64 (crc (xs.take n))) ∧ Below w.heap.size w w' := by
  have hl : (xs.take n).length = n := by rw [List.length_take]; omega
  have := refSum_any (some ⟨b, o, none⟩) c (xs.take n) w (h.take n) (hb.take n) (by rw [hl]; unfold maxLen; omega)
  rw [hl] at this
  refine this.mono ?_
  rintro e w' ⟨rfl, rfl⟩
  exact ⟨rfl, Below.refl _ _⟩
theorem from4_q {b o c : Nat} {xs : List Int} (j : Nat) (hj : j + 4 ≤ xs.length) (hb : Byt xs) (hm : xs.length ≤ 1000000) {w : World} (h : Bys w (some ⟨b, o, none⟩) xs) :
    Calls Try.prog 37 #[.slice (some ⟨b, o, none⟩) xs.length c, .int .i64 j] w fun e w' => e = .returned (.int .i64 (w4 xs j)) ∧ ∃ m, w' = w.drewN m := by
  obtain ⟨z0, z1, z2, z3, h0, h1, h2, h3, e⟩ := w4_at hj
  rw [e]
  exact from4_some b o xs.length c j z0 z1 z2 z3 w (by omega) hm (cells_of h j z0 h0) (cells_of h (j + 1) z1 h1) (cells_of h (j + 2) z2 h2) (cells_of h (j + 3) z3 h3) (hb.at h0) (hb.at h1) (hb.at h2) (hb.at h3)
theorem refSum_q {b o c : Nat} {xs : List Int} (n : Nat) (hn : n ≤ xs.length) (hb : Byt xs) (hm : xs.length ≤ 1000000) {w : World} (h : Bys w (some ⟨b, o, none⟩) xs) :
    Calls Try.prog 38 #[.slice (some ⟨b, o, none⟩) n c] w fun e w' => e = .returned (.int .i64 (crc (xs.take n))) ∧ ∃ m, w' = w.drewN m := by
  have hl : (xs.take n).length = n := by rw [List.length_take]; omega
  have := refSum_any (some ⟨b, o, none⟩) c (xs.take n) w (h.take n) (hb.take n) (by rw [hl]; unfold maxLen; omega)
  rw [hl] at this
  refine this.mono ?_
  rintro e w' ⟨rfl, rfl⟩
  exact ⟨rfl, 0, rfl⟩
theorem Bys.drewN {w : World} {a : Option Addr} {xs : List Int} (h : Bys w a xs) (m : Nat) : Bys (w.drewN m) a xs := h
theorem from4_at {b o c : Nat} {xs : List Int} (j : Nat) (hj : j + 4 ≤ xs.length) (hb : Byt xs) (hm : xs.length ≤ 1000000) {w : World} (h : Bys w (some ⟨b, o, none⟩) xs) :
    Calls Try.prog 37 #[.slice (some ⟨b, o, none⟩) xs.length c, .int .i64 j] w fun e w' => e = .returned (.int .i64 (w4 xs j)) ∧ Below w.heap.size w w' :=
  from4_any b o c xs j w hj hm (cells_of h) hb

set_option maxHeartbeats 3200000 in
set_option maxRecDepth 100000 in
theorem headed_m0 (b o c : Nat) (xs : List Int) (w : World) (h10 : 10 ≤ xs.length) (hc : xs.length ≤ c) (hcm : c ≤ maxLen) (hx : Bys w (some ⟨b, o, none⟩) xs) (hb : Byt xs) (hm : xs.length ≤ 1000000) (x0 x1 : Int) (h0 : xs[0]? = some x0) (h1 : xs[1]? = some x1) (hne : x0 ≠ 197) :
    Calls Try.prog 36 #[.slice (some ⟨b, o, none⟩) xs.length c] w fun e w' => e = .returned (.tuple #[.int .i64 (w4 xs 2), .bool false]) ∧ ∃ m, w' = w.drewN m := by
  unfold maxLen at hcm
  have HX : Hid (Bys w (some ⟨b, o, none⟩) xs) := hx
  have hsl : (6 : Int) ≤ (c : Int) := by omega
  have i0 : (0 : Int) < (xs.length : Int) := by omega
  have i1 : (1 : Int) < (xs.length : Int) := by omega
  have HS : Hid _ := @refSum_q b o c xs 6 (by omega) hb hm
  have HW : Hid _ := @from4_q b o c xs 6 (by omega) hb hm
  have HW2 : Hid _ := @from4_q b o c xs 2 (by omega) hb hm
  have hd : (x0 == 197) = false := by simpa using hne
  clear hne
  generalize w4 xs 2 = N at HW2 ⊢
  have hc0 := cells_of hx 0 _ h0
  have hc1 := cells_of hx 1 _ h1
  rw [Nat.add_zero] at hc0
  clear hx hb h0 h1
  go_enter Try.func36, Try.ntmps36
  go_wp2_with fail
  refine (HW2.out HX.out).mono ?_
  rintro e w1 ⟨rfl, m, rfl⟩
  go_wp2_with fail
  go_quiet (first
    | (go_at_call 37; (refine (HW.out (Bys.drewN HX.out _)).mono (fun _ _ h => ⟨h.1, (by obtain ⟨k, hk⟩ := h.2; exact ⟨_, by rw [hk, World.drewN_drewN, Nat.add_assoc]⟩)⟩)))
    | (go_at_call 38; (refine (HS.out (Bys.drewN HX.out _)).mono (fun _ _ h => ⟨h.1, (by obtain ⟨k, hk⟩ := h.2; exact ⟨_, by rw [hk, World.drewN_drewN, Nat.add_assoc]⟩)⟩))))
  go_wp2
  go_ret2
  exact ⟨rfl, m + nq, by simp⟩

set_option maxHeartbeats 3200000 in
set_option maxRecDepth 100000 in
theorem headed_m1 (b o c : Nat) (xs : List Int) (w : World) (h10 : 10 ≤ xs.length) (hc : xs.length ≤ c) (hcm : c ≤ maxLen) (hx : Bys w (some ⟨b, o, none⟩) xs) (hb : Byt xs) (hm : xs.length ≤ 1000000) (x0 x1 : Int) (h0 : xs[0]? = some x0) (h1 : xs[1]? = some x1) (he : x0 = 197) (hne : x1 ≠ 58) :
    Calls Try.prog 36 #[.slice (some ⟨b, o, none⟩) xs.length c] w fun e w' => e = .returned (.tuple #[.int .i64 (w4 xs 2), .bool false]) ∧ ∃ m, w' = w.drewN m := by
  unfold maxLen at hcm
  have HX : Hid (Bys w (some ⟨b, o, none⟩) xs) := hx
  have hsl : (6 : Int) ≤ (c : Int) := by omega
  have i0 : (0 : Int) < (xs.length : Int) := by omega
  have i1 : (1 : Int) < (xs.length : Int) := by omega
  have HS : Hid _ := @refSum_q b o c xs 6 (by omega) hb hm
  have HW : Hid _ := @from4_q b o c xs 6 (by omega) hb hm
  have HW2 : Hid _ := @from4_q b o c xs 2 (by omega) hb hm
  subst he
  have hd : (x1 == 58) = false := by simpa using hne
  clear hne
  generalize w4 xs 2 = N at HW2 ⊢
  have hc0 := cells_of hx 0 _ h0
  have hc1 := cells_of hx 1 _ h1
  rw [Nat.add_zero] at hc0
  clear hx hb h0 h1
  go_enter Try.func36, Try.ntmps36
  go_wp2_with fail
  refine (HW2.out HX.out).mono ?_
  rintro e w1 ⟨rfl, m, rfl⟩
  go_wp2_with fail
  go_quiet (first
    | (go_at_call 37; (refine (HW.out (Bys.drewN HX.out _)).mono (fun _ _ h => ⟨h.1, (by obtain ⟨k, hk⟩ := h.2; exact ⟨_, by rw [hk, World.drewN_drewN, Nat.add_assoc]⟩)⟩)))
    | (go_at_call 38; (refine (HS.out (Bys.drewN HX.out _)).mono (fun _ _ h => ⟨h.1, (by obtain ⟨k, hk⟩ := h.2; exact ⟨_, by rw [hk, World.drewN_drewN, Nat.add_assoc]⟩)⟩))))
  go_wp2
  go_ret2
  exact ⟨rfl, m + nq, by simp⟩

set_option maxHeartbeats 3200000 in
set_option maxRecDepth 100000 in
theorem headed_s (b o c : Nat) (xs : List Int) (w : World) (h10 : 10 ≤ xs.length) (hc : xs.length ≤ c) (hcm : c ≤ maxLen) (hx : Bys w (some ⟨b, o, none⟩) xs) (hb : Byt xs) (hm : xs.length ≤ 1000000) (x0 x1 : Int) (h0 : xs[0]? = some x0) (h1 : xs[1]? = some x1) (he : x0 = 197) (he1 : x1 = 58) (hne : crc (xs.take 6) ≠ w4 xs 6) :
    Calls Try.prog 36 #[.slice (some ⟨b, o, none⟩) xs.length c] w fun e w' => e = .returned (.tuple #[.int .i64 (w4 xs 2), .bool false]) ∧ ∃ m, w' = w.drewN m := by
  unfold maxLen at hcm
  have HX : Hid (Bys w (some ⟨b, o, none⟩) xs) := hx
  have hsl : (6 : Int) ≤ (c : Int) := by omega
  have i0 : (0 : Int) < (xs.length : Int) := by omega
  have i1 : (1 : Int) < (xs.length : Int) := by omega
  have HS : Hid _ := @refSum_q b o c xs 6 (by omega) hb hm
  have HW : Hid _ := @from4_q b o c xs 6 (by omega) hb hm
  have HW2 : Hid _ := @from4_q b o c xs 2 (by omega) hb hm
  subst he
  subst he1
  have hd : ((w4 xs 6 : Int) == (crc (xs.take 6) : Int)) = false := by simp; omega
  generalize w4 xs 6 = C2 at HW hd hne
  generalize crc (xs.take 6) = C1 at HS hd hne
  clear hne
  generalize w4 xs 2 = N at HW2 ⊢
  have hc0 := cells_of hx 0 _ h0
  have hc1 := cells_of hx 1 _ h1
  rw [Nat.add_zero] at hc0
  clear hx hb h0 h1
  go_enter Try.func36, Try.ntmps36
  go_wp2_with fail
  refine (HW2.out HX.out).mono ?_
  rintro e w1 ⟨rfl, m, rfl⟩
  go_wp2_with fail
  go_quiet (first
    | (go_at_call 37; (refine (HW.out (Bys.drewN HX.out _)).mono (fun _ _ h => ⟨h.1, (by obtain ⟨k, hk⟩ := h.2; exact ⟨_, by rw [hk, World.drewN_drewN, Nat.add_assoc]⟩)⟩)))
    | (go_at_call 38; (refine (HS.out (Bys.drewN HX.out _)).mono (fun _ _ h => ⟨h.1, (by obtain ⟨k, hk⟩ := h.2; exact ⟨_, by rw [hk, World.drewN_drewN, Nat.add_assoc]⟩)⟩))))
  go_wp2
  go_ret2
  exact ⟨rfl, m + nq, by simp⟩

set_option maxHeartbeats 3200000 in
set_option maxRecDepth 100000 in
theorem headed_good (b o c : Nat) (xs : List Int) (w : World) (h10 : 10 ≤ xs.length) (hc : xs.length ≤ c) (hcm : c ≤ maxLen) (hx : Bys w (some ⟨b, o, none⟩) xs) (hb : Byt xs) (hm : xs.length ≤ 1000000) (x0 x1 : Int) (h0 : xs[0]? = some x0) (h1 : xs[1]? = some x1) (he : x0 = 197) (he1 : x1 = 58) (hs : crc (xs.take 6) = w4 xs 6) :
    Calls Try.prog 36 #[.slice (some ⟨b, o, none⟩) xs.length c] w fun e w' => e = .returned (.tuple #[.int .i64 (w4 xs 2), .bool (decide ((w4 xs 2 : Int) ≤ 262144))]) ∧ ∃ m, w' = w.drewN m := by
  unfold maxLen at hcm
  have HX : Hid (Bys w (some ⟨b, o, none⟩) xs) := hx
  have hsl : (6 : Int) ≤ (c : Int) := by omega
  have i0 : (0 : Int) < (xs.length : Int) := by omega
  have i1 : (1 : Int) < (xs.length : Int) := by omega
  have HS : Hid _ := @refSum_q b o c xs 6 (by omega) hb hm
  have HW : Hid _ := @from4_q b o c xs 6 (by omega) hb hm
  have HW2 : Hid _ := @from4_q b o c xs 2 (by omega) hb hm
  subst he
  subst he1
  rw [hs] at HS
  generalize w4 xs 6 = C2 at HW HS hs
  clear hs
  generalize w4 xs 2 = N at HW2 ⊢
  have hc0 := cells_of hx 0 _ h0
  have hc1 := cells_of hx 1 _ h1
  rw [Nat.add_zero] at hc0
  clear hx hb h0 h1
  go_enter Try.func36, Try.ntmps36
  go_wp2_with fail
  refine (HW2.out HX.out).mono ?_
  rintro e w1 ⟨rfl, m, rfl⟩
  go_wp2_with fail
  go_quiet (first
    | (go_at_call 37; (refine (HW.out (Bys.drewN HX.out _)).mono (fun _ _ h => ⟨h.1, (by obtain ⟨k, hk⟩ := h.2; exact ⟨_, by rw [hk, World.drewN_drewN, Nat.add_assoc]⟩)⟩)))
    | (go_at_call 38; (refine (HS.out (Bys.drewN HX.out _)).mono (fun _ _ h => ⟨h.1, (by obtain ⟨k, hk⟩ := h.2; exact ⟨_, by rw [hk, World.drewN_drewN, Nat.add_assoc]⟩)⟩))))
  go_wp2
  go_ret2
  exact ⟨rfl, m + nq, by simp⟩

/-- Is the head right? -/
def hdB (xs : List Int) : Bool := decide (mkB xs = true ∧ crc (xs.take 6) = w4 xs 6 ∧ w4 xs 2 ≤ 262144)
theorem headed_any (b o c : Nat) (xs : List Int) (w : World) (h10 : 10 ≤ xs.length) (hc : xs.length ≤ c) (hcm : c ≤ maxLen) (hx : Bys w (some ⟨b, o, none⟩) xs) (hb : Byt xs) (hm : xs.length ≤ 1000000) :
    Calls Try.prog 36 #[.slice (some ⟨b, o, none⟩) xs.length c] w fun e w' => e = .returned (.tuple #[.int .i64 (w4 xs 2), .bool (hdB xs)]) ∧ Below w.heap.size w w' := by
  have fin : ∀ r, r = hdB xs → (Calls Try.prog 36 #[.slice (some ⟨b, o, none⟩) xs.length c] w fun e w' => e = .returned (.tuple #[.int .i64 (w4 xs 2), .bool r]) ∧ ∃ m, w' = w.drewN m) → Calls Try.prog 36 #[.slice (some ⟨b, o, none⟩) xs.length c] w fun e w' => e = .returned (.tuple #[.int .i64 (w4 xs 2), .bool (hdB xs)]) ∧ Below w.heap.size w w' := by
    rintro r rfl h
    refine h.mono ?_
    rintro e w' ⟨rfl, m, rfl⟩
    exact ⟨rfl, below_drewN (Below.refl _ _) m⟩
  match xs, h10, fin, hx, hb, hm, hc with
  | x0 :: x1 :: r, h10, fin, hx, hb, hm, hc =>
    by_cases e0 : x0 = 197
    · by_cases e1 : x1 = 58
      · have hmk : mkB (x0 :: x1 :: r) = true := by simp [mkB, e0, e1]
        by_cases hs : crc ((x0 :: x1 :: r).take 6) = w4 (x0 :: x1 :: r) 6
        · refine fin _ ?_ (headed_good b o c _ w h10 hc hcm hx hb hm x0 x1 rfl rfl e0 e1 hs)
          unfold hdB
          rw [hmk, hs]
          by_cases hN : w4 (x0 :: x1 :: r) 2 ≤ 262144
          · rw [decide_eq_true (by omega), decide_eq_true ⟨rfl, rfl, hN⟩]
          · rw [decide_eq_false (by omega), decide_eq_false (fun h => hN h.2.2)]
        · refine fin _ ?_ (headed_s b o c _ w h10 hc hcm hx hb hm x0 x1 rfl rfl e0 e1 hs)
          unfold hdB
          rw [decide_eq_false (fun h => hs h.2.1)]
      · refine fin _ ?_ (headed_m1 b o c _ w h10 hc hcm hx hb hm x0 x1 rfl rfl e0 e1)
        unfold hdB
        rw [decide_eq_false (fun h => e1 (by simpa [mkB, e0] using h.1))]
    · refine fin _ ?_ (headed_m0 b o c _ w h10 hc hcm hx hb hm x0 x1 rfl rfl e0)
      unfold hdB
      rw [decide_eq_false (fun h => e0 (by have := h.1; simp [mkB] at this; exact this.1))]
  | [_], h10, _, _, _, _, _ => simp at h10
  | [], h10, _, _, _, _, _ => simp at h10

end Go.Proofs.Ytdjibjmhjofedac
