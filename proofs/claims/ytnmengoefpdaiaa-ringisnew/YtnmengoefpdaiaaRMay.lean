/-
  ring: mayFollow, Hold.
-/
import Derived.Test.YtnmengoefpdaiaaRNew
namespace Go.Proofs.Ytnmengoefpdaiaa
open Go.RowKit
set_option linter.unusedVariables false
set_option linter.unusedSimpArgs false

def RingT.may (R : RingT) (e : EnT) : Int := if R.last = 2147483647 ∨ ¬ (0 ≤ e.v ∧ e.v ≤ 2147483647) then 3 else if e.s ≠ (R.last : Int) + 1 then 61 else if e.v < R.top then 1 else if R.l.length = R.room ∧ R.hold = R.floor then 62 else 0
set_option maxHeartbeats 1600000 in
theorem mayFollow_a (b : Nat) (R : RingT) (e : EnT) (x : Value) (w : World) (h : RingAt w b R) (h1 : R.last = 2147483647) : Calls Try.prog 29 #[.pointer (some ⟨b, 0, none⟩), e.val x] w fun e' w' => e' = .returned (.int .i64 3) ∧ Below w.heap.size w w' := by
  have HX : Hid (∀ w', Below w.heap.size w w' → RingAt w' b R) := fun w' hb => h.below hb
  have HL : Hid (∀ w', Below w.heap.size w w' → _) := fun w' hb => last_any (some ⟨b, 0, none⟩) R w' (.inr ⟨b, rfl, h.below hb⟩)
  have HF : Hid (∀ w', Below w.heap.size w w' → _) := fun w' hb => isFull_any b R w' (h.below hb)
  have HN : Hid (∀ w', _) := fun w' => isNumber_any e.v w'
  obtain ⟨s, v, k, se, rq, ops⟩ := e
  have hm := h.ok.max
  generalize R.last = L at *
  generalize R.top = T at *
  clear h
  go_enter Try.func29, Try.ntmps29
  go_wp2_with fail
  refine Calls.mono (HL.out _ ((Below.refl _ _).alloc (Nat.le_refl _) _)) ?_
  rintro e' w1 ⟨rfl, hb⟩
  obtain ⟨q0, q1, -, -, -, -⟩ := cells_6 (kept_block hb (heap_alloc_new _ _))
  have HB : Hid (Below w.heap.size w w1) := trans2 ((Below.refl _ _).alloc (Nat.le_refl _) _) hb
  clear hb HL
  subst h1
  clear HX HF HN
  go_wp2_with fail
  go_ret
  exact ⟨rfl, HB.out⟩
set_option maxHeartbeats 1600000 in
theorem mayFollow_b (b : Nat) (R : RingT) (e : EnT) (x : Value) (w : World) (h : RingAt w b R) (h1 : R.last ≠ 2147483647) (h2 : ¬ (0 ≤ e.v ∧ e.v ≤ 2147483647)) : Calls Try.prog 29 #[.pointer (some ⟨b, 0, none⟩), e.val x] w fun e' w' => e' = .returned (.int .i64 3) ∧ Below w.heap.size w w' := by
  have HX : Hid (∀ w', Below w.heap.size w w' → RingAt w' b R) := fun w' hb => h.below hb
  have HL : Hid (∀ w', Below w.heap.size w w' → _) := fun w' hb => last_any (some ⟨b, 0, none⟩) R w' (.inr ⟨b, rfl, h.below hb⟩)
  have HF : Hid (∀ w', Below w.heap.size w w' → _) := fun w' hb => isFull_any b R w' (h.below hb)
  have HN : Hid (∀ w', _) := fun w' => isNumber_any e.v w'
  obtain ⟨s, v, k, se, rq, ops⟩ := e
  have hm := h.ok.max
  generalize R.last = L at *
  generalize R.top = T at *
  clear h
  go_enter Try.func29, Try.ntmps29
  go_wp2_with fail
  refine Calls.mono (HL.out _ ((Below.refl _ _).alloc (Nat.le_refl _) _)) ?_
  rintro e' w1 ⟨rfl, hb⟩
  obtain ⟨q0, q1, -, -, -, -⟩ := cells_6 (kept_block hb (heap_alloc_new _ _))
  have HB : Hid (Below w.heap.size w w1) := trans2 ((Below.refl _ _).alloc (Nat.le_refl _) _) hb
  clear hb HL
  have hn : (decide (0 ≤ v) && decide (v ≤ 2147483647)) = false := by simp only [Bool.and_eq_false_iff, decide_eq_false_iff_not]; omega
  have HN' : Hid (∀ w', _) := fun w' => isNumber_any v w'
  rw [hn] at HN'
  clear hn
  go_wp2_with fail
  refine Calls.mono (HN'.out _) ?_
  rintro e w2 ⟨rfl, rfl⟩
  clear HX HF HN h2
  go_wp2_with fail
  go_ret
  exact ⟨rfl, HB.out⟩
set_option maxHeartbeats 1600000 in
theorem mayFollow_c (b : Nat) (R : RingT) (e : EnT) (x : Value) (w : World) (h : RingAt w b R) (h1 : R.last ≠ 2147483647) (h2 : 0 ≤ e.v ∧ e.v ≤ 2147483647) (h3 : e.s ≠ (R.last : Int) + 1) : Calls Try.prog 29 #[.pointer (some ⟨b, 0, none⟩), e.val x] w fun e' w' => e' = .returned (.int .i64 61) ∧ Below w.heap.size w w' := by
  have HX : Hid (∀ w', Below w.heap.size w w' → RingAt w' b R) := fun w' hb => h.below hb
  have HL : Hid (∀ w', Below w.heap.size w w' → _) := fun w' hb => last_any (some ⟨b, 0, none⟩) R w' (.inr ⟨b, rfl, h.below hb⟩)
  have HF : Hid (∀ w', Below w.heap.size w w' → _) := fun w' hb => isFull_any b R w' (h.below hb)
  have HN : Hid (∀ w', _) := fun w' => isNumber_any e.v w'
  obtain ⟨s, v, k, se, rq, ops⟩ := e
  have hm := h.ok.max
  generalize R.last = L at *
  generalize R.top = T at *
  clear h
  go_enter Try.func29, Try.ntmps29
  go_wp2_with fail
  refine Calls.mono (HL.out _ ((Below.refl _ _).alloc (Nat.le_refl _) _)) ?_
  rintro e' w1 ⟨rfl, hb⟩
  obtain ⟨q0, q1, -, -, -, -⟩ := cells_6 (kept_block hb (heap_alloc_new _ _))
  have HB : Hid (Below w.heap.size w w1) := trans2 ((Below.refl _ _).alloc (Nat.le_refl _) _) hb
  clear hb HL
  have hn : (decide (0 ≤ v) && decide (v ≤ 2147483647)) = true := by simp only [Bool.and_eq_true, decide_eq_true_eq]; exact h2
  have HN' : Hid (∀ w', _) := fun w' => isNumber_any v w'
  rw [hn] at HN'
  clear hn
  go_wp2_with fail
  refine Calls.mono (HN'.out _) ?_
  rintro e w2 ⟨rfl, rfl⟩
  clear HX HF HN h2
  go_wp2_with fail
  go_ret
  exact ⟨rfl, HB.out⟩
set_option maxHeartbeats 1600000 in
theorem mayFollow_d (b : Nat) (R : RingT) (e : EnT) (x : Value) (w : World) (h : RingAt w b R) (h1 : R.last ≠ 2147483647) (h2 : 0 ≤ e.v ∧ e.v ≤ 2147483647) (h3 : e.s = (R.last : Int) + 1) (h4 : e.v < R.top) : Calls Try.prog 29 #[.pointer (some ⟨b, 0, none⟩), e.val x] w fun e' w' => e' = .returned (.int .i64 1) ∧ Below w.heap.size w w' := by
  have HX : Hid (∀ w', Below w.heap.size w w' → RingAt w' b R) := fun w' hb => h.below hb
  have HL : Hid (∀ w', Below w.heap.size w w' → _) := fun w' hb => last_any (some ⟨b, 0, none⟩) R w' (.inr ⟨b, rfl, h.below hb⟩)
  have HF : Hid (∀ w', Below w.heap.size w w' → _) := fun w' hb => isFull_any b R w' (h.below hb)
  have HN : Hid (∀ w', _) := fun w' => isNumber_any e.v w'
  obtain ⟨s, v, k, se, rq, ops⟩ := e
  have hm := h.ok.max
  generalize R.last = L at *
  generalize R.top = T at *
  clear h
  go_enter Try.func29, Try.ntmps29
  go_wp2_with fail
  refine Calls.mono (HL.out _ ((Below.refl _ _).alloc (Nat.le_refl _) _)) ?_
  rintro e' w1 ⟨rfl, hb⟩
  obtain ⟨q0, q1, -, -, -, -⟩ := cells_6 (kept_block hb (heap_alloc_new _ _))
  have HB : Hid (Below w.heap.size w w1) := trans2 ((Below.refl _ _).alloc (Nat.le_refl _) _) hb
  clear hb HL
  have hn : (decide (0 ≤ v) && decide (v ≤ 2147483647)) = true := by simp only [Bool.and_eq_true, decide_eq_true_eq]; exact h2
  have HN' : Hid (∀ w', _) := fun w' => isNumber_any v w'
  rw [hn] at HN'
  clear hn
  go_wp2_with fail
  refine Calls.mono (HN'.out _) ?_
  rintro e w2 ⟨rfl, rfl⟩
  clear HX HF HN h2
  subst h3
  go_wp2_with fail
  go_ret
  exact ⟨rfl, HB.out⟩
set_option maxHeartbeats 1600000 in
theorem mayFollow_e (b : Nat) (R : RingT) (e : EnT) (x : Value) (w : World) (h : RingAt w b R) (h1 : R.last ≠ 2147483647) (h2 : 0 ≤ e.v ∧ e.v ≤ 2147483647) (h3 : e.s = (R.last : Int) + 1) (h4 : ¬ e.v < R.top) (h5 : R.l.length ≠ R.room) : Calls Try.prog 29 #[.pointer (some ⟨b, 0, none⟩), e.val x] w fun e' w' => e' = .returned (.int .i64 0) ∧ Below w.heap.size w w' := by
  have HX : Hid (∀ w', Below w.heap.size w w' → RingAt w' b R) := fun w' hb => h.below hb
  have HL : Hid (∀ w', Below w.heap.size w w' → _) := fun w' hb => last_any (some ⟨b, 0, none⟩) R w' (.inr ⟨b, rfl, h.below hb⟩)
  have HF : Hid (∀ w', Below w.heap.size w w' → _) := fun w' hb => isFull_any b R w' (h.below hb)
  have HN : Hid (∀ w', _) := fun w' => isNumber_any e.v w'
  obtain ⟨s, v, k, se, rq, ops⟩ := e
  have hm := h.ok.max
  generalize R.last = L at *
  generalize R.top = T at *
  clear h
  go_enter Try.func29, Try.ntmps29
  go_wp2_with fail
  refine Calls.mono (HL.out _ ((Below.refl _ _).alloc (Nat.le_refl _) _)) ?_
  rintro e' w1 ⟨rfl, hb⟩
  obtain ⟨q0, q1, -, -, -, -⟩ := cells_6 (kept_block hb (heap_alloc_new _ _))
  have HB : Hid (Below w.heap.size w w1) := trans2 ((Below.refl _ _).alloc (Nat.le_refl _) _) hb
  clear hb HL
  have hn : (decide (0 ≤ v) && decide (v ≤ 2147483647)) = true := by simp only [Bool.and_eq_true, decide_eq_true_eq]; exact h2
  have HN' : Hid (∀ w', _) := fun w' => isNumber_any v w'
  rw [hn] at HN'
  clear hn
  go_wp2_with fail
  refine Calls.mono (HN'.out _) ?_
  rintro e w2 ⟨rfl, rfl⟩
  obtain ⟨c3, c4⟩ : w2.cell? ⟨b, 387, none⟩ = some (.int .i64 R.hold) ∧ w2.cell? ⟨b, 385, none⟩ = some (.int .i64 R.floor) := ⟨(HX.out _ HB.out).hold, (HX.out _ HB.out).floor⟩
  have HF1 : Hid (∀ n, _) := fun n => HF.out (w2.drewN n) (below_drewN HB.out n)
  clear HX HF HN h2
  subst h3
  rw [show decide (R.l.length = R.room) = false by simpa using h5] at HF1
  clear h5
  go_wp2_with fail
  go_quiet (first
    | (go_at_call 30; (refine (HF1.out _).mono (fun _ _ h => ⟨h.1, (by obtain ⟨k, hk⟩ := h.2; exact ⟨_, by rw [hk, World.drewN_drewN]⟩)⟩))))
  go_wp2_with fail
  go_ret
  exact ⟨rfl, below_drewN HB.out _⟩
set_option maxHeartbeats 1600000 in
theorem mayFollow_f (b : Nat) (R : RingT) (e : EnT) (x : Value) (w : World) (h : RingAt w b R) (h1 : R.last ≠ 2147483647) (h2 : 0 ≤ e.v ∧ e.v ≤ 2147483647) (h3 : e.s = (R.last : Int) + 1) (h4 : ¬ e.v < R.top) (h5 : R.l.length = R.room) (h6 : R.hold = R.floor) : Calls Try.prog 29 #[.pointer (some ⟨b, 0, none⟩), e.val x] w fun e' w' => e' = .returned (.int .i64 62) ∧ Below w.heap.size w w' := by
  have HX : Hid (∀ w', Below w.heap.size w w' → RingAt w' b R) := fun w' hb => h.below hb
  have HL : Hid (∀ w', Below w.heap.size w w' → _) := fun w' hb => last_any (some ⟨b, 0, none⟩) R w' (.inr ⟨b, rfl, h.below hb⟩)
  have HF : Hid (∀ w', Below w.heap.size w w' → _) := fun w' hb => isFull_any b R w' (h.below hb)
  have HN : Hid (∀ w', _) := fun w' => isNumber_any e.v w'
  obtain ⟨s, v, k, se, rq, ops⟩ := e
  have hm := h.ok.max
  generalize R.last = L at *
  generalize R.top = T at *
  clear h
  go_enter Try.func29, Try.ntmps29
  go_wp2_with fail
  refine Calls.mono (HL.out _ ((Below.refl _ _).alloc (Nat.le_refl _) _)) ?_
  rintro e' w1 ⟨rfl, hb⟩
  obtain ⟨q0, q1, -, -, -, -⟩ := cells_6 (kept_block hb (heap_alloc_new _ _))
  have HB : Hid (Below w.heap.size w w1) := trans2 ((Below.refl _ _).alloc (Nat.le_refl _) _) hb
  clear hb HL
  have hn : (decide (0 ≤ v) && decide (v ≤ 2147483647)) = true := by simp only [Bool.and_eq_true, decide_eq_true_eq]; exact h2
  have HN' : Hid (∀ w', _) := fun w' => isNumber_any v w'
  rw [hn] at HN'
  clear hn
  go_wp2_with fail
  refine Calls.mono (HN'.out _) ?_
  rintro e w2 ⟨rfl, rfl⟩
  obtain ⟨c3, c4⟩ : w2.cell? ⟨b, 387, none⟩ = some (.int .i64 R.hold) ∧ w2.cell? ⟨b, 385, none⟩ = some (.int .i64 R.floor) := ⟨(HX.out _ HB.out).hold, (HX.out _ HB.out).floor⟩
  have HF1 : Hid (∀ n, _) := fun n => HF.out (w2.drewN n) (below_drewN HB.out n)
  clear HX HF HN h2
  subst h3
  rw [show decide (R.l.length = R.room) = true by simpa using h5] at HF1
  clear h5
  go_wp2_with fail
  go_quiet (first
    | (go_at_call 30; (refine (HF1.out _).mono (fun _ _ h => ⟨h.1, (by obtain ⟨k, hk⟩ := h.2; exact ⟨_, by rw [hk, World.drewN_drewN]⟩)⟩))))
  go_wp2_with fail
  go_ret
  exact ⟨rfl, below_drewN HB.out _⟩
set_option maxHeartbeats 1600000 in
theorem mayFollow_g (b : Nat) (R : RingT) (e : EnT) (x : Value) (w : World) (h : RingAt w b R) (h1 : R.last ≠ 2147483647) (h2 : 0 ≤ e.v ∧ e.v ≤ 2147483647) (h3 : e.s = (R.last : Int) + 1) (h4 : ¬ e.v < R.top) (h5 : R.l.length = R.room) (h6 : R.hold ≠ R.floor) : Calls Try.prog 29 #[.pointer (some ⟨b, 0, none⟩), e.val x] w fun e' w' => e' = .returned (.int .i64 0) ∧ Below w.heap.size w w' := by
  have HX : Hid (∀ w', Below w.heap.size w w' → RingAt w' b R) := fun w' hb => h.below hb
  have HL : Hid (∀ w', Below w.heap.size w w' → _) := fun w' hb => last_any (some ⟨b, 0, none⟩) R w' (.inr ⟨b, rfl, h.below hb⟩)
  have HF : Hid (∀ w', Below w.heap.size w w' → _) := fun w' hb => isFull_any b R w' (h.below hb)
  have HN : Hid (∀ w', _) := fun w' => isNumber_any e.v w'
  obtain ⟨s, v, k, se, rq, ops⟩ := e
  have hm := h.ok.max
  generalize R.last = L at *
  generalize R.top = T at *
  clear h
  go_enter Try.func29, Try.ntmps29
  go_wp2_with fail
  refine Calls.mono (HL.out _ ((Below.refl _ _).alloc (Nat.le_refl _) _)) ?_
  rintro e' w1 ⟨rfl, hb⟩
  obtain ⟨q0, q1, -, -, -, -⟩ := cells_6 (kept_block hb (heap_alloc_new _ _))
  have HB : Hid (Below w.heap.size w w1) := trans2 ((Below.refl _ _).alloc (Nat.le_refl _) _) hb
  clear hb HL
  have hn : (decide (0 ≤ v) && decide (v ≤ 2147483647)) = true := by simp only [Bool.and_eq_true, decide_eq_true_eq]; exact h2
  have HN' : Hid (∀ w', _) := fun w' => isNumber_any v w'
  rw [hn] at HN'
  clear hn
  go_wp2_with fail
  refine Calls.mono (HN'.out _) ?_
  rintro e w2 ⟨rfl, rfl⟩
  obtain ⟨c3, c4⟩ : w2.cell? ⟨b, 387, none⟩ = some (.int .i64 R.hold) ∧ w2.cell? ⟨b, 385, none⟩ = some (.int .i64 R.floor) := ⟨(HX.out _ HB.out).hold, (HX.out _ HB.out).floor⟩
  have HF1 : Hid (∀ n, _) := fun n => HF.out (w2.drewN n) (below_drewN HB.out n)
  clear HX HF HN h2
  subst h3
  rw [show decide (R.l.length = R.room) = true by simpa using h5] at HF1
  clear h5
  go_wp2_with fail
  go_quiet (first
    | (go_at_call 30; (refine (HF1.out _).mono (fun _ _ h => ⟨h.1, (by obtain ⟨k, hk⟩ := h.2; exact ⟨_, by rw [hk, World.drewN_drewN]⟩)⟩))))
  have h7 : ((R.hold : Int) == R.floor) = false := by simp; omega
  rw [h7]
  go_wp2_with fail
  go_ret
  exact ⟨rfl, below_drewN HB.out _⟩
theorem mayFollow_any (b : Nat) (R : RingT) (e : EnT) (x : Value) (w : World) (h : RingAt w b R) : Calls Try.prog 29 #[.pointer (some ⟨b, 0, none⟩), e.val x] w fun e' w' => e' = .returned (.int .i64 (R.may e)) ∧ Below w.heap.size w w' := by
  unfold RingT.may
  by_cases h1 : R.last = 2147483647
  · rw [if_pos (.inl h1)]
    exact mayFollow_a b R e x w h h1
  by_cases h2 : 0 ≤ e.v ∧ e.v ≤ 2147483647
  · rw [if_neg (fun h => h.elim h1 (fun h => h h2))]
    by_cases h3 : e.s = (R.last : Int) + 1
    · rw [if_neg (fun h => h h3)]
      by_cases h4 : e.v < R.top
      · rw [if_pos h4]
        exact mayFollow_d b R e x w h h1 h2 h3 h4
      · rw [if_neg h4]
        by_cases h5 : R.l.length = R.room
        · by_cases h6 : R.hold = R.floor
          · rw [if_pos ⟨h5, h6⟩]
            exact mayFollow_f b R e x w h h1 h2 h3 h4 h5 h6
          · rw [if_neg (fun h => h6 h.2)]
            exact mayFollow_g b R e x w h h1 h2 h3 h4 h5 h6
        · rw [if_neg (fun h => h5 h.1)]
          exact mayFollow_e b R e x w h h1 h2 h3 h4 h5
    · rw [if_pos h3]
      exact mayFollow_c b R e x w h h1 h2 h3
  · rw [if_pos (.inr h2)]
    exact mayFollow_b b R e x w h h1 h2
/-- What a call that may turn the ring leaves. -/
structure RStep (w w' : World) (p : Option Addr) (R : RingT) : Prop where
  rp : RP w' p R
  chg : Chg w w' (fun k => p = some ⟨k, 0, none⟩)
theorem RingAt.ne {w : World} {b k : Nat} {R : RingT} {v : Value} {n : Nat} {xs : List Value} (h : RingAt w b R) (ho : w.ownsRow 0 49 5 v n xs) (hk : v.ownBlock = some k) : k ≠ b := by
  intro e
  subst e
  obtain ⟨cur, hc⟩ := owns_kind ho hk
  obtain ⟨cs, hx, _⟩ := h.box
  rw [hx] at hc
  cases hc
theorem RingAt.setHold {w : World} {b n : Nat} {R : RingT} (h : RingAt w b R) (h1 : R.hold ≤ n) (h2 : n ≤ R.last) : RingAt (w.setCell ⟨b, 387, none⟩ (.int .i64 n)) b { R with hold := n } := by
  obtain ⟨cs, hx, hz⟩ := h.box
  have hc : ∀ o v, o ≠ 387 → w.cell? ⟨b, o, none⟩ = some v → (w.setCell ⟨b, 387, none⟩ (.int .i64 n)).cell? ⟨b, o, none⟩ = some v := fun o v ho hv => by
    rw [cell_set hx (by omega), if_neg (fun e => ho e.symm)]; exact hv
  have hl := h.ok.low
  have h3 := h.ok.fits
  have h4 := h.ok.room
  refine ⟨⟨h.ok.room, h.ok.fits, Nat.le_trans hl h1, h2, h.ok.max, h.ok.small⟩, ⟨_, heap_setCell_same w b 387 cs _ _ hx, by simpa using hz⟩, hc _ _ (by decide) h.room, hc _ _ (by decide) h.floor, hc _ _ (by decide) h.of, ?_, hc _ _ (by decide) h.last, fun k e hk => ?_⟩
  · rw [cell_set hx (by omega), if_pos rfl]
  · obtain ⟨x, ho, hv⟩ := h.ents k e hk
    refine ⟨x, owns_same ho (fun j hj => Below.heap_setCell _ _ _ j (h.ne ho hj)), fun j v hj => hc _ _ ?_ (hv j v hj)⟩
    have hlt : k < R.l.length := (List.getElem?_eq_some_iff.1 hk).1
    have hm : (R.floor + 1 + k) % R.room < R.room := Nat.mod_lt _ (by omega)
    have hj6 : j < 6 := (List.getElem?_eq_some_iff.1 hj).1
    show (R.floor + 1 + k) % R.room * 6 + j ≠ 387
    omega
set_option maxHeartbeats 1600000 in
theorem hold_any (p : Option Addr) (R : RingT) (n : Int) (w : World) (h : RP w p R) : Calls Try.prog 19 #[.pointer p, .int .i64 n] w fun e w' => e = .returned (.int .i64 (R.free n)) ∧ RStep w w' p (if R.free n = 0 then { R with hold := n.toNat } else R) := by
  have HC : Hid (R.free n = 0 → R.hold ≤ n.toNat ∧ n.toNat ≤ R.last ∧ (n.toNat : Int) = n ∧ (R = zeroR → n.toNat = 0)) := by
    intro hc
    unfold RingT.free at hc
    split at hc
    · cases hc
    · split at hc
      · cases hc
      · refine ⟨by omega, by omega, by omega, ?_⟩
        rintro rfl
        have : (zeroR.last : Int) = 0 := rfl
        omega
  obtain ⟨R', hR'⟩ : ∃ R', (if R.free n = 0 then { R with hold := n.toNat } else R) = R' := ⟨_, rfl⟩
  rw [hR']
  have HR' : Hid ((if R.free n = 0 then { R with hold := n.toNat } else R) = R') := hR'
  clear hR'
  have HO : Hid _ := orZero_any p R w h
  obtain ⟨c, hc⟩ : ∃ c, R.free n = c := ⟨_, rfl⟩
  rw [hc] at HC HR' ⊢
  clear h
  go_enter Try.func19, Try.ntmps19
  go_wp2_with fail
  refine Calls.mono HO.out ?_
  rintro e w1 ⟨b, rfl, hr, hb, hp⟩
  have hi := isFree_any b R n w1 hr
  rw [hc] at hi
  have HI : Hid _ := hi
  have c0 := hr.hold
  have f0 := hr.free
  have HR : Hid (RingAt w1 b R) := hr
  have HB : Hid (Below w.heap.size w w1) := hb
  have HP : Hid ((p = some ⟨b, 0, none⟩ ∧ w1 = w) ∨ (p = none ∧ R = zeroR ∧ w.heap.size ≤ b)) := hp
  clear hr hb hp hi hc
  go_wp2_with fail
  refine Calls.mono HI.out ?_
  rintro e w2 ⟨rfl, rfl⟩
  by_cases h0 : c = 0
  · subst h0
    go_wp2_with fail
    go_ret
    refine ⟨rfl, ?_⟩
    have hr' := HR'.out
    simp only [↓reduceIte] at hr'
    subst hr'
    obtain ⟨k1, k2, k3, k4⟩ := HC.out trivial
    have hs := HR.out.setHold k1 k2
    rw [k3] at hs
    rcases HP.out with ⟨rfl, rfl⟩ | ⟨rfl, rfl, hlt⟩
    · exact ⟨.inr ⟨b, rfl, hs⟩, (Chg.set _ _ _).mono (fun k _ e => by rw [e])⟩
    · refine ⟨.inl ⟨rfl, ?_⟩, Chg.of_below (HB.out.setCell hlt _) _⟩
      rw [k4 rfl]
      rfl
  · go_wp2_with fail
    go_ret
    refine ⟨rfl, ?_⟩
    have hr' := HR'.out
    rw [if_neg h0] at hr'
    subst hr'
    rcases HP.out with ⟨rfl, rfl⟩ | ⟨rfl, rfl, hlt⟩
    · exact ⟨.inr ⟨b, rfl, HR.out⟩, Chg.refl _ _⟩
    · exact ⟨.inl ⟨rfl, rfl⟩, Chg.of_below HB.out _⟩
end Go.Proofs.Ytnmengoefpdaiaa
