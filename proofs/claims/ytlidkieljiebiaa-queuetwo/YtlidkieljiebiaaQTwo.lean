/-
  QueueTwo: the walk.
-/
import Derived.Test.YtlidkieljiebiaaQTwoN
namespace Go.Proofs.Ytlidkieljiebiaa
open Go.RowKit
set_option linter.unusedVariables false
set_option linter.unusedSimpArgs false

set_option maxHeartbeats 12800000 in
set_option maxRecDepth 100000 in
theorem QueueTwo_walk (room begin_ other : Int) (v : Value) (l : List StT) (w : World) (h : StepsAt w (fun b => b < w.heap.size) v l) (hsm : ∀ x ∈ l, x.Small ∧ x.Tight) (hl : l.length ≤ maxLen) :
    Calls Try.prog 8 #[.int .i64 room, .int .i64 begin_, .int .i64 other, v] w fun e w' => e = .returned (.bool true) ∧ Below w.heap.size w w' := by
  unfold maxLen at hl
  obtain ⟨a, c, rfl, hc⟩ := RowAt.form h
  by_cases hz : newQ room begin_ = 0 ∧ newQ other begin_ = 0
  case neg => exact QueueTwo_no room begin_ other _ w hz ⟨_, _, _, rfl⟩
  obtain ⟨hz1, hz2⟩ := hz
  obtain ⟨m, hm⟩ : ∃ m, l.length = m := ⟨_, rfl⟩
  rw [hm] at h hl ⊢
  have HM : Hid (l.length = m) := hm
  have HL : Hid (StepsAt w (fun b => b < w.heap.size) (.slice a m c) l) := h
  have HSM : Hid (∀ x ∈ l, x.Small ∧ x.Tight) := hsm
  have HNUM : Hid (∀ x w, _) := fun x w => num_any x w
  have HKN : Hid (∀ w, _) := fun w => known_any w
  clear h hsm hm hc
  have hrb : ∀ room, newQ room begin_ = 0 → 0 ≤ room ∧ 0 ≤ begin_ := fun room hz => by
    unfold newQ at hz
    split at hz
    · cases hz
    · split at hz
      · cases hz
      · omega
  obtain ⟨r1, hr1⟩ := Int.eq_ofNat_of_zero_le (hrb _ hz1).1
  obtain ⟨r2, hr2⟩ := Int.eq_ofNat_of_zero_le (hrb _ hz2).1
  obtain ⟨x, hx⟩ := Int.eq_ofNat_of_zero_le (hrb _ hz1).2
  clear hrb
  subst hr1 hr2 hx
  have HN1 : Hid (∀ w S hS, _) := fun w S hS => new_ok (r1 : Int) (x : Int) w S hS hz1
  have HR1 : Hid (∀ w, _) := fun w => refNew_ok (r1 : Int) (x : Int) w hz1
  have HN2 : Hid (∀ w S hS, _) := fun w S hS => new_ok (r2 : Int) (x : Int) w S hS hz2
  have HR2 : Hid (∀ w, _) := fun w => refNew_ok (r2 : Int) (x : Int) w hz2
  simp only [Int.toNat_natCast] at HN1 HN2
  clear hz1 hz2
  go_enter Try.func8, Try.ntmps8
  go_upto_region 2 with
    (first
    | (go_at_call 26; refine (HR1.out _).mono ?_; rintro e w1 ⟨rfl, hb1⟩
       have HB1 : Hid (Below w.heap.size w w1) := hb1
       clear hb1)
    | fail)
  obtain ⟨b1, hb1⟩ : ∃ b, w1.heap.size = b := ⟨_, rfl⟩
  obtain ⟨w2, hw2⟩ : ∃ w2, w1.alloc (.cells #[.int .i64 r1, .int .i64 x, .slice none 0 0] 67) = w2 := ⟨_, rfl⟩
  rw [hw2, hb1]
  have H2 : Hid (w2.heap[b1]? = some (.cells #[.int .i64 r1, .int .i64 x, .slice none 0 0] 67 (0, 0)) ∧ w2.heap.size = b1 + 1 ∧ Below w.heap.size w w2 ∧ w.heap.size ≤ b1) := by
    show _ ∧ _
    rw [← hw2, ← hb1]
    exact ⟨heap_alloc_new _ _, by simp, trans2 HB1.out ((Below.refl _ _).alloc (Nat.le_refl _) _), HB1.out.size⟩
  clear hw2 hb1
  go_upto_region 3 with
    (first
    | (go_at_call 26; refine (HR2.out _).mono ?_; rintro e w3 ⟨rfl, hb3⟩
       have HB3 : Hid (Below w2.heap.size w2 w3) := hb3
       clear hb3)
    | fail)
  obtain ⟨b2, hb2⟩ : ∃ b, w3.heap.size = b := ⟨_, rfl⟩
  obtain ⟨w4, hw4⟩ : ∃ w4, w3.alloc (.cells #[.int .i64 r2, .int .i64 x, .slice none 0 0] 67) = w4 := ⟨_, rfl⟩
  rw [hw4, hb2]
  have H4 : Hid (w4.heap[b1]? = some (.cells #[.int .i64 r1, .int .i64 x, .slice none 0 0] 67 (0, 0)) ∧ w4.heap[b2]? = some (.cells #[.int .i64 r2, .int .i64 x, .slice none 0 0] 67 (0, 0)) ∧ w4.heap.size = b2 + 1 ∧ Below w.heap.size w w4 ∧ w.heap.size ≤ b1 ∧ b1 < b2) := by
    have hal : Below w3.heap.size w3 w4 := by rw [← hw4]; exact (Below.refl _ _).alloc (Nat.le_refl _) _
    refine ⟨kept_block hal (kept_block HB3.out H2.out.1), ?_, ?_, trans2 (trans2 H2.out.2.2.1 HB3.out) hal, H2.out.2.2.2, ?_⟩
    · rw [← hw4, ← hb2]; exact heap_alloc_new _ _
    · rw [← hw4, ← hb2]; simp
    · have h1 := HB3.out.size; have h2 := H2.out.2.1; omega
  clear hw4 hb2
  go_upto_region 4 with
    (first
    | (go_at_call 9; refine (HN1.out _ (fun _ => False) id).mono ?_; rintro e w5 ⟨rfl, hq5, hb5⟩
       have HQ5 : Hid (QueueAt w5 (fun _ => False) w4.heap.size 0 ⟨r1, 0, x, []⟩) := hq5
       have HB5 : Hid (Below w4.heap.size w4 w5) := hb5
       clear hq5 hb5)
    | fail)
  obtain ⟨B1, hB1⟩ : ∃ B, w4.heap.size = B := ⟨_, rfl⟩
  rw [hB1]
  rw [hB1] at HQ5
  have HB1' : Hid (w4.heap.size = B1) := hB1
  clear hB1
  go_upto_region 5 with
    (first
    | (go_at_call 9; refine (HN2.out _ (fun _ => False) id).mono ?_; rintro e w6 ⟨rfl, hq6, hb6⟩
       have HQ6 : Hid (QueueAt w6 (fun _ => False) w5.heap.size 0 ⟨r2, 0, x, []⟩) := hq6
       have HB6 : Hid (Below w5.heap.size w5 w6) := hb6
       clear hq6 hb6)
    | fail)
  obtain ⟨B2, hB2⟩ : ∃ B, w5.heap.size = B := ⟨_, rfl⟩
  rw [hB2]
  rw [hB2] at HQ6
  have HB2' : Hid (w5.heap.size = B2) := hB2
  clear hB2
  go_upto_region 10 with
    (first
    | (go_at_call 10; refine (HNUM.out _ _).mono ?_; rintro e w9 ⟨rfl, hw9⟩; subst hw9)
    | fail)
  obtain ⟨D, hD⟩ : ∃ D, w9.heap.size = D := ⟨_, rfl⟩
  obtain ⟨w8, hw8⟩ : ∃ w8, w9.alloc (.cells #[.slice none 0 0, .slice none 0 0, .slice none 0 0, .slice none 0 0] 72) = w8 := ⟨_, rfl⟩
  rw [hw8, hD]
  have HI4 : Hid (DuI w w8 b1 b2 B1 B2 D r1 r2 x x (fun j => D < j) (fun j => D < j) (.slice none 0 0) (.slice none 0 0) (.slice none 0 0) (.slice none 0 0) (.slice none 0 0) (.slice none 0 0) [] [] 0 0 [] []) := by
    have hal : Below w9.heap.size w9 w8 := by rw [← hw8]; exact (Below.refl _ _).alloc (Nat.le_refl _) _
    have h59 : Below w4.heap.size w4 w9 := trans2 HB5.out HB6.out
    have h1 := HQ5.out.lt
    have h2 := HQ6.out.lt
    have h3 := HB1'.out
    have h4 := HB2'.out
    have h5 := H4.out
    refine DuI.start ((HQ5.out.below HB6.out).below hal) (HQ6.out.below hal) (by rw [← hw8, ← hD]; exact heap_alloc_new _ _) (kept_block hal (kept_block h59 h5.1)) (kept_block hal (kept_block h59 h5.2.1)) ⟨h5.2.2.2.2.1, h5.2.2.2.2.2, by omega, by omega, by omega, by rw [← hw8, ← hD]; simp⟩ (trans2 (trans2 h5.2.2.2.1 h59) hal)
  clear hw8 hD
  go_wp2_with fail
  go_loopw [18] (fun i wr => ∃ (q last1 last2 f1 f2 : Nat) (S1 S2 : Nat → Prop) (v1 v2 tv pv sv nv : Value) (L M : List Value) (l1 l2 : List ItT), i = .int .i64 q ∧ q ≤ m ∧ Hid (DuI w wr b1 b2 B1 B2 D r1 r2 last1 last2 S1 S2 v1 v2 tv pv sv nv L M f1 f2 l1 l2)) (fun i _ => m - (intOf i).toNat)
  case atStart => exact ⟨0, x, x, 0, 0, _, _, _, _, _, _, _, _, [], [], [], [], rfl, Nat.zero_le _, HI4⟩
  case round =>
    obtain ⟨q, last1, last2, f1, f2, S1, S2, v1, v2, tv, pv, sv, nv, L, M, l1, l2, rfl, hq, HI⟩ := hrel
    clear HI4 HQ5 HQ6 HB5 HB6 HB3 HB1 H2 H4 HN1 HN2 HR1 HR2
    obtain ⟨va1, vc1, hv1, _⟩ := RowAt.form HI.out.s1.ref
    obtain ⟨va2, vc2, hv2, _⟩ := RowAt.form HI.out.s2.ref
    have hv1 : v1 = .slice va1 l1.length vc1 := hv1
    have hv2 : v2 = .slice va2 l2.length vc2 := hv2
    subst hv1 hv2
    obtain ⟨n1, hn1⟩ : ∃ z, l1.length = z := ⟨_, rfl⟩
    obtain ⟨n2, hn2⟩ : ∃ z, l2.length = z := ⟨_, rfl⟩
    rw [hn1, hn2] at HI
    have HNN : Hid (l1.length = n1 ∧ l2.length = n2) := ⟨hn1, hn2⟩
    clear hn1 hn2
    by_cases hlt : q < m ∧ q < 150
    · obtain ⟨hlt, h150⟩ := hlt
      have hqi : (q : Int) < (m : Int) := by omega
      have h150' : (q : Int) < 150 := by omega
      obtain ⟨y, hy⟩ : ∃ y, l[q]? = some y := ⟨l[q]'(by rw [HM.out]; exact hlt), List.getElem?_eq_getElem _⟩
      obtain ⟨sb, so, rfl, hPb, hsb, u1, u2, e1⟩ := RowAt.get (StepsAt.keep HL.out (Kp.of_below HI.out.below _)) hy
      obtain ⟨x0, x1, x2, x3, x4, xc, xp⟩ := e1
      have hsy := HSM.out y (List.mem_of_getElem? hy)
      have HXC : Hid (TgsAt wr (fun j => j < w.heap.size) u1 y.cs ∧ PasAt wr (fun j => j < w.heap.size) u2 y.ps) := ⟨xc, xp⟩
      have HSY : Hid (y.Small ∧ y.Tight) := hsy
      have HPB : Hid (sb < w.heap.size ∧ sb < wr.heap.size) := ⟨hPb, hsb⟩
      have HEP : Hid (∀ args w, (callFunc 25 args).run Try.prog w = .ok (.enter 25 args) w) := enters_of Try.func25 (by kernel_rfl) rfl
      clear hy xc xp hsy hPb hsb
      obtain ⟨kd, on, st, cs, ps⟩ := y
      dsimp only at x0 x1 x2 x3 x4 HXC
      by_cases hon : on = 0
      · subst hon
        have HJ : Hid (DuI w wr b1 b2 B1 B2 D r1 r2 last1 last2 S1 S2 (.slice va1 n1 vc1) (.slice va2 n2 vc2) tv pv sv nv L M f1 f2 l1 l2) := HI
        have HPL : Hid (∀ (w' : World) (S0 : Nat → Prop), Below wr.heap.size wr w' → Sit w' S0 B1 D ⟨r1, f1, last1, l1⟩ (.slice va1 n1 vc1) tv pv sv nv L M → Calls Try.prog 25 #[.pointer (some ⟨B1, 0, none⟩), rqV r1 last1 (.slice va1 n1 vc1), .agg #[.int .i64 kd, .int .i64 0, .int .i64 st, u1, u2], .pointer (some ⟨D, 0, none⟩)] w' fun e w'' => ∃ last' l', PlE w' S0 B1 D (DeskK D tv pv sv nv L M) r1 last' l' e w'') := fun w' S0 hb' hs' => plays_any B1 D ⟨r1, f1, last1, l1⟩ ⟨kd, 0, st, cs, ps⟩ _ tv pv sv nv L M u1 u2 w' S0 (fun j => j < w.heap.size) hs' (TgsAt.keep HXC.out.1 (Kp.of_below hb' _)) (PasAt.keep HXC.out.2 (Kp.of_below hb' _)) HSY.out.1 HSY.out.2 (fun j hj => ⟨fun hh => by have := HI.out.lowK j hh; omega, by have := HJ.out.low.2.2.1; omega⟩)
        obtain ⟨d0, d1, d2⟩ := cells_3 HJ.out.x1
        clear HI
        go_wp2_with fail
        go_region_law
          (first
          | (refine step_call4 (by rfl) 25 _ _ _ _ _ (by rfl) HEP.out (.pointer (some ⟨B1, 0, none⟩)) (rqV r1 last1 (.slice va1 n1 vc1)) (.agg #[.int .i64 kd, .int .i64 0, .int .i64 st, u1, u2]) (.pointer (some ⟨D, 0, none⟩)) (by rfl) (by rfl) (by rfl) (by rfl) (HPL.out _ S1 (below_drew (Below.refl _ _)) (HJ.out.s1.below (below_drew (Below.refl _ _)))) ?_
             rintro e w4 ⟨last', l', S', f', v', tv', pv', sv', nv', L', M', rfl, hs4, hS4, hc4, hk4⟩
             refine ⟨_, rfl, ?_⟩
             obtain ⟨a4, c4, hv4, _⟩ := RowAt.form hs4.ref
             have hv4 : v' = .slice a4 l'.length c4 := hv4
             subst hv4
             obtain ⟨n4, hn4⟩ : ∃ z, l'.length = z := ⟨_, rfl⟩
             rw [hn4] at hs4 ⊢
             have HS4 : Hid _ := hs4
             have HSS : Hid _ := hS4
             have HC4 : Hid _ := hc4
             have HK4 : Hid _ := hk4
             have hx4 : w4.heap[b1]? = _ := (hc4.block b1 (lt_of_blk HJ.out.x1) (fun e => e.elim HJ.out.n1.2.2.1 HJ.out.n1.2.2.2.2)).trans HJ.out.x1
             obtain ⟨p0, p1, p2⟩ := cells_3 hx4
             have fp := free_of hx4
             clear hs4 hS4 hc4 hk4 hn4 hx4)
          | fail)
        all_goals (
          have HE : Hid (DuI w (put_3 w4 b1 (.int .i64 r1) (.int .i64 last') (.slice a4 n4 c4)) b1 b2 B1 B2 D r1 r2 last' last2 S' (fun j => S2 j ∧ ¬ DeskK D tv' pv' sv' nv' L' M' j) (.slice a4 n4 c4) (.slice va2 n2 vc2) tv' pv' sv' nv' L' M' f' f2 l' l2) := HJ.out.step HS4.out HSS.out (chg_undrew HC4.out) HK4.out
          clear d0 d1 d2 x0 x1 x2 x3 x4 p0 p1 p2 fp
          go_wp2_with fail
          go_roundw
          case rel => exact ⟨q + 1, last', last2, f', f2, S', _, _, _, tv', pv', sv', nv', L', M', l', l2, by go_num, by omega, HE⟩
          case measure => simp [intOf]; omega)
      · have hon1 : (on == 0) = false := by simpa using hon
        clear hon
        have HJ : Hid (DuI w wr b2 b1 B2 B1 D r2 r1 last2 last1 S2 S1 (.slice va2 n2 vc2) (.slice va1 n1 vc1) tv pv sv nv L M f2 f1 l2 l1) := HI.out.swap
        have HPL : Hid (∀ (w' : World) (S0 : Nat → Prop), Below wr.heap.size wr w' → Sit w' S0 B2 D ⟨r2, f2, last2, l2⟩ (.slice va2 n2 vc2) tv pv sv nv L M → Calls Try.prog 25 #[.pointer (some ⟨B2, 0, none⟩), rqV r2 last2 (.slice va2 n2 vc2), .agg #[.int .i64 kd, .int .i64 on, .int .i64 st, u1, u2], .pointer (some ⟨D, 0, none⟩)] w' fun e w'' => ∃ last' l', PlE w' S0 B2 D (DeskK D tv pv sv nv L M) r2 last' l' e w'') := fun w' S0 hb' hs' => plays_any B2 D ⟨r2, f2, last2, l2⟩ ⟨kd, on, st, cs, ps⟩ _ tv pv sv nv L M u1 u2 w' S0 (fun j => j < w.heap.size) hs' (TgsAt.keep HXC.out.1 (Kp.of_below hb' _)) (PasAt.keep HXC.out.2 (Kp.of_below hb' _)) HSY.out.1 HSY.out.2 (fun j hj => ⟨fun hh => by have := HI.out.lowK j hh; omega, by have := HJ.out.low.2.2.1; omega⟩)
        obtain ⟨d0, d1, d2⟩ := cells_3 HJ.out.x1
        clear HI
        go_wp2_with fail
        go_region_law
          (first
          | (refine step_call4 (by rfl) 25 _ _ _ _ _ (by rfl) HEP.out (.pointer (some ⟨B2, 0, none⟩)) (rqV r2 last2 (.slice va2 n2 vc2)) (.agg #[.int .i64 kd, .int .i64 on, .int .i64 st, u1, u2]) (.pointer (some ⟨D, 0, none⟩)) (by rfl) (by rfl) (by rfl) (by rfl) (HPL.out _ S2 (below_drew (Below.refl _ _)) (HJ.out.s1.below (below_drew (Below.refl _ _)))) ?_
             rintro e w4 ⟨last', l', S', f', v', tv', pv', sv', nv', L', M', rfl, hs4, hS4, hc4, hk4⟩
             refine ⟨_, rfl, ?_⟩
             obtain ⟨a4, c4, hv4, _⟩ := RowAt.form hs4.ref
             have hv4 : v' = .slice a4 l'.length c4 := hv4
             subst hv4
             obtain ⟨n4, hn4⟩ : ∃ z, l'.length = z := ⟨_, rfl⟩
             rw [hn4] at hs4 ⊢
             have HS4 : Hid _ := hs4
             have HSS : Hid _ := hS4
             have HC4 : Hid _ := hc4
             have HK4 : Hid _ := hk4
             have hx4 : w4.heap[b2]? = _ := (hc4.block b2 (lt_of_blk HJ.out.x1) (fun e => e.elim HJ.out.n1.2.2.1 HJ.out.n1.2.2.2.2)).trans HJ.out.x1
             obtain ⟨p0, p1, p2⟩ := cells_3 hx4
             have fp := free_of hx4
             clear hs4 hS4 hc4 hk4 hn4 hx4)
          | fail)
        all_goals (
          have HE : Hid (DuI w (put_3 w4 b2 (.int .i64 r2) (.int .i64 last') (.slice a4 n4 c4)) b2 b1 B2 B1 D r2 r1 last' last1 S' (fun j => S1 j ∧ ¬ DeskK D tv' pv' sv' nv' L' M' j) (.slice a4 n4 c4) (.slice va1 n1 vc1) tv' pv' sv' nv' L' M' f' f1 l' l1) := HJ.out.step HS4.out HSS.out (chg_undrew HC4.out) HK4.out
          clear d0 d1 d2 x0 x1 x2 x3 x4 p0 p1 p2 fp
          go_wp2_with fail
          go_roundw
          case rel => exact ⟨q + 1, last1, last', f1, f', _, S', _, _, tv', pv', sv', nv', L', M', l1, l', by go_num, by omega, HE.out.swap⟩
          case measure => simp [intOf]; omega)
    ·
      have hq1 := HI.out.s1.q.ok
      have hq2 := HI.out.s2.q.ok
      have HK1 : Hid (l1.length ≤ 32 ∧ ∀ t ∈ l1, t.Small) := ⟨Nat.le_trans hq1.fits hq1.room, hq1.small⟩
      have HK2 : Hid (l2.length ≤ 32 ∧ ∀ t ∈ l2, t.Small) := ⟨Nat.le_trans hq2.fits hq2.room, hq2.small⟩
      clear hq1 hq2
      have HX1 : Hid (∀ w', QueueAt w' S1 B1 0 ⟨r1, f1, last1, l1⟩ → Calls Try.prog 17 #[.pointer (some ⟨B1, 0, none⟩), .int .i64 99] w' fun e w'' => ∃ v, e = .returned v ∧ ItsAt w'' (NewIn w') v (l1.take (nextN l1 99)) ∧ Chg w' w'' (fun j => j = B1)) := fun w' h => (next_some B1 ⟨r1, f1, last1, l1⟩ 99 w' S1 h).mono fun e w'' ⟨v, h1, h2, h3, h4⟩ => ⟨v, h1, h2, h4⟩
      have HX2 : Hid (∀ w', QueueAt w' S2 B2 0 ⟨r2, f2, last2, l2⟩ → Calls Try.prog 17 #[.pointer (some ⟨B2, 0, none⟩), .int .i64 99] w' fun e w'' => ∃ v, e = .returned v ∧ ItsAt w'' (NewIn w') v (l2.take (nextN l2 99)) ∧ Chg w' w'' (fun j => j = B2)) := fun w' h => (next_some B2 ⟨r2, f2, last2, l2⟩ 99 w' S2 h).mono fun e w'' ⟨v, h1, h2, h3, h4⟩ => ⟨v, h1, h2, h4⟩
      have HY1 : Hid (∀ w', ItsAt w' S1 (.slice va1 n1 vc1) l1 → Calls Try.prog 27 #[rqV r1 last1 (.slice va1 n1 vc1), .int .i64 99] w' fun e w'' => ∃ v', e = .returned v' ∧ ItsAt w'' (NewIn w') v' (l1.take (nextN l1 99)) ∧ Below w'.heap.size w' w'') := fun w' h => refNext_any ⟨r1, f1, last1, l1⟩ 99 _ w' S1 h HK1.out.1 HK1.out.2
      have HY2 : Hid (∀ w', ItsAt w' S2 (.slice va2 n2 vc2) l2 → Calls Try.prog 27 #[rqV r2 last2 (.slice va2 n2 vc2), .int .i64 99] w' fun e w'' => ∃ v', e = .returned v' ∧ ItsAt w'' (NewIn w') v' (l2.take (nextN l2 99)) ∧ Below w'.heap.size w' w'') := fun w' h => refNext_any ⟨r2, f2, last2, l2⟩ 99 _ w' S2 h HK2.out.1 HK2.out.2
      have HSA : Hid (∀ (l : List ItT) (k : Nat) v1 v2 w' T1 T2, (l.length ≤ 32 ∧ ∀ t ∈ l, t.Small) → ItsAt w' T1 v1 (l.take k) → ItsAt w' T2 v2 (l.take k) → Calls Try.prog 22 #[v1, v2] w' fun e w'' => e = .returned (.bool true) ∧ Below w'.heap.size w' w'') := fun l k v1 v2 w' T1 T2 hl h1 h2 => items_same v1 v2 _ w' T1 T2 h1 h2 (by rw [List.length_take]; have := hl.1; omega) (fun t ht => hl.2 t (List.mem_of_mem_take ht))
      have hexit : ((q : Int) < (m : Int) ∧ ¬ (q : Int) < 150) ∨ ¬ (q : Int) < (m : Int) := by omega
      clear hq hlt
      rcases hexit with ⟨h1', h2'⟩ | h1'
      all_goals (
        go_upto_region 20 with
          (first
          | (go_at_call 17; refine (HX1.out _ HI.out.s1.q).mono ?_; rintro e w2 ⟨y1, rfl, ht2, hc2⟩
             have HT2 : Hid (ItsAt w2 (NewIn wr) y1 (l1.take (nextN l1 99))) := ht2
             have HC2 : Hid (Chg wr w2 (fun j => j = B1)) := hc2
             clear ht2 hc2)
          | fail)
        go_upto_region 21 with
          (first
          | (go_at_call 17; refine (HX2.out _ (HI.out.second HC2.out)).mono ?_; rintro e w3 ⟨y2, rfl, ht3, hc3⟩
             have HD3 : Hid (DuE w w3 b1 b2 r1 r2 last1 last2 S1 S2 (fun j => wr.heap.size ≤ j) (.slice va1 n1 vc1) (.slice va2 n2 vc2) y1 y2 l1 l2 (nextN l1 99) (nextN l2 99)) := HI.out.told HC2.out HT2.out hc3 ht3
             clear ht3 hc3)
          | fail)
        obtain ⟨d0, d1, d2⟩ := cells_3 HD3.out.x1
        clear HI HT2 HC2
        go_wp2_with fail
        refine Calls.mono (HY1.out _ HD3.out.i1) ?_
        rintro e w4 ⟨z1, rfl, ht4, hb4⟩
        have HD4 : Hid _ := HD3.out.on hb4
        have HT4 : Hid _ := ht4
        clear ht4 hb4 d0 d1 d2 HD3
        go_wp2_with fail
        refine Calls.mono (HSA.out l1 _ _ _ _ _ _ HK1.out HD4.out.t1 HT4.out) ?_
        rintro e w5 ⟨rfl, hb5⟩
        have HD5 : Hid _ := HD4.out.on hb5
        obtain ⟨d0, d1, d2⟩ := cells_3 HD5.out.x2
        clear hb5 HD4 HT4
        go_wp2_with fail
        refine Calls.mono (HY2.out _ HD5.out.i2) ?_
        rintro e w6 ⟨z2, rfl, ht6, hb6⟩
        have HD6 : Hid _ := HD5.out.on hb6
        have HT6 : Hid _ := ht6
        clear ht6 hb6 d0 d1 d2 HD5
        go_wp2_with fail
        refine Calls.mono (HSA.out l2 _ _ _ _ _ _ HK2.out HD6.out.t2 HT6.out) ?_
        rintro e w7 ⟨rfl, hb7⟩
        have HD7 : Hid _ := HD6.out.on hb7
        clear hb7 HD6 HT6
        go_wp2_with fail
        refine Calls.mono (HKN.out _) ?_
        rintro e w9 ⟨rfl, hb9⟩
        have HB9 : Hid _ := hb9
        clear hb9
        go_wp2_with fail
        go_ret
        exact ⟨rfl, trans2 HD7.out.below HB9.out⟩)
end Go.Proofs.Ytlidkieljiebiaa
