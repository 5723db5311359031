/-
  heraldref10: Collapse.
-/
import Derived.Test.YtlidkieljiebiaaQRefV
namespace Go.Proofs.Ytlidkieljiebiaa
open Go.RowKit
set_option linter.unusedVariables false
set_option linter.unusedSimpArgs false

theorem coll_why {Q : QuT} {st : Int} {l : List PaT} (h : Q.collC st l ≠ 0) (hf : Q.l.length ≤ Q.room) : (folQ Q.last st ≠ 0 ∧ Q.collC st l = folQ Q.last st) ∨ (folQ Q.last st = 0 ∧ l.length = 0 ∧ Q.collC st l = 100) ∨ (folQ Q.last st = 0 ∧ l.length ≠ 0 ∧ Q.room = 0 ∧ Q.collC st l = 46) := by
  unfold QuT.collC at h ⊢
  rw [may_fol] at h ⊢
  by_cases h1 : folQ Q.last st = 0
  · by_cases h2 : l = []
    · exact .inr (.inl ⟨h1, by rw [h2]; rfl, by simp [h1, h2]⟩)
    · have h2' : l.length ≠ 0 := fun e => h2 (List.eq_nil_of_length_eq_zero e)
      by_cases h4 : Q.room = 0
      · exact .inr (.inr ⟨h1, h2', h4, by simp [h1, h2, h4]⟩)
      · simp [h1, h2, h4] at h
  · exact .inl ⟨h1, by simp [h1]⟩
set_option maxHeartbeats 3200000 in
set_option maxRecDepth 100000 in
theorem refColl_no (Q : QuT) (st : Int) (v vl : Value) (l : List PaT) (w : World) (S P : Nat → Prop) (h : ItsAt w S v Q.l) (hl : PasAt w P vl l) (hs : PasSmall l) (hf : Q.l.length ≤ Q.room) (hr : Q.room ≤ 32) (hc : Q.collC st l ≠ 0) :
    Calls Try.prog 52 #[rqV Q.room Q.last v, .int .i64 st, vl] w fun e w' => e = .returned (.tuple #[rqV Q.room Q.last v, .int .i64 (Q.collC st l)]) ∧ Below w.heap.size w w' := by
  obtain ⟨a, c, rfl, _⟩ := RowAt.form h
  obtain ⟨la, lc, rfl, _⟩ := RowAt.form hl
  obtain ⟨n, hn⟩ : ∃ n, l.length = n := ⟨_, rfl⟩
  obtain ⟨qn, hqn⟩ : ∃ n, Q.l.length = n := ⟨_, rfl⟩
  have hcase := coll_why hc hf
  have hn1 : n ≤ 140737488355328 := by have := hs.len; unfold MaxRow at this; omega
  rw [hn] at hl hcase ⊢
  rw [hqn] at hf ⊢
  obtain ⟨hA, hB, hbel⟩ := rq_cells (w := w) (r := Q.room) (x := Q.last) (v := .slice a qn c)
  have HF : Hid (∀ w', _) := fun w' => follows_any Q.room Q.last (.slice a qn c) st w'
  have HN : Hid (l.length = n) := hn
  obtain ⟨W, hW⟩ : ∃ W, ((w.alloc (.cells #[.int .i64 Q.room, .int .i64 Q.last, .slice a qn c] 67)).alloc (.cells #[.int .i64 0, .int .i64 0, .slice none 0 0] 67)) = W := ⟨_, rfl⟩
  rw [hW] at hA hB hbel
  have HTW : Hid (PasAt W P (.slice la n lc) l) := PasAt.keep hl (Kp.of_below hbel _)
  have HA : Hid _ := hA
  have HB : Hid _ := hB
  have HBW : Hid (Below w.heap.size w W) := hbel
  have HWW : Hid (_ = W) := hW
  obtain ⟨fo, hfo⟩ : ∃ z, folQ Q.last st = z := ⟨_, rfl⟩
  rw [hfo] at HF hcase
  obtain ⟨pz, hpz⟩ : ∃ z, Q.collC st l = z := ⟨_, rfl⟩
  rw [hpz] at hcase ⊢
  obtain ⟨c0, c1, c2⟩ := cells_3 hA
  clear hn hqn hs hl h hA hB hbel hW hfo hc hpz
  obtain ⟨room, first, last, ql⟩ := Q
  simp only at *
  rcases hcase with ⟨h1, rfl⟩ | ⟨rfl, rfl, rfl⟩ | ⟨rfl, h2, h3, rfl⟩
  · have d1 : (pz == 0) = false := by simpa using h1
    go_enter Try.func52, Try.ntmps52
    go_wp2_with fail
    rw [HWW.out]
    refine Calls.mono (HF.out _) ?_
    rintro e w1 ⟨rfl, hb1⟩
    have HA1 : Hid _ := kept_block hb1 HA.out
    have HB1 : Hid _ := kept_block hb1 HB.out
    have HBW1 : Hid (Below w.heap.size w w1) := trans2 HBW.out hb1
    have HT1 : Hid (PasAt w1 P (.slice la n lc) l) := PasAt.keep HTW.out (Kp.of_below hb1 _)
    obtain ⟨c0, c1, c2⟩ := cells_3 HA1.out
    have f1 := free_of HB1.out
    obtain ⟨r0, r1, r2⟩ := cells_3 HB1.out
    obtain ⟨g, hg⟩ : ∃ g, w.heap.size = g := ⟨_, rfl⟩
    have HG : Hid (w.heap.size = g) := hg
    rw [hg] at c0 c1 c2 f1 r0 r1 r2 HA1 HB1 ⊢
    clear hb1 hg
    go_wp2_with fail
    exact bodyPost_ret (results_cell_tmp rfl _ _ (g + 1) 67 _ (0, 0) _ _ rfl rfl (fill_3 HB1.out) Try.underlying67 rfl (by kernel_rfl)) rfl ⟨rfl, by rw [← HG.out]; exact fillB_3 HBW1.out (by rw [HG.out]; omega)⟩
  · go_enter Try.func52, Try.ntmps52
    go_wp2_with fail
    rw [HWW.out]
    refine Calls.mono (HF.out _) ?_
    rintro e w1 ⟨rfl, hb1⟩
    have HA1 : Hid _ := kept_block hb1 HA.out
    have HB1 : Hid _ := kept_block hb1 HB.out
    have HBW1 : Hid (Below w.heap.size w w1) := trans2 HBW.out hb1
    have HT1 : Hid (PasAt w1 P (.slice la 0 lc) l) := PasAt.keep HTW.out (Kp.of_below hb1 _)
    obtain ⟨c0, c1, c2⟩ := cells_3 HA1.out
    have f1 := free_of HB1.out
    obtain ⟨r0, r1, r2⟩ := cells_3 HB1.out
    obtain ⟨g, hg⟩ : ∃ g, w.heap.size = g := ⟨_, rfl⟩
    have HG : Hid (w.heap.size = g) := hg
    rw [hg] at c0 c1 c2 f1 r0 r1 r2 HA1 HB1 ⊢
    clear hb1 hg
    go_wp2_with fail
    exact bodyPost_ret (results_cell_tmp rfl _ _ (g + 1) 67 _ (0, 0) _ _ rfl rfl (fill_3 HB1.out) Try.underlying67 rfl (by kernel_rfl)) rfl ⟨rfl, by rw [← HG.out]; exact fillB_3 HBW1.out (by rw [HG.out]; omega)⟩
  · have d2 : ((n : Int) == 0) = false := by simp; omega
    have d3 : ((room : Int) == 0) = true := by simp; omega
    have d3n : (room == 0) = true := by simp; omega
    clear h3
    go_enter Try.func52, Try.ntmps52
    go_wp2_with fail
    rw [HWW.out]
    refine Calls.mono (HF.out _) ?_
    rintro e w1 ⟨rfl, hb1⟩
    have HA1 : Hid _ := kept_block hb1 HA.out
    have HB1 : Hid _ := kept_block hb1 HB.out
    have HBW1 : Hid (Below w.heap.size w w1) := trans2 HBW.out hb1
    have HT1 : Hid (PasAt w1 P (.slice la n lc) l) := PasAt.keep HTW.out (Kp.of_below hb1 _)
    obtain ⟨c0, c1, c2⟩ := cells_3 HA1.out
    have f1 := free_of HB1.out
    obtain ⟨r0, r1, r2⟩ := cells_3 HB1.out
    obtain ⟨g, hg⟩ : ∃ g, w.heap.size = g := ⟨_, rfl⟩
    have HG : Hid (w.heap.size = g) := hg
    rw [hg] at c0 c1 c2 f1 r0 r1 r2 HA1 HB1 ⊢
    clear hb1 hg
    go_wp2_with fail
    exact bodyPost_ret (results_cell_tmp rfl _ _ (g + 1) 67 _ (0, 0) _ _ rfl rfl (fill_3 HB1.out) Try.underlying67 rfl (by kernel_rfl)) rfl ⟨rfl, by rw [← HG.out]; exact fillB_3 HBW1.out (by rw [HG.out]; omega)⟩
set_option maxHeartbeats 6400000 in
set_option maxRecDepth 100000 in
theorem refColl_ok (Q : QuT) (st : Int) (v vl : Value) (l : List PaT) (w : World) (S P : Nat → Prop) (h : ItsAt w S v Q.l) (hl : PasAt w P vl l) (hs : PasSmall l) (hf : Q.l.length ≤ Q.room) (hr : Q.room ≤ 32) (hc : Q.collC st l = 0) :
    Calls Try.prog 52 #[rqV Q.room Q.last v, .int .i64 st, vl] w fun e w' => ∃ v', e = .returned (.tuple #[rqV Q.room st v', .int .i64 0]) ∧ ItsAt w' (NewIn w) v' [⟨st, Q.begin, true, [], l⟩] ∧ Below w.heap.size w w' := by
  obtain ⟨a, c, rfl, _⟩ := RowAt.form h
  obtain ⟨la, lc, rfl, _⟩ := RowAt.form hl
  obtain ⟨n, hn⟩ : ∃ n, l.length = n := ⟨_, rfl⟩
  obtain ⟨qn, hqn⟩ : ∃ n, Q.l.length = n := ⟨_, rfl⟩
  obtain ⟨g1, g2, g3, g4⟩ := collC_ok hc
  have hfo0 : folQ Q.last st = 0 := by unfold folQ; rw [if_neg (by omega), if_neg (by omega)]
  have hn1 : n ≤ 140737488355328 := by have := hs.len; unfold MaxRow at this; omega
  rw [hn] at hl ⊢
  rw [hqn] at h hf ⊢
  have hn0 : n ≠ 0 := fun e => g3 (List.eq_nil_of_length_eq_zero (hn.trans e))
  obtain ⟨hA, hB, hbel⟩ := rq_cells (w := w) (r := Q.room) (x := Q.last) (v := .slice a qn c)
  have HF : Hid (∀ w', _) := fun w' => follows_any Q.room Q.last (.slice a qn c) st w'
  have HN : Hid (l.length = n) := hn
  obtain ⟨W, hW⟩ : ∃ W, ((w.alloc (.cells #[.int .i64 Q.room, .int .i64 Q.last, .slice a qn c] 67)).alloc (.cells #[.int .i64 0, .int .i64 0, .slice none 0 0] 67)) = W := ⟨_, rfl⟩
  rw [hW] at hA hB hbel
  have HTW : Hid (PasAt W P (.slice la n lc) l) := PasAt.keep hl (Kp.of_below hbel _)
  have HA : Hid _ := hA
  have HB : Hid _ := hB
  have HBW : Hid (Below w.heap.size w W) := hbel
  have HWW : Hid (_ = W) := hW
  rw [hfo0] at HF
  obtain ⟨c0, c1, c2⟩ := cells_3 hA
  have HQN : Hid (Q.l.length = qn) := hqn
  have HIS : Hid (ItsAt w S (.slice a qn c) Q.l) := h
  have HLS : Hid (PasAt w P (.slice la n lc) l) := hl
  have HSL : Hid (PasSmall l) := hs
  have HBG : Hid (∀ z, Q.begin = z → Q.begin = z) := fun _ h => h
  clear hn hqn hs hl h hA hB hbel hW hfo0 hc g1 g2 g3
  obtain ⟨room, first, last, ql⟩ := Q
  simp only at *
  have d2 : ((n : Int) == 0) = false := by simp; omega
  have d3 : ((room : Int) == 0) = false := by simp; omega
  have d3n : (room == 0) = false := by simp; omega
  clear g4 hn0
  cases ql with
  | nil =>
    have hq0 : qn = 0 := HQN.out.symm
    subst hq0
    go_enter Try.func52, Try.ntmps52
    go_wp2_with fail
    rw [HWW.out]
    refine Calls.mono (HF.out _) ?_
    rintro e w1 ⟨rfl, hb1⟩
    have HA1 : Hid _ := kept_block hb1 HA.out
    have HB1 : Hid _ := kept_block hb1 HB.out
    have HBW1 : Hid (Below w.heap.size w w1) := trans2 HBW.out hb1
    have HT1 : Hid (PasAt w1 P (.slice la n lc) l) := PasAt.keep HTW.out (Kp.of_below hb1 _)
    obtain ⟨c0, c1, c2⟩ := cells_3 HA1.out
    have f1 := free_of HB1.out
    obtain ⟨r0, r1, r2⟩ := cells_3 HB1.out
    obtain ⟨g, hg⟩ : ∃ g, w.heap.size = g := ⟨_, rfl⟩
    have HG : Hid (w.heap.size = g) := hg
    rw [hg] at c0 c1 c2 f1 r0 r1 r2 HA1 HB1 ⊢
    clear hb1 hg
    have HBr : Hid (Below w.heap.size w w1) := HBW1.out
    have HCH : Hid (∀ W', Below w.heap.size w W' → _) := fun W' hb => refParts_any (.slice la n lc) l W' P (PasAt.keep HLS.out (Kp.of_below hb _)) HSL.out
    have HEC : Hid (∀ args w, (callFunc 57 args).run Try.prog w = .ok (.enter 57 args) w) := enters_of Try.func57 (by kernel_rfl) rfl
    go_wp2_with fail
    go_region_law
      (first
      | (refine step_one (by rfl) 57 (.tmp 41) _ (by rfl) HEC.out (.slice la n lc) (by rfl) (HCH.out _ (by first | exact below_drew HBr.out | exact HBr.out)) ?_
         rintro e w6 ⟨u, rfl, hu, hb6⟩
         obtain ⟨ua, uc, rfl, _⟩ := RowAt.form hu
         refine ⟨_, rfl, ?_⟩
         have hb6 : Below w1.heap.size w1 w6 := by first | exact of_drew hb6 | exact hb6
         have HA6 : Hid _ := kept_block hb6 HA1.out
         have HB6 : Hid _ := kept_block hb6 HB1.out
         obtain ⟨k0, k1, k2⟩ := cells_3 HA6.out
         obtain ⟨s0, s1, s2⟩ := cells_3 HB6.out
         have fs6 := free_of HB6.out
         have hold : ∀ ob o, (w6.alloc ob).cell? ⟨g, o, none⟩ = w6.cell? ⟨g, o, none⟩ := fun ob o => ((Below.refl w6.heap.size w6).alloc (Nat.le_refl _) ob).cell (p := ⟨g, o, none⟩) (lt_of_blk HA6.out)
         have hold1 : ∀ ob o, (w6.alloc ob).cell? ⟨g + 1, o, none⟩ = w6.cell? ⟨g + 1, o, none⟩ := fun ob o => ((Below.refl w6.heap.size w6).alloc (Nat.le_refl _) ob).cell (p := ⟨g + 1, o, none⟩) (lt_of_blk HB6.out)
         have holdf : ∀ ob o, (w6.alloc ob).frozen? ⟨g + 1, o, none⟩ = false := fun ob o => free_of (kept_block ((Below.refl w6.heap.size w6).alloc (Nat.le_refl _) ob) HB6.out) o
         have HEND : Hid ((w6.alloc (.cells #[.int .i64 st, .int .i64 (last : Int), .bool true, .slice none 0 0, .slice ua l.length uc] 42)).heap[g + 1]? = some (.cells #[.int .i64 0, .int .i64 0, .slice none 0 0] 67 (0, 0)) ∧ ItsAt (w6.alloc (.cells #[.int .i64 st, .int .i64 (last : Int), .bool true, .slice none 0 0, .slice ua l.length uc] 42)) (fun k => w.heap.size ≤ k ∧ k ≠ g + 1) (.slice (some ⟨w6.heap.size, 0, none⟩) 1 1) [⟨st, (last : Int), true, [], l⟩] ∧ Below w.heap.size w (w6.alloc (.cells #[.int .i64 st, .int .i64 (last : Int), .bool true, .slice none 0 0, .slice ua l.length uc] 42))) := by
           have hbn : Below w6.heap.size w6 (w6.alloc (.cells #[.int .i64 st, .int .i64 (last : Int), .bool true, .slice none 0 0, .slice ua l.length uc] 42)) := (Below.refl _ _).alloc (Nat.le_refl _) _
           have hnew := heap_alloc_new w6 (.cells #[.int .i64 st, .int .i64 (last : Int), .bool true, .slice none 0 0, .slice ua l.length uc] 42)
           obtain ⟨m0, m1, m2, m3, m4⟩ := cells_5 hnew
           have hg1 := lt_of_blk HB1.out
           have hg6 := lt_of_blk HB6.out
           refine ⟨kept_block hbn HB6.out, ⟨_, _, rfl, Nat.le_refl _, (fun h => by cases h), .inr ⟨w6.heap.size, 0, rfl, ⟨Nat.le_trans HBW1.out.size hb6.size, by omega⟩, lt_of_blk hnew, fun i x hi => ?_⟩⟩, trans2 (trans2 HBW1.out hb6) hbn⟩
           obtain ⟨rfl, rfl⟩ : i = 0 ∧ x = ⟨st, (last : Int), true, [], l⟩ := by
             cases i with
             | zero => exact ⟨rfl, by simpa using hi.symm⟩
             | succ i => simp at hi
           exact ⟨_, _, m0, m1, m2, m3, m4, RowAt.nil _ _ _ _, PasAt.mono (PasAt.keep hu (Kp.of_below hbn _)) (fun k _ hk => ⟨Nat.le_trans HBW1.out.size (by first | exact hk | (have h9 : w1.drew.heap.size ≤ k := hk; exact h9)), by have h9 : w1.heap.size ≤ k := hk; omega⟩)⟩
         clear hu hb6)
      | fail)
    all_goals
      go_wp2_with fail
      exact bodyPost_ret (results_cell_tmp rfl _ _ (g + 1) 67 _ (0, 0) _ _ rfl rfl (fill_3 HEND.out.1) Try.underlying67 rfl (by kernel_rfl)) rfl ⟨_, rfl, its_mono (ItsAt.keep HEND.out.2.1 (Kp.of_chg (chg_put3 _ _ _ _ _) (fun k _ hk e => hk.2 e))) (fun k _ hk => hk.1), by first | exact fillB_3 HEND.out.2.2 (by have := HG.out; omega) | (rw [← HG.out]; exact fillB_3 HEND.out.2.2 (by have := HG.out; omega))⟩
  | cons e0 r0 =>
    obtain ⟨b9, o9, rfl, _, hb9, v1, v2, e9⟩ := RowAt.get HIS.out (i := 0) rfl
    have haf := e9.af
    simp only [Nat.zero_mul, Nat.add_zero] at haf
    have hqp : (0 : Int) < (qn : Int) := by have := HQN.out; simp at this; omega
    have hqpn : 0 < qn := by omega
    clear e9
    go_enter Try.func52, Try.ntmps52
    go_wp2_with fail
    rw [HWW.out]
    refine Calls.mono (HF.out _) ?_
    rintro e w1 ⟨rfl, hb1⟩
    have HA1 : Hid _ := kept_block hb1 HA.out
    have HB1 : Hid _ := kept_block hb1 HB.out
    have HBW1 : Hid (Below w.heap.size w w1) := trans2 HBW.out hb1
    have HT1 : Hid (PasAt w1 P (.slice la n lc) l) := PasAt.keep HTW.out (Kp.of_below hb1 _)
    obtain ⟨c0, c1, c2⟩ := cells_3 HA1.out
    have f1 := free_of HB1.out
    obtain ⟨r0, r1, r2⟩ := cells_3 HB1.out
    obtain ⟨g, hg⟩ : ∃ g, w.heap.size = g := ⟨_, rfl⟩
    have HG : Hid (w.heap.size = g) := hg
    rw [hg] at c0 c1 c2 f1 r0 r1 r2 HA1 HB1 ⊢
    have haf1 : w1.cell? ⟨b9, o9 + 1, none⟩ = some (.int .i64 e0.af) := by rw [HBW1.out.cell (p := ⟨b9, o9 + 1, none⟩) hb9]; exact haf
    clear hb1 hg
    have HBr : Hid (Below w.heap.size w w1) := HBW1.out
    have HCH : Hid (∀ W', Below w.heap.size w W' → _) := fun W' hb => refParts_any (.slice la n lc) l W' P (PasAt.keep HLS.out (Kp.of_below hb _)) HSL.out
    have HEC : Hid (∀ args w, (callFunc 57 args).run Try.prog w = .ok (.enter 57 args) w) := enters_of Try.func57 (by kernel_rfl) rfl
    go_wp2_with fail
    go_region_law
      (first
      | (refine step_one (by rfl) 57 (.tmp 41) _ (by rfl) HEC.out (.slice la n lc) (by rfl) (HCH.out _ (by first | exact below_drew HBr.out | exact HBr.out)) ?_
         rintro e w6 ⟨u, rfl, hu, hb6⟩
         obtain ⟨ua, uc, rfl, _⟩ := RowAt.form hu
         refine ⟨_, rfl, ?_⟩
         have hb6 : Below w1.heap.size w1 w6 := by first | exact of_drew hb6 | exact hb6
         have HA6 : Hid _ := kept_block hb6 HA1.out
         have HB6 : Hid _ := kept_block hb6 HB1.out
         obtain ⟨k0, k1, k2⟩ := cells_3 HA6.out
         obtain ⟨s0, s1, s2⟩ := cells_3 HB6.out
         have fs6 := free_of HB6.out
         have hold : ∀ ob o, (w6.alloc ob).cell? ⟨g, o, none⟩ = w6.cell? ⟨g, o, none⟩ := fun ob o => ((Below.refl w6.heap.size w6).alloc (Nat.le_refl _) ob).cell (p := ⟨g, o, none⟩) (lt_of_blk HA6.out)
         have hold1 : ∀ ob o, (w6.alloc ob).cell? ⟨g + 1, o, none⟩ = w6.cell? ⟨g + 1, o, none⟩ := fun ob o => ((Below.refl w6.heap.size w6).alloc (Nat.le_refl _) ob).cell (p := ⟨g + 1, o, none⟩) (lt_of_blk HB6.out)
         have holdf : ∀ ob o, (w6.alloc ob).frozen? ⟨g + 1, o, none⟩ = false := fun ob o => free_of (kept_block ((Below.refl w6.heap.size w6).alloc (Nat.le_refl _) ob) HB6.out) o
         have HEND : Hid ((w6.alloc (.cells #[.int .i64 st, .int .i64 e0.af, .bool true, .slice none 0 0, .slice ua l.length uc] 42)).heap[g + 1]? = some (.cells #[.int .i64 0, .int .i64 0, .slice none 0 0] 67 (0, 0)) ∧ ItsAt (w6.alloc (.cells #[.int .i64 st, .int .i64 e0.af, .bool true, .slice none 0 0, .slice ua l.length uc] 42)) (fun k => w.heap.size ≤ k ∧ k ≠ g + 1) (.slice (some ⟨w6.heap.size, 0, none⟩) 1 1) [⟨st, e0.af, true, [], l⟩] ∧ Below w.heap.size w (w6.alloc (.cells #[.int .i64 st, .int .i64 e0.af, .bool true, .slice none 0 0, .slice ua l.length uc] 42))) := by
           have hbn : Below w6.heap.size w6 (w6.alloc (.cells #[.int .i64 st, .int .i64 e0.af, .bool true, .slice none 0 0, .slice ua l.length uc] 42)) := (Below.refl _ _).alloc (Nat.le_refl _) _
           have hnew := heap_alloc_new w6 (.cells #[.int .i64 st, .int .i64 e0.af, .bool true, .slice none 0 0, .slice ua l.length uc] 42)
           obtain ⟨m0, m1, m2, m3, m4⟩ := cells_5 hnew
           have hg1 := lt_of_blk HB1.out
           have hg6 := lt_of_blk HB6.out
           refine ⟨kept_block hbn HB6.out, ⟨_, _, rfl, Nat.le_refl _, (fun h => by cases h), .inr ⟨w6.heap.size, 0, rfl, ⟨Nat.le_trans HBW1.out.size hb6.size, by omega⟩, lt_of_blk hnew, fun i x hi => ?_⟩⟩, trans2 (trans2 HBW1.out hb6) hbn⟩
           obtain ⟨rfl, rfl⟩ : i = 0 ∧ x = ⟨st, e0.af, true, [], l⟩ := by
             cases i with
             | zero => exact ⟨rfl, by simpa using hi.symm⟩
             | succ i => simp at hi
           exact ⟨_, _, m0, m1, m2, m3, m4, RowAt.nil _ _ _ _, PasAt.mono (PasAt.keep hu (Kp.of_below hbn _)) (fun k _ hk => ⟨Nat.le_trans HBW1.out.size (by first | exact hk | (have h9 : w1.drew.heap.size ≤ k := hk; exact h9)), by have h9 : w1.heap.size ≤ k := hk; omega⟩)⟩
         clear hu hb6)
      | fail)
    all_goals
      go_wp2_with fail
      exact bodyPost_ret (results_cell_tmp rfl _ _ (g + 1) 67 _ (0, 0) _ _ rfl rfl (fill_3 HEND.out.1) Try.underlying67 rfl (by kernel_rfl)) rfl ⟨_, rfl, its_mono (ItsAt.keep HEND.out.2.1 (Kp.of_chg (chg_put3 _ _ _ _ _) (fun k _ hk e => hk.2 e))) (fun k _ hk => hk.1), by first | exact fillB_3 HEND.out.2.2 (by have := HG.out; omega) | (rw [← HG.out]; exact fillB_3 HEND.out.2.2 (by have := HG.out; omega))⟩
end Go.Proofs.Ytlidkieljiebiaa
