/-
  shot: play.
-/
import Derived.Test.YtaieijbdknfcjaaGreatDoorGPlayH
namespace Go.Proofs.YtaieijbdknfcjaaGreatDoor
open Go.RowKit Classical
set_option linter.unusedVariables false
set_option linter.unusedSimpArgs false
set_option maxHeartbeats 6400000 in
set_option maxRecDepth 100000 in
theorem play_made (W w : World) (bs : Nat) (st : Int) (p : ByteArray) (k : Int) (a : Option Addr) (n cap : Nat) (l : List SeenT) (ck : Int) (cp cd : ByteArray) (cv : Int) (hG : Ground W) (hI : InvF l) (h : PAt W w bs st p k a n cap l) (h1 : covers 3 pRoot 1 cp = true) (h2 : covers k p 1 cp = true) (h3 : hasP l cp = false) (h4 : mkB p l ⟨1, cp, cd, cv⟩ = true) :
    Calls Tryz.prog 21 #[.pointer (some ⟨bs, 0, none⟩), .agg (chA ⟨1, cp, cd, cv⟩)] w fun e w' => PlayEnd W bs st p k l ⟨1, cp, cd, cv⟩ e w' := by
  have HS : Hid (stepF k p l ⟨1, cp, cd, cv⟩ = some (insP l (seeB k ⟨1, cp, cd, cv⟩))) := by show _ = _; simp [stepF, h1, h2, h3, h4]
  have HG : Hid (Ground W) := hG
  have HI : Hid (InvF l) := hI
  have H0 : Hid (PC W (w.alloc (.cells (chA ⟨1, cp, cd, cv⟩) 39)) bs w.heap.size st p k a n cap l ⟨1, cp, cd, cv⟩) := ⟨h.below ((Below.refl _ _).alloc (Nat.le_refl _) _), heap_alloc_new _ _⟩
  have hn : n ≤ 64 := by rw [← h.len]; exact hI.len
  have HV1 : Hid (∀ w', Ground w' → Calls Tryz.prog 31 #[.int .i64 3, .string ⟨#[47]⟩, .int .i64 1, .string cp] w' fun e w'' => e = .returned (.bool true) ∧ Below w'.heap.size w' w'') := fun w' hg => by have := covers_any 3 1 pRoot cp w' hg; rw [h1] at this; exact this
  have HV2 : Hid (∀ w', Ground w' → Calls Tryz.prog 31 #[.int .i64 k, .string p, .int .i64 1, .string cp] w' fun e w'' => e = .returned (.bool true) ∧ Below w'.heap.size w' w'') := fun w' hg => by have := covers_any k 1 p cp w' hg; rw [h2] at this; exact this
  have HF : Hid (∀ w', Ss w' a l → Calls Tryz.prog 32 #[.slice a n cap, .string cp] w' fun e w'' => e = .returned (.tuple #[.int .i64 ((pos l cp : Nat) : Int), .bool false]) ∧ Below w'.heap.size w' w'') := fun w' hs => by
    have hz := isP_size' (cov_isP h2).1
    have := find_any a cap l cp w' hs (by have := hI.len; omega) (fun s hs => by have := isP_size' (hI.isp s hs); unfold maxLen; omega) (by unfold maxLen; omega) hI.asc
    rw [h.len, h3] at this
    refine this.mono ?_
    rintro e w'' ⟨i, rfl, hi, g1, g2, hb⟩
    rw [pos_eq cp l i (by rw [h.len]; exact hi) g1 g2]
    exact ⟨rfl, hb⟩
  obtain ⟨i, hpi⟩ : ∃ i, pos l cp = i := ⟨_, rfl⟩
  have HPI : Hid (pos l cp = i) := hpi
  rw [hpi] at HF
  have hin : i ≤ n := by rw [← hpi, ← h.len]; exact pos_le l cp
  have HMK : Hid (∀ w', PC W w' bs w.heap.size st p k a n cap l ⟨1, cp, cd, cv⟩ → Calls Tryz.prog 33 #[.pointer (some ⟨bs, 0, none⟩), .agg (chA ⟨1, cp, cd, cv⟩)] w' fun e w'' => e = .returned (.bool true) ∧ Below w'.heap.size w' w'') := fun w' hp => by
    have := mayMake_any bs st p k a n cap l ⟨1, cp, cd, cv⟩ w' (hG.below hp.pat.low) hp.pat.box hp.pat.ss h.len (by omega) (fun s hs => by have := isP_size' (hI.isp s hs); unfold maxLen; omega) hI.asc
    rw [h4] at this
    exact this
  have HEI : Hid (∀ args w, (callFunc 34 args).run Tryz.prog w = .ok (.enter 34 args) w) := enters_of Tryz.func34 (by kernel_rfl) rfl
  have HES : Hid (∀ args w, (callFunc 35 args).run Tryz.prog w = .ok (.enter 35 args) w) := enters_of Tryz.func35 (by kernel_rfl) rfl
  have HSB : Hid (∀ w', Calls Tryz.prog 35 #[.int .i64 k, .agg (chA ⟨1, cp, cd, cv⟩)] w' fun e w'' => e = .returned (.agg (seC (seeB k ⟨1, cp, cd, cv⟩))) ∧ Below w'.heap.size w' w'') := fun w' => seenBy_any k ⟨1, cp, cd, cv⟩ w' (by have := isP_size' (cov_isP h2).1; show cp.size ≤ _; omega) (by show cd.size ≤ _; have := h4; simp only [mkB, fitB, Bool.and_eq_true, decide_eq_true_eq] at this; omega)
  obtain ⟨x, hx⟩ : ∃ x, seeB k ⟨1, cp, cd, cv⟩ = x := ⟨_, rfl⟩
  have HXP : Hid (x.p = cp) := by show _ = _; rw [← hx, seeB_p]
  rw [hx] at HSB HS
  clear hx
  clear hG hI h h1 h2 h3 hpi
  obtain ⟨c0, c1, c2, c3⟩ := cells_4 H0.out.cbx
  go_enter Tryz.func21, Tryz.ntmps21
  go_wp2_with fail
  refine (HV1.out _ (HG.out.below H0.out.pat.low)).mono ?_
  rintro e w1 ⟨rfl, hb1⟩
  have H1 : Hid (PC W w1 bs w.heap.size st p k a n cap l ⟨1, cp, cd, cv⟩) := H0.out.below hb1
  clear hb1 c0 c1 c2 c3
  obtain ⟨c0, c1, c2, c3⟩ := cells_4 H1.out.cbx
  obtain ⟨s0, s1, s2, s3⟩ := cells_4 H1.out.pat.box
  go_wp2_with fail
  go_region_held3 (fun w' => w'.cell? ⟨bs, 1, none⟩ = some (.string p) ∧ w'.cell? ⟨bs, 2, none⟩ = some (.int .i64 k) ∧ w'.cell? ⟨w.heap.size, 0, none⟩ = some (.int .i64 1) ∧ w'.cell? ⟨w.heap.size, 1, none⟩ = some (.string cp)) (first | exact ⟨s1, s2, c0, c1⟩ | go_keep)
    (first
    | (go_at_call 31; refine (HV2.out _ (HG.out.below (below_drew H1.out.pat.low))).mono ?_; rintro e w2 ⟨rfl, hb2⟩
       have H2 : Hid (PC W w2 bs w.heap.size st p k a n cap l ⟨1, cp, cd, cv⟩) := H1.out.belowD hb2
       clear hb2 c0 c1 c2 c3 s0 s1 s2 s3
       obtain ⟨c0, c1, c2, c3⟩ := cells_4 H2.out.cbx
       obtain ⟨s0, s1, s2, s3⟩ := cells_4 H2.out.pat.box)
    | fail)
  go_wp2_with fail
  go_region_held3 (fun w' => w'.cell? ⟨bs, 3, none⟩ = some (.slice a n cap) ∧ w'.cell? ⟨w.heap.size, 1, none⟩ = some (.string cp)) (first | exact ⟨s3, c1⟩ | go_keep)
    (first
    | (go_at_call 32; refine (HF.out _ (H2.out.pat.ss.below (below_drew (Below.refl _ _)))).mono ?_; rintro e w3 ⟨rfl, hb3⟩
       have H3 : Hid (PC W w3 bs w.heap.size st p k a n cap l ⟨1, cp, cd, cv⟩) := H2.out.belowD hb3
       clear hb3 c0 c1 c2 c3 s0 s1 s2 s3
       obtain ⟨c0, c1, c2, c3⟩ := cells_4 H3.out.cbx
       obtain ⟨s0, s1, s2, s3⟩ := cells_4 H3.out.pat.box)
    | fail)
  go_wp2_with fail
  refine (HMK.out _ H3.out).mono ?_
  rintro e w4 ⟨rfl, hb4⟩
  have H4 : Hid (PC W w4 bs w.heap.size st p k a n cap l ⟨1, cp, cd, cv⟩) := H3.out.below hb4
  clear hb4 c0 c1 c2 c3 s0 s1 s2 s3
  obtain ⟨c0, c1, c2, c3⟩ := cells_4 H4.out.cbx
  obtain ⟨s0, s1, s2, s3⟩ := cells_4 H4.out.pat.box
  go_wp2_with fail
  go_region_law
    (first
    | (refine step_call3 (by rfl) 34 _ _ _ _ (by rfl) HEI.out (.slice a n cap) (.int .i64 i) (.slice (some ⟨w5.heap.size, 0, none⟩) 1 1) (by rfl) (by rfl) (by rfl) (insert_n W.heap.size w5.heap.size i n a cap l x (w5.alloc (.cells (seC x) 36)) H5.out.pat.len (World.ownsRow.alloc H5.out.pat.row _) hin (by omega) (heap_alloc_new _ _) (fun e => by have := (H5.out.pat.row.lt _ e).2; omega) (by have := H5.out.pat.low.size; simp; omega)) ?_
       rintro e w6 ⟨a6, cap6, rfl, ho6, hc6⟩
       refine ⟨_, rfl, ?_⟩
       have HO6 : Hid (w6.ownsRow W.heap.size 36 3 (.slice a6 (n + 1) cap6) (n + 1) (seCs (l.take i ++ x :: l.drop i))) := ho6
       have HX6 : Hid (w6.heap[bs]? = some (.cells (shA st p k a n cap) 24 (0, 0))) := (hc6.block bs (lt_of_blk (new_old H5.out.pat.box _)) (H5.out.pat.ne H5.out.pat.box (by decide))).trans (new_old H5.out.pat.box _)
       have HC6 : Hid (w6.heap[w.heap.size]? = some (.cells (chA ⟨1, cp, cd, cv⟩) 39 (0, 0))) := (hc6.block _ (lt_of_blk (new_old H5.out.cbx _)) (H5.out.pat.ne H5.out.cbx (by decide))).trans (new_old H5.out.cbx _)
       have HL6 : Hid (Below W.heap.size W w6) := below_chg (H5.out.pat.low.alloc H5.out.pat.low.size _) hc6 (fun j hj => (H5.out.pat.row.lt j hj).1)
       clear ho6 hc6 c0 c1 c2 c3 s0 s1 s2 s3 sA
       obtain ⟨c0, c1, c2, c3⟩ := cells_4 HC6.out
       obtain ⟨s0, s1, s2, s3⟩ := cells_4 HX6.out
       have f4 := free_4 HX6.out)
    | (refine step_call2 (by rfl) 35 _ _ _ (by rfl) HES.out (.int .i64 k) (.agg (chA ⟨1, cp, cd, cv⟩)) (by rfl) (by rfl) (HSB.out _) ?_
       rintro e w5 ⟨rfl, hb5⟩
       refine ⟨_, rfl, ?_⟩
       have H5 : Hid (PC W w5 bs w.heap.size st p k a n cap l ⟨1, cp, cd, cv⟩) := H4.out.belowD hb5
       clear hb5 c0 c1 c2 c3 s0 s1 s2 s3
       obtain ⟨c0, c1, c2, c3⟩ := cells_4 H5.out.cbx
       obtain ⟨s0, s1, s2, s3⟩ := cells_4 H5.out.pat.box
       have hs5 : bs < w5.heap.size := lt_of_blk H5.out.pat.box
       have sA : ∀ ob o, (w5.alloc ob).cell? ⟨bs, o, none⟩ = w5.cell? ⟨bs, o, none⟩ := (fun ob o => World.cell?_of_block (Below.heap_alloc w5 ob _ hs5)))
    | fail)
  all_goals (
    go_wp2_with fail
    go_ret
    have HE : insP l x = l.take i ++ x :: l.drop i := by unfold insP; rw [HXP.out, HPI.out]
    have HLn : (l.take i ++ x :: l.drop i).length = n + 1 := by have := H5.out.pat.len; simp; omega
    refine .inr ⟨insP l x, HS.out, rfl, a6, cap6, ?_⟩
    rw [HE, HLn]
    exact PAt.put HL6.out H5.out.pat.bsl HX6.out HLn HO6.out)
end Go.Proofs.YtaieijbdknfcjaaGreatDoor
