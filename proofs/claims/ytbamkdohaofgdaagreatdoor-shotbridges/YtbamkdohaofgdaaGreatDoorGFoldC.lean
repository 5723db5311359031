import Derived.Test.YtbamkdohaofgdaaGreatDoorGPlayH
import Derived.Test.YtbamkdohaofgdaaGreatDoorGPlay2
import Derived.Test.YtbamkdohaofgdaaGreatDoorGPlay4
import Derived.Test.YtbamkdohaofgdaaGreatDoorGPlay6
namespace Go.Proofs.YtbamkdohaofgdaaGreatDoor
open Go.RowKit Classical
set_option linter.unusedVariables false
set_option linter.unusedSimpArgs false
set_option maxHeartbeats 6400000 in
set_option maxRecDepth 100000 in
theorem play_made (W w : World) (bs : Nat) (st : Int) (p : ByteArray) (k : Int) (a : Option Addr) (n cap : Nat) (l : List SeenT) (ck : Int) (cp cd : ByteArray) (cv : Int) (hG : Ground W) (hI : InvF l) (h : PAt W w bs st p k a n cap l) (h1 : covers 3 pRoot 1 cp = true) (h2 : covers k p 1 cp = true) (h3 : hasP l cp = false) (h4 : mkB p l ⟨1, cp, cd, cv⟩ = true) :
    Calls Tryz.prog 19 #[.pointer (some ⟨bs, 0, none⟩), .agg (chA ⟨1, cp, cd, cv⟩)] w fun e w' => PlayEnd W bs st p k l ⟨1, cp, cd, cv⟩ e w' := by
  have HS : Hid (stepF k p l ⟨1, cp, cd, cv⟩ = some (insP l (seeB k ⟨1, cp, cd, cv⟩))) := by show _ = _; simp [stepF, h1, h2, h3, h4]
  have HG : Hid (Ground W) := hG
  have HI : Hid (InvF l) := hI
  have H0 : Hid (PC W (w.alloc (.cells (chA ⟨1, cp, cd, cv⟩) 46)) bs w.heap.size st p k a n cap l ⟨1, cp, cd, cv⟩) := ⟨h.below ((Below.refl _ _).alloc (Nat.le_refl _) _), heap_alloc_new _ _⟩
  have hn : n ≤ 64 := by rw [← h.len]; exact hI.len
  have HV1 : Hid (∀ w', Ground w' → Calls Tryz.prog 37 #[.int .i64 3, .string ⟨#[47]⟩, .int .i64 1, .string cp] w' fun e w'' => e = .returned (.bool true) ∧ Below w'.heap.size w' w'') := fun w' hg => by have := covers_any 3 1 pRoot cp w' hg; rw [h1] at this; exact this
  have HV2 : Hid (∀ w', Ground w' → Calls Tryz.prog 37 #[.int .i64 k, .string p, .int .i64 1, .string cp] w' fun e w'' => e = .returned (.bool true) ∧ Below w'.heap.size w' w'') := fun w' hg => by have := covers_any k 1 p cp w' hg; rw [h2] at this; exact this
  have HF : Hid (∀ w', Ss w' a l → Calls Tryz.prog 38 #[.slice a n cap, .string cp] w' fun e w'' => e = .returned (.tuple #[.int .i64 ((pos l cp : Nat) : Int), .bool false]) ∧ Below w'.heap.size w' w'') := fun w' hs => by
    have hz := isP_size' (cov_isP h2).1
    have := find_any a cap l cp w' hs (by have := hI.len; omega) (fun s hs => by have := isP_size' (hI.isp s hs); unfold maxLen; omega) (by unfold maxLen; omega) hI.asc
    rw [h.len, h3] at this
    refine this.mono ?_
    rintro e w'' ⟨i, rfl, hi, g1, g2, hb⟩
    rw [pos_eq cp l i (by rw [h.len]; exact hi) g1 g2]
    exact ⟨rfl, hb⟩
  obtain ⟨i, hpi⟩ : ∃ i, pos l cp = i := ⟨_, rfl⟩
  have HPI : Hid (pos l cp = i) := hpi
  rw [hpi] at HF
  have hin : i ≤ n := by rw [← hpi, ← h.len]; exact pos_le l cp
  have HMK : Hid (∀ w', PC W w' bs w.heap.size st p k a n cap l ⟨1, cp, cd, cv⟩ → Calls Tryz.prog 39 #[.pointer (some ⟨bs, 0, none⟩), .agg (chA ⟨1, cp, cd, cv⟩)] w' fun e w'' => e = .returned (.bool true) ∧ Below w'.heap.size w' w'') := fun w' hp => by
    have := mayMake_any bs st p k a n cap l ⟨1, cp, cd, cv⟩ w' (hG.below hp.pat.low) hp.pat.box hp.pat.ss h.len (by omega) (fun s hs => by have := isP_size' (hI.isp s hs); unfold maxLen; omega) hI.asc
    rw [h4] at this
    exact this
  have HEI : Hid (∀ args w, (callFunc 40 args).run Tryz.prog w = .ok (.enter 40 args) w) := enters_of Tryz.func40 (by kernel_rfl) rfl
  have HES : Hid (∀ args w, (callFunc 41 args).run Tryz.prog w = .ok (.enter 41 args) w) := enters_of Tryz.func41 (by kernel_rfl) rfl
  have HSB : Hid (∀ w', Calls Tryz.prog 41 #[.int .i64 k, .agg (chA ⟨1, cp, cd, cv⟩)] w' fun e w'' => e = .returned (.agg (seC (seeB k ⟨1, cp, cd, cv⟩))) ∧ Below w'.heap.size w' w'') := fun w' => seenBy_any k ⟨1, cp, cd, cv⟩ w' (by have := isP_size' (cov_isP h2).1; show cp.size ≤ _; omega) (by show cd.size ≤ _; have := h4; simp only [mkB, fitB, Bool.and_eq_true, decide_eq_true_eq] at this; omega)
  obtain ⟨x, hx⟩ : ∃ x, seeB k ⟨1, cp, cd, cv⟩ = x := ⟨_, rfl⟩
  have HXP : Hid (x.p = cp) := by show _ = _; rw [← hx, seeB_p]
  rw [hx] at HSB HS
  clear hx
  clear hG hI h h1 h2 h3 hpi
  obtain ⟨c0, c1, c2, c3⟩ := cells_4 H0.out.cbx
  go_enter Tryz.func19, Tryz.ntmps19
  go_wp2_with fail
  refine (HV1.out _ (HG.out.below H0.out.pat.low)).mono ?_
  rintro e w1 ⟨rfl, hb1⟩
  have H1 : Hid (PC W w1 bs w.heap.size st p k a n cap l ⟨1, cp, cd, cv⟩) := H0.out.below hb1
  clear hb1 c0 c1 c2 c3
  obtain ⟨c0, c1, c2, c3⟩ := cells_4 H1.out.cbx
  obtain ⟨s0, s1, s2, s3⟩ := cells_4 H1.out.pat.box
  go_wp2_with fail
  go_region_held3 (fun w' => w'.cell? ⟨bs, 1, none⟩ = some (.string p) ∧ w'.cell? ⟨bs, 2, none⟩ = some (.int .i64 k) ∧ w'.cell? ⟨w.heap.size, 0, none⟩ = some (.int .i64 1) ∧ w'.cell? ⟨w.heap.size, 1, none⟩ = some (.string cp)) (first | exact ⟨s1, s2, c0, c1⟩ | go_keep)
    (first
    | (go_at_call 37; refine (HV2.out _ (HG.out.below (below_drew H1.out.pat.low))).mono ?_; rintro e w2 ⟨rfl, hb2⟩
       have H2 : Hid (PC W w2 bs w.heap.size st p k a n cap l ⟨1, cp, cd, cv⟩) := H1.out.belowD hb2
       clear hb2 c0 c1 c2 c3 s0 s1 s2 s3
       obtain ⟨c0, c1, c2, c3⟩ := cells_4 H2.out.cbx
       obtain ⟨s0, s1, s2, s3⟩ := cells_4 H2.out.pat.box)
    | fail)
  go_wp2_with fail
  go_region_held3 (fun w' => w'.cell? ⟨bs, 3, none⟩ = some (.slice a n cap) ∧ w'.cell? ⟨w.heap.size, 1, none⟩ = some (.string cp)) (first | exact ⟨s3, c1⟩ | go_keep)
    (first
    | (go_at_call 38; refine (HF.out _ (H2.out.pat.ss.below (below_drew (Below.refl _ _)))).mono ?_; rintro e w3 ⟨rfl, hb3⟩
       have H3 : Hid (PC W w3 bs w.heap.size st p k a n cap l ⟨1, cp, cd, cv⟩) := H2.out.belowD hb3
       clear hb3 c0 c1 c2 c3 s0 s1 s2 s3
       obtain ⟨c0, c1, c2, c3⟩ := cells_4 H3.out.cbx
       obtain ⟨s0, s1, s2, s3⟩ := cells_4 H3.out.pat.box)
    | fail)
  go_wp2_with fail
  refine (HMK.out _ H3.out).mono ?_
  rintro e w4 ⟨rfl, hb4⟩
  have H4 : Hid (PC W w4 bs w.heap.size st p k a n cap l ⟨1, cp, cd, cv⟩) := H3.out.below hb4
  clear hb4 c0 c1 c2 c3 s0 s1 s2 s3
  obtain ⟨c0, c1, c2, c3⟩ := cells_4 H4.out.cbx
  obtain ⟨s0, s1, s2, s3⟩ := cells_4 H4.out.pat.box
  go_wp2_with fail
  go_region_law
    (first
    | (refine step_call3 (by rfl) 40 _ _ _ _ (by rfl) HEI.out (.slice a n cap) (.int .i64 i) (.slice (some ⟨w5.heap.size, 0, none⟩) 1 1) (by rfl) (by rfl) (by rfl) (insert_n W.heap.size w5.heap.size i n a cap l x (w5.alloc (.cells (seC x) 52)) H5.out.pat.len (World.ownsRow.alloc H5.out.pat.row _) hin (by omega) (heap_alloc_new _ _) (fun e => by have := (H5.out.pat.row.lt _ e).2; omega) (by have := H5.out.pat.low.size; simp; omega)) ?_
       rintro e w6 ⟨a6, cap6, rfl, ho6, hc6⟩
       refine ⟨_, rfl, ?_⟩
       have HO6 : Hid (w6.ownsRow W.heap.size 52 3 (.slice a6 (n + 1) cap6) (n + 1) (seCs (l.take i ++ x :: l.drop i))) := ho6
       have HX6 : Hid (w6.heap[bs]? = some (.cells (shA st p k a n cap) 24 (0, 0))) := (hc6.block bs (lt_of_blk (new_old H5.out.pat.box _)) (H5.out.pat.ne H5.out.pat.box (by decide))).trans (new_old H5.out.pat.box _)
       have HC6 : Hid (w6.heap[w.heap.size]? = some (.cells (chA ⟨1, cp, cd, cv⟩) 46 (0, 0))) := (hc6.block _ (lt_of_blk (new_old H5.out.cbx _)) (H5.out.pat.ne H5.out.cbx (by decide))).trans (new_old H5.out.cbx _)
       have HL6 : Hid (Below W.heap.size W w6) := below_chg (H5.out.pat.low.alloc H5.out.pat.low.size _) hc6 (fun j hj => (H5.out.pat.row.lt j hj).1)
       clear ho6 hc6 c0 c1 c2 c3 s0 s1 s2 s3 sA
       obtain ⟨c0, c1, c2, c3⟩ := cells_4 HC6.out
       obtain ⟨s0, s1, s2, s3⟩ := cells_4 HX6.out
       have f4 := free_4 HX6.out)
    | (refine step_call2 (by rfl) 41 _ _ _ (by rfl) HES.out (.int .i64 k) (.agg (chA ⟨1, cp, cd, cv⟩)) (by rfl) (by rfl) (HSB.out _) ?_
       rintro e w5 ⟨rfl, hb5⟩
       refine ⟨_, rfl, ?_⟩
       have H5 : Hid (PC W w5 bs w.heap.size st p k a n cap l ⟨1, cp, cd, cv⟩) := H4.out.belowD hb5
       clear hb5 c0 c1 c2 c3 s0 s1 s2 s3
       obtain ⟨c0, c1, c2, c3⟩ := cells_4 H5.out.cbx
       obtain ⟨s0, s1, s2, s3⟩ := cells_4 H5.out.pat.box
       have hs5 : bs < w5.heap.size := lt_of_blk H5.out.pat.box
       have sA : ∀ ob o, (w5.alloc ob).cell? ⟨bs, o, none⟩ = w5.cell? ⟨bs, o, none⟩ := (fun ob o => World.cell?_of_block (Below.heap_alloc w5 ob _ hs5)))
    | fail)
  all_goals (
    go_wp2_with fail
    go_ret
    have HE : insP l x = l.take i ++ x :: l.drop i := by unfold insP; rw [HXP.out, HPI.out]
    have HLn : (l.take i ++ x :: l.drop i).length = n + 1 := by have := H5.out.pat.len; simp; omega
    refine .inr ⟨insP l x, HS.out, rfl, a6, cap6, ?_⟩
    rw [HE, HLn]
    exact PAt.put HL6.out H5.out.pat.bsl HX6.out HLn HO6.out)
end Go.Proofs.YtbamkdohaofgdaaGreatDoor
namespace Go.Proofs.YtbamkdohaofgdaaGreatDoor
open Go.RowKit Classical
set_option linter.unusedVariables false
set_option linter.unusedSimpArgs false
set_option maxHeartbeats 6400000 in
set_option maxRecDepth 100000 in
theorem play_set (W w : World) (bs : Nat) (st : Int) (p : ByteArray) (k : Int) (a : Option Addr) (n cap : Nat) (l : List SeenT) (ck : Int) (cp cd : ByteArray) (cv : Int) (hG : Ground W) (hI : InvF l) (h : PAt W w bs st p k a n cap l) (h1 : covers 3 pRoot 2 cp = true) (h2 : covers k p 2 cp = true) (h3 : hasP l cp = true) (h4 : fitB cd cv = true) :
    Calls Tryz.prog 19 #[.pointer (some ⟨bs, 0, none⟩), .agg (chA ⟨2, cp, cd, cv⟩)] w fun e w' => PlayEnd W bs st p k l ⟨2, cp, cd, cv⟩ e w' := by
  have HS : Hid (stepF k p l ⟨2, cp, cd, cv⟩ = some (setP l (seeB k ⟨2, cp, cd, cv⟩))) := by show _ = _; simp [stepF, h1, h2, h3, h4]
  have HG : Hid (Ground W) := hG
  have HI : Hid (InvF l) := hI
  have H0 : Hid (PC W (w.alloc (.cells (chA ⟨2, cp, cd, cv⟩) 46)) bs w.heap.size st p k a n cap l ⟨2, cp, cd, cv⟩) := ⟨h.below ((Below.refl _ _).alloc (Nat.le_refl _) _), heap_alloc_new _ _⟩
  have hn : n ≤ 64 := by rw [← h.len]; exact hI.len
  have HV1 : Hid (∀ w', Ground w' → Calls Tryz.prog 37 #[.int .i64 3, .string ⟨#[47]⟩, .int .i64 2, .string cp] w' fun e w'' => e = .returned (.bool true) ∧ Below w'.heap.size w' w'') := fun w' hg => by have := covers_any 3 2 pRoot cp w' hg; rw [h1] at this; exact this
  have HV2 : Hid (∀ w', Ground w' → Calls Tryz.prog 37 #[.int .i64 k, .string p, .int .i64 2, .string cp] w' fun e w'' => e = .returned (.bool true) ∧ Below w'.heap.size w' w'') := fun w' hg => by have := covers_any k 2 p cp w' hg; rw [h2] at this; exact this
  have HF : Hid (∀ w', Ss w' a l → Calls Tryz.prog 38 #[.slice a n cap, .string cp] w' fun e w'' => e = .returned (.tuple #[.int .i64 ((pos l cp : Nat) : Int), .bool true]) ∧ Below w'.heap.size w' w'') := fun w' hs => by
    have hz := isP_size' (cov_isP h2).1
    have := find_any a cap l cp w' hs (by have := hI.len; omega) (fun s hs => by have := isP_size' (hI.isp s hs); unfold maxLen; omega) (by unfold maxLen; omega) hI.asc
    rw [h.len, h3] at this
    refine this.mono ?_
    rintro e w'' ⟨i, rfl, hi, g1, g2, hb⟩
    rw [pos_eq cp l i (by rw [h.len]; exact hi) g1 g2]
    exact ⟨rfl, hb⟩
  obtain ⟨i, hpi⟩ : ∃ i, pos l cp = i := ⟨_, rfl⟩
  have HPI : Hid (pos l cp = i) := hpi
  rw [hpi] at HF
  have hin : i ≤ n := by rw [← hpi, ← h.len]; exact pos_le l cp
  have hilt : i < n := by
    obtain ⟨y, hy, _⟩ := has_pos hI.asc h3
    rw [hpi] at hy
    rw [← h.len]; exact (List.getElem?_eq_some_iff.1 hy).1
  have hilt' : (i : Int) < (n : Int) := by omega
  obtain ⟨g, rfl⟩ : ∃ g, a = some ⟨g, 0, none⟩ := by
    rcases h.row.2 with ⟨h0, h1⟩ | ⟨g', cap', cur, hv, _⟩
    · omega
    · cases hv; exact ⟨g', rfl⟩
  have HFI : Hid (∀ w', Calls Tryz.prog 42 #[.string cd, .int .i64 cv] w' fun e w'' => e = .returned (.bool true) ∧ w'' = w') := fun w' => by have := fits_any cd cv w'; rw [h4] at this; exact this
  have HEI : Hid (∀ args w, (callFunc 40 args).run Tryz.prog w = .ok (.enter 40 args) w) := enters_of Tryz.func40 (by kernel_rfl) rfl
  have HES : Hid (∀ args w, (callFunc 41 args).run Tryz.prog w = .ok (.enter 41 args) w) := enters_of Tryz.func41 (by kernel_rfl) rfl
  have HSB : Hid (∀ w', Calls Tryz.prog 41 #[.int .i64 k, .agg (chA ⟨2, cp, cd, cv⟩)] w' fun e w'' => e = .returned (.agg (seC (seeB k ⟨2, cp, cd, cv⟩))) ∧ Below w'.heap.size w' w'') := fun w' => seenBy_any k ⟨2, cp, cd, cv⟩ w' (by have := isP_size' (cov_isP h2).1; show cp.size ≤ _; omega) (by show cd.size ≤ _; have := h4; simp only [fitB, Bool.and_eq_true, decide_eq_true_eq] at this; omega)
  obtain ⟨x, hx⟩ : ∃ x, seeB k ⟨2, cp, cd, cv⟩ = x := ⟨_, rfl⟩
  have HXP : Hid (x.p = cp) := by show _ = _; rw [← hx, seeB_p]
  rw [hx] at HSB HS
  clear hx
  clear hG hI h h1 h2 h3 hpi
  obtain ⟨c0, c1, c2, c3⟩ := cells_4 H0.out.cbx
  go_enter Tryz.func19, Tryz.ntmps19
  go_wp2_with fail
  refine (HV1.out _ (HG.out.below H0.out.pat.low)).mono ?_
  rintro e w1 ⟨rfl, hb1⟩
  have H1 : Hid (PC W w1 bs w.heap.size st p k (some ⟨g, 0, none⟩) n cap l ⟨2, cp, cd, cv⟩) := H0.out.below hb1
  clear hb1 c0 c1 c2 c3
  obtain ⟨c0, c1, c2, c3⟩ := cells_4 H1.out.cbx
  obtain ⟨s0, s1, s2, s3⟩ := cells_4 H1.out.pat.box
  go_wp2_with fail
  go_region_held3 (fun w' => w'.cell? ⟨bs, 1, none⟩ = some (.string p) ∧ w'.cell? ⟨bs, 2, none⟩ = some (.int .i64 k) ∧ w'.cell? ⟨w.heap.size, 0, none⟩ = some (.int .i64 2) ∧ w'.cell? ⟨w.heap.size, 1, none⟩ = some (.string cp)) (first | exact ⟨s1, s2, c0, c1⟩ | go_keep)
    (first
    | (go_at_call 37; refine (HV2.out _ (HG.out.below (below_drew H1.out.pat.low))).mono ?_; rintro e w2 ⟨rfl, hb2⟩
       have H2 : Hid (PC W w2 bs w.heap.size st p k (some ⟨g, 0, none⟩) n cap l ⟨2, cp, cd, cv⟩) := H1.out.belowD hb2
       clear hb2 c0 c1 c2 c3 s0 s1 s2 s3
       obtain ⟨c0, c1, c2, c3⟩ := cells_4 H2.out.cbx
       obtain ⟨s0, s1, s2, s3⟩ := cells_4 H2.out.pat.box)
    | fail)
  go_wp2_with fail
  go_region_held3 (fun w' => w'.cell? ⟨bs, 3, none⟩ = some (.slice (some ⟨g, 0, none⟩) n cap) ∧ w'.cell? ⟨w.heap.size, 1, none⟩ = some (.string cp)) (first | exact ⟨s3, c1⟩ | go_keep)
    (first
    | (go_at_call 38; refine (HF.out _ (H2.out.pat.ss.below (below_drew (Below.refl _ _)))).mono ?_; rintro e w3 ⟨rfl, hb3⟩
       have H3 : Hid (PC W w3 bs w.heap.size st p k (some ⟨g, 0, none⟩) n cap l ⟨2, cp, cd, cv⟩) := H2.out.belowD hb3
       clear hb3 c0 c1 c2 c3 s0 s1 s2 s3
       obtain ⟨c0, c1, c2, c3⟩ := cells_4 H3.out.cbx
       obtain ⟨s0, s1, s2, s3⟩ := cells_4 H3.out.pat.box)
    | fail)
  go_wp2_with fail
  refine (HFI.out _).mono ?_
  rintro e w4 ⟨rfl, rfl⟩
  go_wp2_with fail
  go_region_law
    (first
    | (refine step_call2 (by rfl) 41 _ _ _ (by rfl) HES.out (.int .i64 k) (.agg (chA ⟨2, cp, cd, cv⟩)) (by rfl) (by rfl) (HSB.out _) ?_
       rintro e w5 ⟨rfl, hb5⟩
       refine ⟨_, rfl, ?_⟩
       have H5 : Hid (PC W w5 bs w.heap.size st p k (some ⟨g, 0, none⟩) n cap l ⟨2, cp, cd, cv⟩) := H3.out.belowD hb5
       clear hb5 c0 c1 c2 c3 s0 s1 s2 s3
       obtain ⟨c0, c1, c2, c3⟩ := cells_4 H5.out.cbx
       obtain ⟨s0, s1, s2, s3⟩ := cells_4 H5.out.pat.box
       obtain ⟨z0, hz0⟩ : ∃ z, w5.cell? ⟨g, i * 3, none⟩ = some z := ⟨_, (H5.out.pat.row.cellAt (i * 3) (by omega)).trans (List.getElem?_eq_getElem (by rw [H5.out.pat.row.1]; omega))⟩
       obtain ⟨z1, hz1⟩ : ∃ z, w5.cell? ⟨g, i * 3 + 1, none⟩ = some z := ⟨_, (H5.out.pat.row.cellAt (i * 3 + 1) (by omega)).trans (List.getElem?_eq_getElem (by rw [H5.out.pat.row.1]; omega))⟩
       obtain ⟨z2, hz2⟩ : ∃ z, w5.cell? ⟨g, i * 3 + 2, none⟩ = some z := ⟨_, (H5.out.pat.row.cellAt (i * 3 + 2) (by omega)).trans (List.getElem?_eq_getElem (by rw [H5.out.pat.row.1]; omega))⟩
       have hfz := H5.out.pat.row.frozenAt)
    | fail)
  all_goals (
    go_wp2_with fail
    go_ret
    have HE : setP l x = l.take i ++ x :: l.drop (i + 1) := by unfold setP; rw [HXP.out, HPI.out]
    have HLn : (l.take i ++ x :: l.drop (i + 1)).length = n := by have := H5.out.pat.len; simp; omega
    refine .inr ⟨setP l x, HS.out, rfl, some ⟨g, 0, none⟩, cap, ?_⟩
    rw [HE, HLn]
    have hbg : bs ≠ g := fun e => by
      have := H5.out.pat.ne H5.out.pat.box (by decide)
      rw [e] at this
      exact this rfl
    have hWg := (H5.out.pat.row.lt g rfl).1
    refine ⟨((H5.out.pat.low.setCell hWg _).setCell hWg _).setCell hWg _, H5.out.pat.bsl, other_blk (other_blk (other_blk H5.out.pat.box hbg) hbg) hbg, HLn, ?_⟩
    have := owns_set (k := i * 3 + 2) (owns_set (k := i * 3 + 1) (owns_set (k := i * 3) H5.out.pat.row (.string x.p)) (.string x.d)) (.int .i64 x.v)
    rw [seCs_set l i x (by rw [H5.out.pat.len]; exact hilt)] at this
    exact this)
end Go.Proofs.YtbamkdohaofgdaaGreatDoor
namespace Go.Proofs.YtbamkdohaofgdaaGreatDoor
open Go.RowKit Classical
set_option linter.unusedVariables false
set_option linter.unusedSimpArgs false
set_option maxHeartbeats 6400000 in
set_option maxRecDepth 100000 in
theorem play_gone (W w : World) (bs : Nat) (st : Int) (p : ByteArray) (k : Int) (a : Option Addr) (n cap : Nat) (l : List SeenT) (ck : Int) (cp cd : ByteArray) (cv : Int) (hG : Ground W) (hI : InvF l) (h : PAt W w bs st p k a n cap l) (h1 : covers 3 pRoot 3 cp = true) (h2 : covers k p 3 cp = true) (h3 : hasP l cp = true) (h4 : goB l cp = true) :
    Calls Tryz.prog 19 #[.pointer (some ⟨bs, 0, none⟩), .agg (chA ⟨3, cp, cd, cv⟩)] w fun e w' => PlayEnd W bs st p k l ⟨3, cp, cd, cv⟩ e w' := by
  have HS : Hid (stepF k p l ⟨3, cp, cd, cv⟩ = some (delP l cp)) := by show _ = _; simp [stepF, h1, h2, h3, h4]
  have HG : Hid (Ground W) := hG
  have HI : Hid (InvF l) := hI
  have H0 : Hid (PC W (w.alloc (.cells (chA ⟨3, cp, cd, cv⟩) 46)) bs w.heap.size st p k a n cap l ⟨3, cp, cd, cv⟩) := ⟨h.below ((Below.refl _ _).alloc (Nat.le_refl _) _), heap_alloc_new _ _⟩
  have hn : n ≤ 64 := by rw [← h.len]; exact hI.len
  have HV1 : Hid (∀ w', Ground w' → Calls Tryz.prog 37 #[.int .i64 3, .string ⟨#[47]⟩, .int .i64 3, .string cp] w' fun e w'' => e = .returned (.bool true) ∧ Below w'.heap.size w' w'') := fun w' hg => by have := covers_any 3 3 pRoot cp w' hg; rw [h1] at this; exact this
  have HV2 : Hid (∀ w', Ground w' → Calls Tryz.prog 37 #[.int .i64 k, .string p, .int .i64 3, .string cp] w' fun e w'' => e = .returned (.bool true) ∧ Below w'.heap.size w' w'') := fun w' hg => by have := covers_any k 3 p cp w' hg; rw [h2] at this; exact this
  have HF : Hid (∀ w', Ss w' a l → Calls Tryz.prog 38 #[.slice a n cap, .string cp] w' fun e w'' => e = .returned (.tuple #[.int .i64 ((pos l cp : Nat) : Int), .bool true]) ∧ Below w'.heap.size w' w'') := fun w' hs => by
    have hz := isP_size' (cov_isP h2).1
    have := find_any a cap l cp w' hs (by have := hI.len; omega) (fun s hs => by have := isP_size' (hI.isp s hs); unfold maxLen; omega) (by unfold maxLen; omega) hI.asc
    rw [h.len, h3] at this
    refine this.mono ?_
    rintro e w'' ⟨i, rfl, hi, g1, g2, hb⟩
    rw [pos_eq cp l i (by rw [h.len]; exact hi) g1 g2]
    exact ⟨rfl, hb⟩
  obtain ⟨i, hpi⟩ : ∃ i, pos l cp = i := ⟨_, rfl⟩
  have HPI : Hid (pos l cp = i) := hpi
  rw [hpi] at HF
  have hin : i ≤ n := by rw [← hpi, ← h.len]; exact pos_le l cp
  obtain ⟨y, hy, hyp⟩ := has_pos hI.asc h3
  rw [hpi] at hy
  have HGO : Hid (∀ w', PC W w' bs w.heap.size st p k a n cap l ⟨3, cp, cd, cv⟩ → Calls Tryz.prog 43 #[.slice a n cap, .int .i64 i] w' fun e w'' => e = .returned (.bool true) ∧ Below w'.heap.size w' w'') := fun w' hp => by
    have := mayGo_any a cap n i l y w' (hG.below hp.pat.low) hp.pat.ss h.len (by omega) hy
    have e4 : mgB l i cp = true := by rw [← hpi, mg_go hI h3, h4]
    rw [hyp, e4] at this
    exact this
  have hilt : i < n := by rw [← h.len]; exact (List.getElem?_eq_some_iff.1 hy).1
  have hwi : IntKind.i64.wrap ((i : Int) + 1) = (i : Int) + 1 := by rw [IntKind.wrap_i64]; omega
  clear hy hyp
  clear hG hI h h1 h2 h3 hpi
  obtain ⟨c0, c1, c2, c3⟩ := cells_4 H0.out.cbx
  go_enter Tryz.func19, Tryz.ntmps19
  go_wp2_with fail
  refine (HV1.out _ (HG.out.below H0.out.pat.low)).mono ?_
  rintro e w1 ⟨rfl, hb1⟩
  have H1 : Hid (PC W w1 bs w.heap.size st p k a n cap l ⟨3, cp, cd, cv⟩) := H0.out.below hb1
  clear hb1 c0 c1 c2 c3
  obtain ⟨c0, c1, c2, c3⟩ := cells_4 H1.out.cbx
  obtain ⟨s0, s1, s2, s3⟩ := cells_4 H1.out.pat.box
  go_wp2_with fail
  go_region_held3 (fun w' => w'.cell? ⟨bs, 1, none⟩ = some (.string p) ∧ w'.cell? ⟨bs, 2, none⟩ = some (.int .i64 k) ∧ w'.cell? ⟨w.heap.size, 0, none⟩ = some (.int .i64 3) ∧ w'.cell? ⟨w.heap.size, 1, none⟩ = some (.string cp)) (first | exact ⟨s1, s2, c0, c1⟩ | go_keep)
    (first
    | (go_at_call 37; refine (HV2.out _ (HG.out.below (below_drew H1.out.pat.low))).mono ?_; rintro e w2 ⟨rfl, hb2⟩
       have H2 : Hid (PC W w2 bs w.heap.size st p k a n cap l ⟨3, cp, cd, cv⟩) := H1.out.belowD hb2
       clear hb2 c0 c1 c2 c3 s0 s1 s2 s3
       obtain ⟨c0, c1, c2, c3⟩ := cells_4 H2.out.cbx
       obtain ⟨s0, s1, s2, s3⟩ := cells_4 H2.out.pat.box)
    | fail)
  go_wp2_with fail
  go_region_held3 (fun w' => w'.cell? ⟨bs, 3, none⟩ = some (.slice a n cap) ∧ w'.cell? ⟨w.heap.size, 1, none⟩ = some (.string cp)) (first | exact ⟨s3, c1⟩ | go_keep)
    (first
    | (go_at_call 38; refine (HF.out _ (H2.out.pat.ss.below (below_drew (Below.refl _ _)))).mono ?_; rintro e w3 ⟨rfl, hb3⟩
       have H3 : Hid (PC W w3 bs w.heap.size st p k a n cap l ⟨3, cp, cd, cv⟩) := H2.out.belowD hb3
       clear hb3 c0 c1 c2 c3 s0 s1 s2 s3
       obtain ⟨c0, c1, c2, c3⟩ := cells_4 H3.out.cbx
       obtain ⟨s0, s1, s2, s3⟩ := cells_4 H3.out.pat.box)
    | fail)
  go_wp2_with fail
  refine (HGO.out _ H3.out).mono ?_
  rintro e w4 ⟨rfl, hb4⟩
  have H4 : Hid (PC W w4 bs w.heap.size st p k a n cap l ⟨3, cp, cd, cv⟩) := H3.out.below hb4
  clear hb4 c0 c1 c2 c3 s0 s1 s2 s3
  obtain ⟨c0, c1, c2, c3⟩ := cells_4 H4.out.cbx
  obtain ⟨s0, s1, s2, s3⟩ := cells_4 H4.out.pat.box
  go_wp2_with fail
  refine (delete_n W.heap.size i n a cap l w4 H4.out.pat.len H4.out.pat.row hilt).mono ?_
  rintro e w6 ⟨rfl, ho6, hc6⟩
  have HO6 : Hid (w6.ownsRow W.heap.size 52 3 (.slice a (n - 1) cap) (n - 1) (seCs (l.take i ++ l.drop (i + 1)))) := ho6
  have HX6 : Hid (w6.heap[bs]? = some (.cells (shA st p k a n cap) 24 (0, 0))) := (hc6.block bs (lt_of_blk H4.out.pat.box) (H4.out.pat.ne H4.out.pat.box (by decide))).trans H4.out.pat.box
  have HL6 : Hid (Below W.heap.size W w6) := below_chg H4.out.pat.low hc6 (fun j hj => (H4.out.pat.row.lt j hj).1)
  clear ho6 hc6 c0 c1 c2 c3 s0 s1 s2 s3
  obtain ⟨s0, s1, s2, s3⟩ := cells_4 HX6.out
  have f4 := free_4 HX6.out
  go_wp2_with fail
  go_ret
  have HE : delP l cp = l.take i ++ l.drop (i + 1) := by unfold delP; rw [HPI.out]
  have HLn : (l.take i ++ l.drop (i + 1)).length = n - 1 := by have := H4.out.pat.len; simp; omega
  refine .inr ⟨delP l cp, HS.out, rfl, a, cap, ?_⟩
  rw [HE, HLn]
  exact PAt.put HL6.out H4.out.pat.bsl HX6.out HLn HO6.out
end Go.Proofs.YtbamkdohaofgdaaGreatDoor
namespace Go.Proofs.YtbamkdohaofgdaaGreatDoor
open Go.RowKit Classical
set_option linter.unusedVariables false
set_option linter.unusedSimpArgs false
set_option maxHeartbeats 6400000 in
set_option maxRecDepth 100000 in
theorem play_none (W w : World) (bs : Nat) (st : Int) (p : ByteArray) (k : Int) (a : Option Addr) (n cap : Nat) (l : List SeenT) (ck : Int) (cp cd : ByteArray) (cv : Int) (hG : Ground W) (hI : InvF l) (h : PAt W w bs st p k a n cap l) (h1 : covers 3 pRoot ck cp = false) :
    Calls Tryz.prog 19 #[.pointer (some ⟨bs, 0, none⟩), .agg (chA ⟨ck, cp, cd, cv⟩)] w fun e w' => PlayEnd W bs st p k l ⟨ck, cp, cd, cv⟩ e w' := by
  have HS : Hid (stepF k p l ⟨ck, cp, cd, cv⟩ = none) := by show _ = _; simp [stepF, h1]
  have HG : Hid (Ground W) := hG
  have HI : Hid (InvF l) := hI
  have H0 : Hid (PC W (w.alloc (.cells (chA ⟨ck, cp, cd, cv⟩) 46)) bs w.heap.size st p k a n cap l ⟨ck, cp, cd, cv⟩) := ⟨h.below ((Below.refl _ _).alloc (Nat.le_refl _) _), heap_alloc_new _ _⟩
  have hn : n ≤ 64 := by rw [← h.len]; exact hI.len
  have HV1 : Hid (∀ w', Ground w' → Calls Tryz.prog 37 #[.int .i64 3, .string ⟨#[47]⟩, .int .i64 ck, .string cp] w' fun e w'' => e = .returned (.bool false) ∧ Below w'.heap.size w' w'') := fun w' hg => by have := covers_any 3 ck pRoot cp w' hg; rw [h1] at this; exact this
  clear hG hI h h1
  obtain ⟨c0, c1, c2, c3⟩ := cells_4 H0.out.cbx
  go_enter Tryz.func19, Tryz.ntmps19
  go_wp2_with fail
  refine (HV1.out _ (HG.out.below H0.out.pat.low)).mono ?_
  rintro e w1 ⟨rfl, hb1⟩
  have H1 : Hid (PC W w1 bs w.heap.size st p k a n cap l ⟨ck, cp, cd, cv⟩) := H0.out.below hb1
  clear hb1 c0 c1 c2 c3
  obtain ⟨c0, c1, c2, c3⟩ := cells_4 H1.out.cbx
  obtain ⟨s0, s1, s2, s3⟩ := cells_4 H1.out.pat.box
  go_wp2_with fail
  go_ret
  exact .inl ⟨HS.out, rfl, H1.out.pat.low⟩
set_option maxHeartbeats 6400000 in
set_option maxRecDepth 100000 in
theorem play_other (W w : World) (bs : Nat) (st : Int) (p : ByteArray) (k : Int) (a : Option Addr) (n cap : Nat) (l : List SeenT) (ck : Int) (cp cd : ByteArray) (cv : Int) (hG : Ground W) (hI : InvF l) (h : PAt W w bs st p k a n cap l) (h1 : covers 3 pRoot ck cp = true) (h2 : covers k p ck cp = false) :
    Calls Tryz.prog 19 #[.pointer (some ⟨bs, 0, none⟩), .agg (chA ⟨ck, cp, cd, cv⟩)] w fun e w' => PlayEnd W bs st p k l ⟨ck, cp, cd, cv⟩ e w' := by
  have HS : Hid (stepF k p l ⟨ck, cp, cd, cv⟩ = some l) := by show _ = _; simp [stepF, h1, h2]
  have HG : Hid (Ground W) := hG
  have HI : Hid (InvF l) := hI
  have H0 : Hid (PC W (w.alloc (.cells (chA ⟨ck, cp, cd, cv⟩) 46)) bs w.heap.size st p k a n cap l ⟨ck, cp, cd, cv⟩) := ⟨h.below ((Below.refl _ _).alloc (Nat.le_refl _) _), heap_alloc_new _ _⟩
  have hn : n ≤ 64 := by rw [← h.len]; exact hI.len
  have HV1 : Hid (∀ w', Ground w' → Calls Tryz.prog 37 #[.int .i64 3, .string ⟨#[47]⟩, .int .i64 ck, .string cp] w' fun e w'' => e = .returned (.bool true) ∧ Below w'.heap.size w' w'') := fun w' hg => by have := covers_any 3 ck pRoot cp w' hg; rw [h1] at this; exact this
  have HV2 : Hid (∀ w', Ground w' → Calls Tryz.prog 37 #[.int .i64 k, .string p, .int .i64 ck, .string cp] w' fun e w'' => e = .returned (.bool false) ∧ Below w'.heap.size w' w'') := fun w' hg => by have := covers_any k ck p cp w' hg; rw [h2] at this; exact this
  clear hG hI h h1 h2
  obtain ⟨c0, c1, c2, c3⟩ := cells_4 H0.out.cbx
  go_enter Tryz.func19, Tryz.ntmps19
  go_wp2_with fail
  refine (HV1.out _ (HG.out.below H0.out.pat.low)).mono ?_
  rintro e w1 ⟨rfl, hb1⟩
  have H1 : Hid (PC W w1 bs w.heap.size st p k a n cap l ⟨ck, cp, cd, cv⟩) := H0.out.below hb1
  clear hb1 c0 c1 c2 c3
  obtain ⟨c0, c1, c2, c3⟩ := cells_4 H1.out.cbx
  obtain ⟨s0, s1, s2, s3⟩ := cells_4 H1.out.pat.box
  go_wp2_with fail
  go_region_held3 (fun w' => w'.cell? ⟨bs, 1, none⟩ = some (.string p) ∧ w'.cell? ⟨bs, 2, none⟩ = some (.int .i64 k) ∧ w'.cell? ⟨w.heap.size, 0, none⟩ = some (.int .i64 ck) ∧ w'.cell? ⟨w.heap.size, 1, none⟩ = some (.string cp)) (first | exact ⟨s1, s2, c0, c1⟩ | go_keep)
    (first
    | (go_at_call 37; refine (HV2.out _ (HG.out.below (below_drew H1.out.pat.low))).mono ?_; rintro e w2 ⟨rfl, hb2⟩
       have H2 : Hid (PC W w2 bs w.heap.size st p k a n cap l ⟨ck, cp, cd, cv⟩) := H1.out.belowD hb2
       clear hb2 c0 c1 c2 c3 s0 s1 s2 s3
       obtain ⟨c0, c1, c2, c3⟩ := cells_4 H2.out.cbx
       obtain ⟨s0, s1, s2, s3⟩ := cells_4 H2.out.pat.box)
    | fail)
  go_wp2_with fail
  go_ret
  exact .inr ⟨l, HS.out, rfl, a, cap, by have := H2.out.pat; rw [← this.len] at this; exact this⟩
end Go.Proofs.YtbamkdohaofgdaaGreatDoor
namespace Go.Proofs.YtbamkdohaofgdaaGreatDoor
open Go.RowKit Classical
set_option linter.unusedVariables false
set_option linter.unusedSimpArgs false

theorem play_any (W w : World) (bs : Nat) (st : Int) (p : ByteArray) (k : Int) (a : Option Addr) (n cap : Nat) (l : List SeenT) (c : ChT) (hG : Ground W) (hI : InvF l) (h : PAt W w bs st p k a n cap l) :
    Calls Tryz.prog 19 #[.pointer (some ⟨bs, 0, none⟩), .agg (chA c)] w fun e w' => PlayEnd W bs st p k l c e w' := by
  obtain ⟨ck, cp, cd, cv⟩ := c
  cases h1 : covers 3 pRoot ck cp with
  | false => exact play_none W w bs st p k a n cap l ck cp cd cv hG hI h h1
  | true =>
    cases h2 : covers k p ck cp with
    | false => exact play_other W w bs st p k a n cap l ck cp cd cv hG hI h h1 h2
    | true =>
      obtain ⟨_, hk1, hk3⟩ := cov_isP h2
      rcases (show ck = 1 ∨ ck = 2 ∨ ck = 3 by omega) with rfl | rfl | rfl
      · cases h3 : hasP l cp with
        | true => exact play_made_there W w bs st p k a n cap l 1 cp cd cv hG hI h h1 h2 h3
        | false =>
          cases h4 : mkB p l ⟨1, cp, cd, cv⟩ with
          | false => exact play_made_not W w bs st p k a n cap l 1 cp cd cv hG hI h h1 h2 h3 h4
          | true => exact play_made W w bs st p k a n cap l 1 cp cd cv hG hI h h1 h2 h3 h4
      · cases h3 : hasP l cp with
        | false => exact play_set_not W w bs st p k a n cap l 2 cp cd cv hG hI h h1 h2 h3
        | true =>
          cases h4 : fitB cd cv with
          | false => exact play_set_bad W w bs st p k a n cap l 2 cp cd cv hG hI h h1 h2 h3 h4
          | true => exact play_set W w bs st p k a n cap l 2 cp cd cv hG hI h h1 h2 h3 h4
      · cases h3 : hasP l cp with
        | false => exact play_gone_not W w bs st p k a n cap l 3 cp cd cv hG hI h h1 h2 h3
        | true =>
          cases h4 : goB l cp with
          | false => exact play_gone_bad W w bs st p k a n cap l 3 cp cd cv hG hI h h1 h2 h3 h4
          | true => exact play_gone W w bs st p k a n cap l 3 cp cd cv hG hI h h1 h2 h3 h4
end Go.Proofs.YtbamkdohaofgdaaGreatDoor
namespace Go.Proofs.YtbamkdohaofgdaaGreatDoor
open Go.RowKit Classical
set_option linter.unusedVariables false
set_option linter.unusedSimpArgs false

theorem results_cell_tmp {P : Program} {fn : Func} {p q : Tmp} {ty : TypeId} (h : fn.results = #[.cell p ty, .tmp q]) (tmps : Array Value) (w : World) (g : Nat) (t : TypeId) (cs : Array Value) (fr : Nat × Nat) (d : TypeDesc) (v : Value)
    (hp : tmps.getD p undef = .pointer (some ⟨g, 0, none⟩)) (hq : tmps.getD q undef = v) (hg : w.heap[g]? = some (.cells cs t fr))
    (hu : P.underlying ty = some d) (hd : (match d with | .struct _ | .array _ _ => true | _ => false) = true) (hi : (P.info? ty).map (·.size) = some cs.size) :
    (results fn tmps).run P w = .ok (.tuple #[.agg cs, v]) w := by
  have hp' : tmps[p]?.getD undef = .pointer (some ⟨g, 0, none⟩) := by simpa using hp
  have hq' : tmps[q]?.getD undef = v := by simpa using hq
  simp [results, h, hp', hq', asAddr, run_loadVar_row w g t ty cs fr d hg hu hd hi]
/-- What a Fold answers. -/
structure FoldRes (st : Int) (p : ByteArray) (k : Int) (l : List SeenT) (stamp : Int) (cs : List ChT) (code st' : Int) (p' : ByteArray) (k' : Int) (l' : List SeenT) : Prop where
  bad : ¬ Good st p k l → code = 51 ∧ st' = 0 ∧ p' = ⟨#[]⟩ ∧ k' = 0 ∧ l' = []
  arg : Good st p k l → (stamp ≤ st ∨ 2147483647 < stamp) → code = 1 ∧ st' = 0 ∧ p' = ⟨#[]⟩ ∧ k' = 0 ∧ l' = []
  no : Good st p k l → ¬ (stamp ≤ st ∨ 2147483647 < stamp) → foldF k p l cs = none → code = 50 ∧ st' = 0 ∧ p' = ⟨#[]⟩ ∧ k' = 0 ∧ l' = []
  ok : Good st p k l → ¬ (stamp ≤ st ∨ 2147483647 < stamp) → ∀ m, foldF k p l cs = some m → code = 0 ∧ st' = stamp ∧ p' = p ∧ k' = k ∧ l' = m
theorem FoldRes.one {st : Int} {p : ByteArray} {k : Int} {l : List SeenT} {stamp : Int} {cs : List ChT} {c1 c2 s1 s2 k1 k2 : Int} {p1 p2 : ByteArray} {l1 l2 : List SeenT} (h : FoldRes st p k l stamp cs c1 s1 p1 k1 l1) (g : FoldRes st p k l stamp cs c2 s2 p2 k2 l2) : c1 = c2 ∧ s1 = s2 ∧ p1 = p2 ∧ k1 = k2 ∧ l1 = l2 := by
  by_cases hG : Good st p k l
  · by_cases hA : stamp ≤ st ∨ 2147483647 < stamp
    · have a := h.arg hG hA; have b := g.arg hG hA; simp [a, b]
    · cases hF : foldF k p l cs with
      | none => have a := h.no hG hA hF; have b := g.no hG hA hF; simp [a, b]
      | some m => have a := h.ok hG hA m hF; have b := g.ok hG hA m hF; simp [a, b]
  · have a := h.bad hG; have b := g.bad hG; simp [a, b]
theorem foldRes_bad {st : Int} {p : ByteArray} {k : Int} {l : List SeenT} {stamp : Int} {cs : List ChT} (h : ¬ Good st p k l) : FoldRes st p k l stamp cs 51 0 ⟨#[]⟩ 0 [] := ⟨fun _ => ⟨rfl, rfl, rfl, rfl, rfl⟩, fun h' => absurd h' h, fun h' => absurd h' h, fun h' => absurd h' h⟩
theorem foldRes_arg {st : Int} {p : ByteArray} {k : Int} {l : List SeenT} {stamp : Int} {cs : List ChT} (h : Good st p k l) (ha : stamp ≤ st ∨ 2147483647 < stamp) : FoldRes st p k l stamp cs 1 0 ⟨#[]⟩ 0 [] := ⟨fun h' => absurd h h', fun _ _ => ⟨rfl, rfl, rfl, rfl, rfl⟩, fun _ h' => absurd ha h', fun _ h' => absurd ha h'⟩
theorem foldRes_no {st : Int} {p : ByteArray} {k : Int} {l : List SeenT} {stamp : Int} {cs : List ChT} (h : Good st p k l) (ha : ¬ (stamp ≤ st ∨ 2147483647 < stamp)) (hf : foldF k p l cs = none) : FoldRes st p k l stamp cs 50 0 ⟨#[]⟩ 0 [] := ⟨fun h' => absurd h h', fun _ h' => absurd h' ha, fun _ _ _ => ⟨rfl, rfl, rfl, rfl, rfl⟩, fun _ _ m h' => by rw [hf] at h'; cases h'⟩
theorem foldRes_ok {st : Int} {p : ByteArray} {k : Int} {l : List SeenT} {stamp : Int} {cs : List ChT} {m : List SeenT} (h : Good st p k l) (ha : ¬ (stamp ≤ st ∨ 2147483647 < stamp)) (hf : foldF k p l cs = some m) : FoldRes st p k l stamp cs 0 stamp p k m := ⟨fun h' => absurd h h', fun _ h' => absurd h' ha, fun _ _ h' => by (rw [hf] at h'; cases h'), fun _ _ m' h' => by rw [hf] at h'; cases h'; exact ⟨rfl, rfl, rfl, rfl, rfl⟩⟩
theorem inv_good {st : Int} {p : ByteArray} {k : Int} {l : List SeenT} (h : Good st p k l) : InvF l ∧ ∀ s ∈ l, s.p.size ≤ 1000 ∧ s.d.size ≤ 1000 := by
  have hm : ∀ s ∈ l, isP s.p = true ∧ s.d.size ≤ 64 := fun s hs => by
    obtain ⟨i, hi⟩ := List.getElem?_of_mem hs
    have := h.2.2.2.2 i s hi
    unfold mayB at this
    simp only [Bool.and_eq_true] at this
    refine ⟨(cov_isP this.1.1.1).1, ?_⟩
    have h2 := this.1.1.2
    unfold fitB at h2
    simp only [Bool.and_eq_true, decide_eq_true_eq] at h2
    exact h2.1
  refine ⟨⟨?_, fun s hs => (hm s hs).1, h.2.2.1⟩, fun s hs => ⟨by have := isP_size' (hm s hs).1; omega, by have := (hm s hs).2; omega⟩⟩
  have := asc_of_may (k := k) (p := p) (l := l) l.length (Nat.le_refl _) (fun i n _ hn => h.2.2.2.2 i n hn)
  rwa [List.take_length] at this
abbrev FoldEnd (st : Int) (p : ByteArray) (k : Int) (l : List SeenT) (stamp : Int) (cs : List ChT) (w w' : World) (e : Ending) : Prop := ∃ st' p' k' la lc l' code, e = .returned (.tuple #[.agg (shA st' p' k' la l'.length lc), .int .i64 code]) ∧ Ss w' la l' ∧ FoldRes st p k l stamp cs code st' p' k' l' ∧ (l'.length ≤ 64 ∧ ∀ b o, la = some ⟨b, o, none⟩ → w.heap.size ≤ b) ∧ Below w.heap.size w w' ∧ l'.length ≤ lc
abbrev shZ : Array Value := shA 0 ⟨#[]⟩ 0 none 0 0
/-- The two boxes of a Fold. -/
structure FB (w W : World) (A R : Array Value) : Prop where
  pa : W.heap[w.heap.size]? = some (.cells A 24 (0, 0))
  pr : W.heap[w.heap.size + 1]? = some (.cells R 24 (0, 0))
  low : Below w.heap.size w W
theorem FB.start (w : World) (A R : Array Value) : FB w ((w.alloc (.cells A 24)).alloc (.cells R 24)) A R := ⟨new_old (heap_alloc_new _ _) _, heap_new' (by simp), ((Below.refl _ _).alloc (Nat.le_refl _) _).alloc (by simp) _⟩
theorem FB.below {w W W' : World} {A R : Array Value} (h : FB w W A R) (hb : Below W.heap.size W W') : FB w W' A R := ⟨kept_block hb h.pa, kept_block hb h.pr, trans2 h.low hb⟩
set_option maxHeartbeats 6400000 in
set_option maxRecDepth 100000 in
theorem fold_bad (st : Int) (p : ByteArray) (k : Int) (a : Option Addr) (n c : Nat) (l : List SeenT) (stamp : Int) (ha : Option Addr) (hm hc : Nat) (cs : List ChT) (w : World) (hg : Ground w) (hs : Ss w a l) (hn : l.length = n) (hok : ∀ s ∈ l, s.p.size ≤ maxLen) (hl : n ≤ maxLen) (hcn : n ≤ c) (hG : ¬ Good st p k l) :
    Calls Tryz.prog 7 #[.agg (shA st p k a n c), .int .i64 stamp, .slice ha hm hc] w fun e w' => FoldEnd st p k l stamp cs w w' e := by
  have H0 : Hid (FB w _ (shA st p k a n c) shZ) := FB.start w _ _
  have HC : Hid (∀ w', Below w.heap.size w w' → Calls Tryz.prog 14 #[.agg (shA st p k a n c)] w' fun e w'' => e = .returned (.int .i64 51) ∧ Below w'.heap.size w' w'') := fun w' hb => by
    have := check_any st p k a c l w' (hg.below hb) (hs.below hb) hok (by rw [hn]; exact hl) (by rw [hn]; exact hcn)
    rw [hn, chk_bad hG] at this
    exact this
  have HG : Hid (¬ Good st p k l) := hG
  clear hg hs hok hl hcn hG
  obtain ⟨a0, a1, a2, a3⟩ := cells_4 H0.out.pa
  go_enter Tryz.func7, Tryz.ntmps7
  go_wp2_with fail
  refine (HC.out _ H0.out.low).mono ?_
  rintro e w1 ⟨rfl, hb1⟩
  have H1 : Hid (FB w w1 (shA st p k a n c) shZ) := H0.out.below hb1
  clear hb1 a0 a1 a2 a3
  obtain ⟨r0, r1, r2, r3⟩ := cells_4 H1.out.pr
  have f4 := free_4 H1.out.pr
  go_wp2_with fail
  exact bodyPost_ret (results_cell_tmp rfl _ _ (w.heap.size + 1) 24 _ (0, 0) _ _ rfl rfl (fill_4 H1.out.pr) Tryz.underlying24 rfl (by kernel_rfl)) rfl ⟨0, ⟨#[]⟩, 0, none, 0, [], 51, rfl, .inl rfl, foldRes_bad HG.out, by simp, fillB_4 H1.out.low (by omega), Nat.le_refl _⟩
end Go.Proofs.YtbamkdohaofgdaaGreatDoor
