/-
  shot: play.
-/
import Derived.Test.YtaieijbdknfcjaaGreatDoorGPlayH
namespace Go.Proofs.YtaieijbdknfcjaaGreatDoor
open Go.RowKit Classical
set_option linter.unusedVariables false
set_option linter.unusedSimpArgs false
set_option maxHeartbeats 6400000 in
set_option maxRecDepth 100000 in
theorem play_set (W w : World) (bs : Nat) (st : Int) (p : ByteArray) (k : Int) (a : Option Addr) (n cap : Nat) (l : List SeenT) (ck : Int) (cp cd : ByteArray) (cv : Int) (hG : Ground W) (hI : InvF l) (h : PAt W w bs st p k a n cap l) (h1 : covers 3 pRoot 2 cp = true) (h2 : covers k p 2 cp = true) (h3 : hasP l cp = true) (h4 : fitB cd cv = true) :
    Calls Tryz.prog 21 #[.pointer (some ⟨bs, 0, none⟩), .agg (chA ⟨2, cp, cd, cv⟩)] w fun e w' => PlayEnd W bs st p k l ⟨2, cp, cd, cv⟩ e w' := by
  have HS : Hid (stepF k p l ⟨2, cp, cd, cv⟩ = some (setP l (seeB k ⟨2, cp, cd, cv⟩))) := by show _ = _; simp [stepF, h1, h2, h3, h4]
  have HG : Hid (Ground W) := hG
  have HI : Hid (InvF l) := hI
  have H0 : Hid (PC W (w.alloc (.cells (chA ⟨2, cp, cd, cv⟩) 39)) bs w.heap.size st p k a n cap l ⟨2, cp, cd, cv⟩) := ⟨h.below ((Below.refl _ _).alloc (Nat.le_refl _) _), heap_alloc_new _ _⟩
  have hn : n ≤ 64 := by rw [← h.len]; exact hI.len
  have HV1 : Hid (∀ w', Ground w' → Calls Tryz.prog 31 #[.int .i64 3, .string ⟨#[47]⟩, .int .i64 2, .string cp] w' fun e w'' => e = .returned (.bool true) ∧ Below w'.heap.size w' w'') := fun w' hg => by have := covers_any 3 2 pRoot cp w' hg; rw [h1] at this; exact this
  have HV2 : Hid (∀ w', Ground w' → Calls Tryz.prog 31 #[.int .i64 k, .string p, .int .i64 2, .string cp] w' fun e w'' => e = .returned (.bool true) ∧ Below w'.heap.size w' w'') := fun w' hg => by have := covers_any k 2 p cp w' hg; rw [h2] at this; exact this
  have HF : Hid (∀ w', Ss w' a l → Calls Tryz.prog 32 #[.slice a n cap, .string cp] w' fun e w'' => e = .returned (.tuple #[.int .i64 ((pos l cp : Nat) : Int), .bool true]) ∧ Below w'.heap.size w' w'') := fun w' hs => by
    have hz := isP_size' (cov_isP h2).1
    have := find_any a cap l cp w' hs (by have := hI.len; omega) (fun s hs => by have := isP_size' (hI.isp s hs); unfold maxLen; omega) (by unfold maxLen; omega) hI.asc
    rw [h.len, h3] at this
    refine this.mono ?_
    rintro e w'' ⟨i, rfl, hi, g1, g2, hb⟩
    rw [pos_eq cp l i (by rw [h.len]; exact hi) g1 g2]
    exact ⟨rfl, hb⟩
  obtain ⟨i, hpi⟩ : ∃ i, pos l cp = i := ⟨_, rfl⟩
  have HPI : Hid (pos l cp = i) := hpi
  rw [hpi] at HF
  have hin : i ≤ n := by rw [← hpi, ← h.len]; exact pos_le l cp
  have hilt : i < n := by
    obtain ⟨y, hy, _⟩ := has_pos hI.asc h3
    rw [hpi] at hy
    rw [← h.len]; exact (List.getElem?_eq_some_iff.1 hy).1
  have hilt' : (i : Int) < (n : Int) := by omega
  obtain ⟨g, rfl⟩ : ∃ g, a = some ⟨g, 0, none⟩ := by
    rcases h.row.2 with ⟨h0, h1⟩ | ⟨g', cap', cur, hv, _⟩
    · omega
    · cases hv; exact ⟨g', rfl⟩
  have HFI : Hid (∀ w', Calls Tryz.prog 36 #[.string cd, .int .i64 cv] w' fun e w'' => e = .returned (.bool true) ∧ w'' = w') := fun w' => by have := fits_any cd cv w'; rw [h4] at this; exact this
  have HEI : Hid (∀ args w, (callFunc 34 args).run Tryz.prog w = .ok (.enter 34 args) w) := enters_of Tryz.func34 (by kernel_rfl) rfl
  have HES : Hid (∀ args w, (callFunc 35 args).run Tryz.prog w = .ok (.enter 35 args) w) := enters_of Tryz.func35 (by kernel_rfl) rfl
  have HSB : Hid (∀ w', Calls Tryz.prog 35 #[.int .i64 k, .agg (chA ⟨2, cp, cd, cv⟩)] w' fun e w'' => e = .returned (.agg (seC (seeB k ⟨2, cp, cd, cv⟩))) ∧ Below w'.heap.size w' w'') := fun w' => seenBy_any k ⟨2, cp, cd, cv⟩ w' (by have := isP_size' (cov_isP h2).1; show cp.size ≤ _; omega) (by show cd.size ≤ _; have := h4; simp only [fitB, Bool.and_eq_true, decide_eq_true_eq] at this; omega)
  obtain ⟨x, hx⟩ : ∃ x, seeB k ⟨2, cp, cd, cv⟩ = x := ⟨_, rfl⟩
  have HXP : Hid (x.p = cp) := by show _ = _; rw [← hx, seeB_p]
  rw [hx] at HSB HS
  clear hx
  clear hG hI h h1 h2 h3 hpi
  obtain ⟨c0, c1, c2, c3⟩ := cells_4 H0.out.cbx
  go_enter Tryz.func21, Tryz.ntmps21
  go_wp2_with fail
  refine (HV1.out _ (HG.out.below H0.out.pat.low)).mono ?_
  rintro e w1 ⟨rfl, hb1⟩
  have H1 : Hid (PC W w1 bs w.heap.size st p k (some ⟨g, 0, none⟩) n cap l ⟨2, cp, cd, cv⟩) := H0.out.below hb1
  clear hb1 c0 c1 c2 c3
  obtain ⟨c0, c1, c2, c3⟩ := cells_4 H1.out.cbx
  obtain ⟨s0, s1, s2, s3⟩ := cells_4 H1.out.pat.box
  go_wp2_with fail
  go_region_held3 (fun w' => w'.cell? ⟨bs, 1, none⟩ = some (.string p) ∧ w'.cell? ⟨bs, 2, none⟩ = some (.int .i64 k) ∧ w'.cell? ⟨w.heap.size, 0, none⟩ = some (.int .i64 2) ∧ w'.cell? ⟨w.heap.size, 1, none⟩ = some (.string cp)) (first | exact ⟨s1, s2, c0, c1⟩ | go_keep)
    (first
    | (go_at_call 31; refine (HV2.out _ (HG.out.below (below_drew H1.out.pat.low))).mono ?_; rintro e w2 ⟨rfl, hb2⟩
       have H2 : Hid (PC W w2 bs w.heap.size st p k (some ⟨g, 0, none⟩) n cap l ⟨2, cp, cd, cv⟩) := H1.out.belowD hb2
       clear hb2 c0 c1 c2 c3 s0 s1 s2 s3
       obtain ⟨c0, c1, c2, c3⟩ := cells_4 H2.out.cbx
       obtain ⟨s0, s1, s2, s3⟩ := cells_4 H2.out.pat.box)
    | fail)
  go_wp2_with fail
  go_region_held3 (fun w' => w'.cell? ⟨bs, 3, none⟩ = some (.slice (some ⟨g, 0, none⟩) n cap) ∧ w'.cell? ⟨w.heap.size, 1, none⟩ = some (.string cp)) (first | exact ⟨s3, c1⟩ | go_keep)
    (first
    | (go_at_call 32; refine (HF.out _ (H2.out.pat.ss.below (below_drew (Below.refl _ _)))).mono ?_; rintro e w3 ⟨rfl, hb3⟩
       have H3 : Hid (PC W w3 bs w.heap.size st p k (some ⟨g, 0, none⟩) n cap l ⟨2, cp, cd, cv⟩) := H2.out.belowD hb3
       clear hb3 c0 c1 c2 c3 s0 s1 s2 s3
       obtain ⟨c0, c1, c2, c3⟩ := cells_4 H3.out.cbx
       obtain ⟨s0, s1, s2, s3⟩ := cells_4 H3.out.pat.box)
    | fail)
  go_wp2_with fail
  refine (HFI.out _).mono ?_
  rintro e w4 ⟨rfl, rfl⟩
  go_wp2_with fail
  go_region_law
    (first
    | (refine step_call2 (by rfl) 35 _ _ _ (by rfl) HES.out (.int .i64 k) (.agg (chA ⟨2, cp, cd, cv⟩)) (by rfl) (by rfl) (HSB.out _) ?_
       rintro e w5 ⟨rfl, hb5⟩
       refine ⟨_, rfl, ?_⟩
       have H5 : Hid (PC W w5 bs w.heap.size st p k (some ⟨g, 0, none⟩) n cap l ⟨2, cp, cd, cv⟩) := H3.out.belowD hb5
       clear hb5 c0 c1 c2 c3 s0 s1 s2 s3
       obtain ⟨c0, c1, c2, c3⟩ := cells_4 H5.out.cbx
       obtain ⟨s0, s1, s2, s3⟩ := cells_4 H5.out.pat.box
       obtain ⟨z0, hz0⟩ : ∃ z, w5.cell? ⟨g, i * 3, none⟩ = some z := ⟨_, (H5.out.pat.row.cellAt (i * 3) (by omega)).trans (List.getElem?_eq_getElem (by rw [H5.out.pat.row.1]; omega))⟩
       obtain ⟨z1, hz1⟩ : ∃ z, w5.cell? ⟨g, i * 3 + 1, none⟩ = some z := ⟨_, (H5.out.pat.row.cellAt (i * 3 + 1) (by omega)).trans (List.getElem?_eq_getElem (by rw [H5.out.pat.row.1]; omega))⟩
       obtain ⟨z2, hz2⟩ : ∃ z, w5.cell? ⟨g, i * 3 + 2, none⟩ = some z := ⟨_, (H5.out.pat.row.cellAt (i * 3 + 2) (by omega)).trans (List.getElem?_eq_getElem (by rw [H5.out.pat.row.1]; omega))⟩
       have hfz := H5.out.pat.row.frozenAt)
    | fail)
  all_goals (
    go_wp2_with fail
    go_ret
    have HE : setP l x = l.take i ++ x :: l.drop (i + 1) := by unfold setP; rw [HXP.out, HPI.out]
    have HLn : (l.take i ++ x :: l.drop (i + 1)).length = n := by have := H5.out.pat.len; simp; omega
    refine .inr ⟨setP l x, HS.out, rfl, some ⟨g, 0, none⟩, cap, ?_⟩
    rw [HE, HLn]
    have hbg : bs ≠ g := fun e => by
      have := H5.out.pat.ne H5.out.pat.box (by decide)
      rw [e] at this
      exact this rfl
    have hWg := (H5.out.pat.row.lt g rfl).1
    refine ⟨((H5.out.pat.low.setCell hWg _).setCell hWg _).setCell hWg _, H5.out.pat.bsl, other_blk (other_blk (other_blk H5.out.pat.box hbg) hbg) hbg, HLn, ?_⟩
    have := owns_set (k := i * 3 + 2) (owns_set (k := i * 3 + 1) (owns_set (k := i * 3) H5.out.pat.row (.string x.p)) (.string x.d)) (.int .i64 x.v)
    rw [seCs_set l i x (by rw [H5.out.pat.len]; exact hilt)] at this
    exact this)
end Go.Proofs.YtaieijbdknfcjaaGreatDoor
