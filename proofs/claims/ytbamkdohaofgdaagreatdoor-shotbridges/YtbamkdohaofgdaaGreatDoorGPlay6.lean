/-
  shot: play.
-/
import Derived.Test.YtbamkdohaofgdaaGreatDoorGPlayH
namespace Go.Proofs.YtbamkdohaofgdaaGreatDoor
open Go.RowKit Classical
set_option linter.unusedVariables false
set_option linter.unusedSimpArgs false
set_option maxHeartbeats 6400000 in
set_option maxRecDepth 100000 in
theorem play_gone_not (W w : World) (bs : Nat) (st : Int) (p : ByteArray) (k : Int) (a : Option Addr) (n cap : Nat) (l : List SeenT) (ck : Int) (cp cd : ByteArray) (cv : Int) (hG : Ground W) (hI : InvF l) (h : PAt W w bs st p k a n cap l) (h1 : covers 3 pRoot 3 cp = true) (h2 : covers k p 3 cp = true) (h3 : hasP l cp = false) :
    Calls Tryz.prog 19 #[.pointer (some ⟨bs, 0, none⟩), .agg (chA ⟨3, cp, cd, cv⟩)] w fun e w' => PlayEnd W bs st p k l ⟨3, cp, cd, cv⟩ e w' := by
  have HS : Hid (stepF k p l ⟨3, cp, cd, cv⟩ = none) := by show _ = _; simp [stepF, h1, h2, h3]
  have HG : Hid (Ground W) := hG
  have HI : Hid (InvF l) := hI
  have H0 : Hid (PC W (w.alloc (.cells (chA ⟨3, cp, cd, cv⟩) 46)) bs w.heap.size st p k a n cap l ⟨3, cp, cd, cv⟩) := ⟨h.below ((Below.refl _ _).alloc (Nat.le_refl _) _), heap_alloc_new _ _⟩
  have hn : n ≤ 64 := by rw [← h.len]; exact hI.len
  have HV1 : Hid (∀ w', Ground w' → Calls Tryz.prog 37 #[.int .i64 3, .string ⟨#[47]⟩, .int .i64 3, .string cp] w' fun e w'' => e = .returned (.bool true) ∧ Below w'.heap.size w' w'') := fun w' hg => by have := covers_any 3 3 pRoot cp w' hg; rw [h1] at this; exact this
  have HV2 : Hid (∀ w', Ground w' → Calls Tryz.prog 37 #[.int .i64 k, .string p, .int .i64 3, .string cp] w' fun e w'' => e = .returned (.bool true) ∧ Below w'.heap.size w' w'') := fun w' hg => by have := covers_any k 3 p cp w' hg; rw [h2] at this; exact this
  have HF : Hid (∀ w', Ss w' a l → Calls Tryz.prog 38 #[.slice a n cap, .string cp] w' fun e w'' => e = .returned (.tuple #[.int .i64 ((pos l cp : Nat) : Int), .bool false]) ∧ Below w'.heap.size w' w'') := fun w' hs => by
    have hz := isP_size' (cov_isP h2).1
    have := find_any a cap l cp w' hs (by have := hI.len; omega) (fun s hs => by have := isP_size' (hI.isp s hs); unfold maxLen; omega) (by unfold maxLen; omega) hI.asc
    rw [h.len, h3] at this
    refine this.mono ?_
    rintro e w'' ⟨i, rfl, hi, g1, g2, hb⟩
    rw [pos_eq cp l i (by rw [h.len]; exact hi) g1 g2]
    exact ⟨rfl, hb⟩
  obtain ⟨i, hpi⟩ : ∃ i, pos l cp = i := ⟨_, rfl⟩
  have HPI : Hid (pos l cp = i) := hpi
  rw [hpi] at HF
  have hin : i ≤ n := by rw [← hpi, ← h.len]; exact pos_le l cp
  clear hG hI h h1 h2 h3 hpi
  obtain ⟨c0, c1, c2, c3⟩ := cells_4 H0.out.cbx
  go_enter Tryz.func19, Tryz.ntmps19
  go_wp2_with fail
  refine (HV1.out _ (HG.out.below H0.out.pat.low)).mono ?_
  rintro e w1 ⟨rfl, hb1⟩
  have H1 : Hid (PC W w1 bs w.heap.size st p k a n cap l ⟨3, cp, cd, cv⟩) := H0.out.below hb1
  clear hb1 c0 c1 c2 c3
  obtain ⟨c0, c1, c2, c3⟩ := cells_4 H1.out.cbx
  obtain ⟨s0, s1, s2, s3⟩ := cells_4 H1.out.pat.box
  go_wp2_with fail
  go_region_held3 (fun w' => w'.cell? ⟨bs, 1, none⟩ = some (.string p) ∧ w'.cell? ⟨bs, 2, none⟩ = some (.int .i64 k) ∧ w'.cell? ⟨w.heap.size, 0, none⟩ = some (.int .i64 3) ∧ w'.cell? ⟨w.heap.size, 1, none⟩ = some (.string cp)) (first | exact ⟨s1, s2, c0, c1⟩ | go_keep)
    (first
    | (go_at_call 37; refine (HV2.out _ (HG.out.below (below_drew H1.out.pat.low))).mono ?_; rintro e w2 ⟨rfl, hb2⟩
       have H2 : Hid (PC W w2 bs w.heap.size st p k a n cap l ⟨3, cp, cd, cv⟩) := H1.out.belowD hb2
       clear hb2 c0 c1 c2 c3 s0 s1 s2 s3
       obtain ⟨c0, c1, c2, c3⟩ := cells_4 H2.out.cbx
       obtain ⟨s0, s1, s2, s3⟩ := cells_4 H2.out.pat.box)
    | fail)
  go_wp2_with fail
  go_region_held3 (fun w' => w'.cell? ⟨bs, 3, none⟩ = some (.slice a n cap) ∧ w'.cell? ⟨w.heap.size, 1, none⟩ = some (.string cp)) (first | exact ⟨s3, c1⟩ | go_keep)
    (first
    | (go_at_call 38; refine (HF.out _ (H2.out.pat.ss.below (below_drew (Below.refl _ _)))).mono ?_; rintro e w3 ⟨rfl, hb3⟩
       have H3 : Hid (PC W w3 bs w.heap.size st p k a n cap l ⟨3, cp, cd, cv⟩) := H2.out.belowD hb3
       clear hb3 c0 c1 c2 c3 s0 s1 s2 s3
       obtain ⟨c0, c1, c2, c3⟩ := cells_4 H3.out.cbx
       obtain ⟨s0, s1, s2, s3⟩ := cells_4 H3.out.pat.box)
    | fail)
  go_wp2_with fail
  go_ret
  exact .inl ⟨HS.out, rfl, H3.out.pat.low⟩
set_option maxHeartbeats 6400000 in
set_option maxRecDepth 100000 in
theorem play_gone_bad (W w : World) (bs : Nat) (st : Int) (p : ByteArray) (k : Int) (a : Option Addr) (n cap : Nat) (l : List SeenT) (ck : Int) (cp cd : ByteArray) (cv : Int) (hG : Ground W) (hI : InvF l) (h : PAt W w bs st p k a n cap l) (h1 : covers 3 pRoot 3 cp = true) (h2 : covers k p 3 cp = true) (h3 : hasP l cp = true) (h4 : goB l cp = false) :
    Calls Tryz.prog 19 #[.pointer (some ⟨bs, 0, none⟩), .agg (chA ⟨3, cp, cd, cv⟩)] w fun e w' => PlayEnd W bs st p k l ⟨3, cp, cd, cv⟩ e w' := by
  have HS : Hid (stepF k p l ⟨3, cp, cd, cv⟩ = none) := by show _ = _; simp [stepF, h1, h2, h3, h4]
  have HG : Hid (Ground W) := hG
  have HI : Hid (InvF l) := hI
  have H0 : Hid (PC W (w.alloc (.cells (chA ⟨3, cp, cd, cv⟩) 46)) bs w.heap.size st p k a n cap l ⟨3, cp, cd, cv⟩) := ⟨h.below ((Below.refl _ _).alloc (Nat.le_refl _) _), heap_alloc_new _ _⟩
  have hn : n ≤ 64 := by rw [← h.len]; exact hI.len
  have HV1 : Hid (∀ w', Ground w' → Calls Tryz.prog 37 #[.int .i64 3, .string ⟨#[47]⟩, .int .i64 3, .string cp] w' fun e w'' => e = .returned (.bool true) ∧ Below w'.heap.size w' w'') := fun w' hg => by have := covers_any 3 3 pRoot cp w' hg; rw [h1] at this; exact this
  have HV2 : Hid (∀ w', Ground w' → Calls Tryz.prog 37 #[.int .i64 k, .string p, .int .i64 3, .string cp] w' fun e w'' => e = .returned (.bool true) ∧ Below w'.heap.size w' w'') := fun w' hg => by have := covers_any k 3 p cp w' hg; rw [h2] at this; exact this
  have HF : Hid (∀ w', Ss w' a l → Calls Tryz.prog 38 #[.slice a n cap, .string cp] w' fun e w'' => e = .returned (.tuple #[.int .i64 ((pos l cp : Nat) : Int), .bool true]) ∧ Below w'.heap.size w' w'') := fun w' hs => by
    have hz := isP_size' (cov_isP h2).1
    have := find_any a cap l cp w' hs (by have := hI.len; omega) (fun s hs => by have := isP_size' (hI.isp s hs); unfold maxLen; omega) (by unfold maxLen; omega) hI.asc
    rw [h.len, h3] at this
    refine this.mono ?_
    rintro e w'' ⟨i, rfl, hi, g1, g2, hb⟩
    rw [pos_eq cp l i (by rw [h.len]; exact hi) g1 g2]
    exact ⟨rfl, hb⟩
  obtain ⟨i, hpi⟩ : ∃ i, pos l cp = i := ⟨_, rfl⟩
  have HPI : Hid (pos l cp = i) := hpi
  rw [hpi] at HF
  have hin : i ≤ n := by rw [← hpi, ← h.len]; exact pos_le l cp
  obtain ⟨y, hy, hyp⟩ := has_pos hI.asc h3
  rw [hpi] at hy
  have HGO : Hid (∀ w', PC W w' bs w.heap.size st p k a n cap l ⟨3, cp, cd, cv⟩ → Calls Tryz.prog 43 #[.slice a n cap, .int .i64 i] w' fun e w'' => e = .returned (.bool false) ∧ Below w'.heap.size w' w'') := fun w' hp => by
    have := mayGo_any a cap n i l y w' (hG.below hp.pat.low) hp.pat.ss h.len (by omega) hy
    have e4 : mgB l i cp = false := by rw [← hpi, mg_go hI h3, h4]
    rw [hyp, e4] at this
    exact this
  have hilt : i < n := by rw [← h.len]; exact (List.getElem?_eq_some_iff.1 hy).1
  have hwi : IntKind.i64.wrap ((i : Int) + 1) = (i : Int) + 1 := by rw [IntKind.wrap_i64]; omega
  clear hy hyp
  clear hG hI h h1 h2 h3 hpi
  obtain ⟨c0, c1, c2, c3⟩ := cells_4 H0.out.cbx
  go_enter Tryz.func19, Tryz.ntmps19
  go_wp2_with fail
  refine (HV1.out _ (HG.out.below H0.out.pat.low)).mono ?_
  rintro e w1 ⟨rfl, hb1⟩
  have H1 : Hid (PC W w1 bs w.heap.size st p k a n cap l ⟨3, cp, cd, cv⟩) := H0.out.below hb1
  clear hb1 c0 c1 c2 c3
  obtain ⟨c0, c1, c2, c3⟩ := cells_4 H1.out.cbx
  obtain ⟨s0, s1, s2, s3⟩ := cells_4 H1.out.pat.box
  go_wp2_with fail
  go_region_held3 (fun w' => w'.cell? ⟨bs, 1, none⟩ = some (.string p) ∧ w'.cell? ⟨bs, 2, none⟩ = some (.int .i64 k) ∧ w'.cell? ⟨w.heap.size, 0, none⟩ = some (.int .i64 3) ∧ w'.cell? ⟨w.heap.size, 1, none⟩ = some (.string cp)) (first | exact ⟨s1, s2, c0, c1⟩ | go_keep)
    (first
    | (go_at_call 37; refine (HV2.out _ (HG.out.below (below_drew H1.out.pat.low))).mono ?_; rintro e w2 ⟨rfl, hb2⟩
       have H2 : Hid (PC W w2 bs w.heap.size st p k a n cap l ⟨3, cp, cd, cv⟩) := H1.out.belowD hb2
       clear hb2 c0 c1 c2 c3 s0 s1 s2 s3
       obtain ⟨c0, c1, c2, c3⟩ := cells_4 H2.out.cbx
       obtain ⟨s0, s1, s2, s3⟩ := cells_4 H2.out.pat.box)
    | fail)
  go_wp2_with fail
  go_region_held3 (fun w' => w'.cell? ⟨bs, 3, none⟩ = some (.slice a n cap) ∧ w'.cell? ⟨w.heap.size, 1, none⟩ = some (.string cp)) (first | exact ⟨s3, c1⟩ | go_keep)
    (first
    | (go_at_call 38; refine (HF.out _ (H2.out.pat.ss.below (below_drew (Below.refl _ _)))).mono ?_; rintro e w3 ⟨rfl, hb3⟩
       have H3 : Hid (PC W w3 bs w.heap.size st p k a n cap l ⟨3, cp, cd, cv⟩) := H2.out.belowD hb3
       clear hb3 c0 c1 c2 c3 s0 s1 s2 s3
       obtain ⟨c0, c1, c2, c3⟩ := cells_4 H3.out.cbx
       obtain ⟨s0, s1, s2, s3⟩ := cells_4 H3.out.pat.box)
    | fail)
  go_wp2_with fail
  refine (HGO.out _ H3.out).mono ?_
  rintro e w4 ⟨rfl, hb4⟩
  have H4 : Hid (PC W w4 bs w.heap.size st p k a n cap l ⟨3, cp, cd, cv⟩) := H3.out.below hb4
  clear hb4 c0 c1 c2 c3 s0 s1 s2 s3
  obtain ⟨c0, c1, c2, c3⟩ := cells_4 H4.out.cbx
  obtain ⟨s0, s1, s2, s3⟩ := cells_4 H4.out.pat.box
  go_wp2_with fail
  go_ret
  exact .inl ⟨HS.out, rfl, H4.out.pat.low⟩
end Go.Proofs.YtbamkdohaofgdaaGreatDoor
