/-
  view: Settled, Now, Settle.
-/
import Derived.Test.YtlbhnlpdijhmlaaVSrv2
import Derived.Test.YtlbhnlpdijhmlaaVRef
namespace Go.Proofs.Ytlbhnlpdijhmlaa
open Go.RowKit Go.MuLone
set_option linter.unusedVariables false
set_option linter.unusedSimpArgs false

theorem settled_nil (w : World) : Calls Try.prog 16 #[.pointer none] w fun e w' => e = .returned (.bool false) ∧ w' = w := by
  go_enter_defers Try.func16, Try.ntmps16
  go_wp2_with (go_at_call 24; refine (isNone_nil _).mono ?_; rintro e w1 ⟨rfl, rfl⟩)
  exact ⟨_, results_tmp rfl _ _ _, rfl, rfl⟩
set_option maxHeartbeats 1600000 in
theorem settled_box (b : Nat) (V : SvT) (v : Value) (w : World) (h : SrvAt w b 0 V v) :
    Calls Try.prog 16 #[.pointer (some ⟨b, 0, none⟩)] w fun e w' => e = .returned (.bool V.set) ∧ w' = w := by
  have HS : Hid (SrvAt w b 0 V v) := h
  by_cases h0 : V.nodes = 0
  · have HE : Hid (V.set = false) := (h.ok.none h0).2
    have HN : Hid (V.nodes == 0) := by show _ = true; simpa using h0
    clear h h0
    go_enter_defers Try.func16, Try.ntmps16
    go_wp2_with (go_at_call 24; refine (isNone_any b 0 V v _ HS.out).mono ?_; rintro e w1 ⟨rfl, rfl⟩; rw [HN.out])
    exact ⟨_, results_tmp rfl _ _ _, by rw [HE.out]; rfl, rfl⟩
  · have HN : Hid ((V.nodes == 0) = false) := by show _ = false; simpa using h0
    have HL : Hid (SrvAt (w.setCell ⟨b, 1, none⟩ (.int .i32 1)) b 1 V v) := h.locked 1
    have c4 := (cells_5 HL.out.box).2.2.2.2
    clear h h0
    go_enter_defers Try.func16, Try.ntmps16
    go_wp2_with (first
      | (go_at_call 24; refine (isNone_any b 0 V v _ HS.out).mono ?_; rintro e w1 ⟨rfl, rfl⟩; rw [HN.out])
      | (go_at_call 25; refine (lock_free Try.muLib ⟨b, 1, none⟩ _ HS.out.lock (HS.out.free 1)).mono ?_; rintro e w2 ⟨rfl, rfl⟩))
    refine leaves_cons (f := 26) (args := #[.pointer (some ⟨b, 1, none⟩)]) (by simp) (by simp [go_sem]) ?_
    refine (unlock_deferred Try.muLib ⟨b, 1, none⟩ .returning _ HL.out.lock (HL.out.free 1)).mono ?_
    rintro e u' w'' ⟨rfl, rfl, rfl⟩
    exact ⟨_, results_tmp rfl _ _ _, rfl, HS.out.back⟩
theorem settlep_nil (n k : Int) (w : World) : Calls Try.prog 12 #[.pointer none, .int .i64 n, .int .i64 k] w fun e w' => e = .returned (.int .i64 120) ∧ w' = w := by
  go_enter_defers Try.func12, Try.ntmps12
  go_wp2_with (go_at_call 24; refine (isNone_nil _).mono ?_; rintro e w1 ⟨rfl, rfl⟩)
  exact ⟨_, results_tmp rfl _ _ _, rfl, rfl⟩
theorem SvT.sett_none {V : SvT} (h : V.l = []) (n k : Int) : V.settC n k = 120 ∧ V.sett n k = V := by
  have e : V.settC n k = 120 := by unfold SvT.settC; rw [if_pos (.inl h)]
  exact ⟨e, by unfold SvT.sett; rw [if_neg (by rw [e]; decide)]⟩
set_option maxHeartbeats 1600000 in
theorem settlep_box (b : Nat) (V : SvT) (v : Value) (n k : Int) (w : World) (h : SrvAt w b 0 V v) :
    Calls Try.prog 12 #[.pointer (some ⟨b, 0, none⟩), .int .i64 n, .int .i64 k] w fun e w' => e = .returned (.int .i64 (V.settC n k)) ∧ SrvAt w' b 0 (V.sett n k) v ∧ Chg w w' (fun j => j = b) := by
  have HS : Hid (SrvAt w b 0 V v) := h
  by_cases h0 : V.nodes = 0
  · have HE : Hid _ := SvT.sett_none (h.ok.none h0).1 n k
    have HN : Hid (V.nodes == 0) := by show _ = true; simpa using h0
    clear h h0
    go_enter_defers Try.func12, Try.ntmps12
    go_wp2_with (go_at_call 24; refine (isNone_any b 0 V v _ HS.out).mono ?_; rintro e w1 ⟨rfl, rfl⟩; rw [HN.out])
    exact ⟨_, results_tmp rfl _ _ _, by rw [HE.out.1]; rfl, by rw [HE.out.2]; exact HS.out, Chg.refl _ _⟩
  · have HN : Hid ((V.nodes == 0) = false) := by show _ = false; simpa using h0
    have HL : Hid (SrvAt (w.setCell ⟨b, 1, none⟩ (.int .i32 1)) b 1 V v) := h.locked 1
    have HT : Hid _ := settle_any b 1 V v n k _ HL.out (h.ok.some h0)
    clear h h0
    go_enter_defers Try.func12, Try.ntmps12
    go_wp2_with (first
      | (go_at_call 24; refine (isNone_any b 0 V v _ HS.out).mono ?_; rintro e w1 ⟨rfl, rfl⟩; rw [HN.out])
      | (go_at_call 25; refine (lock_free Try.muLib ⟨b, 1, none⟩ _ HS.out.lock (HS.out.free 1)).mono ?_; rintro e w2 ⟨rfl, rfl⟩)
      | (go_at_call 28; refine Calls.mono HT.out ?_; rintro e w3 ⟨rfl, h3, hc3⟩
         have HS3 : Hid (SrvAt w3 b 1 (V.sett n k) v) := h3
         have HC3 : Hid (Chg (w1.setCell ⟨b, 1, none⟩ (.int .i32 1)) w3 (fun j => j = b)) := hc3
         clear h3 hc3))
    refine leaves_cons (f := 26) (args := #[.pointer (some ⟨b, 1, none⟩)]) (by simp) (by simp [go_sem]) ?_
    refine (unlock_deferred Try.muLib ⟨b, 1, none⟩ .returning _ HS3.out.lock (HS3.out.free 1)).mono ?_
    rintro e u' w'' ⟨rfl, rfl, rfl⟩
    exact ⟨_, results_tmp rfl _ _ _, rfl, HS3.out.locked 0, ((Chg.set _ _ _).trans HC3.out).trans (Chg.set _ _ _)⟩
set_option maxHeartbeats 1600000 in
theorem nowp_nil (w : World) : Calls Try.prog 11 #[.pointer none] w fun e w' => e = .returned (vwV ⟨0, 0, 0⟩) ∧ Below w.heap.size w w' := by
  have hB : Below w.heap.size w (w.alloc (.cells #[.int .i64 0, .int .i64 0, .int .i64 0] 28)) := (Below.refl _ _).alloc (Nat.le_refl _) _
  have hn1 : (w.alloc (.cells #[.int .i64 0, .int .i64 0, .int .i64 0] 28)).heap[w.heap.size]? = some (.cells #[.int .i64 0, .int .i64 0, .int .i64 0] 28 (0, 0)) := heap_alloc_new _ _
  obtain ⟨W, hWW⟩ : ∃ W, w.alloc (.cells #[.int .i64 0, .int .i64 0, .int .i64 0] 28) = W := ⟨_, rfl⟩
  rw [hWW] at hB hn1
  have HW : Hid (w.alloc (.cells #[.int .i64 0, .int .i64 0, .int .i64 0] 28) = W) := hWW
  have HB : Hid (Below w.heap.size w W) := hB
  have HX : Hid (W.heap[w.heap.size]? = some (.cells #[.int .i64 0, .int .i64 0, .int .i64 0] 28 (0, 0))) := hn1
  obtain ⟨r0, r1, r2⟩ := cells_3 hn1
  have fr : ∀ o, W.frozen? ⟨w.heap.size, o, none⟩ = false := free_of hn1
  clear hWW hB hn1
  go_enter_defers Try.func11, Try.ntmps11
  go_upto_region 1 with fail
  rw [HW.out]
  go_wp2_with (go_at_call 24; refine (isNone_nil _).mono ?_; rintro e w1 ⟨rfl, rfl⟩)
  exact ⟨_, results_cell rfl _ _ w.heap.size 28 _ (0, 0) _ rfl (fill_3 HX.out) Try.underlying28 rfl (by kernel_rfl), rfl, fillB_3 HB.out (Nat.le_refl _)⟩
set_option maxHeartbeats 1600000 in
theorem nowp_box (b : Nat) (V : SvT) (v : Value) (w : World) (h : SrvAt w b 0 V v) :
    Calls Try.prog 11 #[.pointer (some ⟨b, 0, none⟩)] w fun e w' => e = .returned (vwV (lastV V.l)) ∧ SrvAt w' b 0 V v ∧ Chg w w' (fun j => j = b) := by
  have hB : Below w.heap.size w (w.alloc (.cells #[.int .i64 0, .int .i64 0, .int .i64 0] 28)) := (Below.refl _ _).alloc (Nat.le_refl _) _
  have hn1 : (w.alloc (.cells #[.int .i64 0, .int .i64 0, .int .i64 0] 28)).heap[w.heap.size]? = some (.cells #[.int .i64 0, .int .i64 0, .int .i64 0] 28 (0, 0)) := heap_alloc_new _ _
  have hlt := h.lt
  have hvb : ∀ j, v.ownBlock = some j → j < w.heap.size := fun j hj => (row_block h.row j hj).2
  obtain ⟨W, hWW⟩ : ∃ W, w.alloc (.cells #[.int .i64 0, .int .i64 0, .int .i64 0] 28) = W := ⟨_, rfl⟩
  rw [hWW] at hB hn1
  have HW : Hid (w.alloc (.cells #[.int .i64 0, .int .i64 0, .int .i64 0] 28) = W) := hWW
  have HB : Hid (Below w.heap.size w W) := hB
  have HX : Hid (W.heap[w.heap.size]? = some (.cells #[.int .i64 0, .int .i64 0, .int .i64 0] 28 (0, 0))) := hn1
  have HS : Hid (SrvAt W b 0 V v) := h.below hB
  have HLT : Hid (b < w.heap.size) := hlt
  have HVB : Hid (∀ j, v.ownBlock = some j → j < w.heap.size) := hvb
  by_cases h0 : V.nodes = 0
  · have HE : Hid (lastV V.l = ⟨0, 0, 0⟩) := zero_last (h.ok.none h0).1
    have HN : Hid (V.nodes == 0) := by show _ = true; simpa using h0
    obtain ⟨r0, r1, r2⟩ := cells_3 hn1
    have fr : ∀ o, W.frozen? ⟨w.heap.size, o, none⟩ = false := free_of hn1
    clear h h0 hWW hB hn1 hlt hvb
    go_enter_defers Try.func11, Try.ntmps11
    go_upto_region 1 with fail
    rw [HW.out]
    go_wp2_with (go_at_call 24; refine (isNone_any b 0 V v _ HS.out).mono ?_; rintro e w1 ⟨rfl, rfl⟩; rw [HN.out])
    refine ⟨_, results_cell rfl _ _ w.heap.size 28 _ (0, 0) _ rfl (fill_3 HX.out) Try.underlying28 rfl (by kernel_rfl), by rw [HE.out], HS.out.keep (Kp.of_chg (chg_put3 _ _ _ _ _) (fun j _ hj e => ?_)), Chg.of_below (fillB_3 HB.out (Nat.le_refl _)) _⟩
    have e : j = w.heap.size := e
    rcases hj with rfl | hj
    · have := HLT.out; omega
    · have := HVB.out j hj; omega
  · have HN : Hid ((V.nodes == 0) = false) := by show _ = false; simpa using h0
    have hl := HS.out.locked 1
    obtain ⟨W1, hW1⟩ : ∃ W1, W.setCell ⟨b, 1, none⟩ (.int .i32 1) = W1 := ⟨_, rfl⟩
    have hx1 : W1.heap[w.heap.size]? = some (.cells #[.int .i64 0, .int .i64 0, .int .i64 0] 28 (0, 0)) := by rw [← hW1]; exact other_blk hn1 (by omega)
    have hcw : Chg w W1 (fun j => j = b) := by rw [← hW1]; exact (Chg.of_below hB _).trans (Chg.set _ _ _)
    rw [hW1] at hl
    have HW1 : Hid (W.setCell ⟨b, 1, none⟩ (.int .i32 1) = W1) := hW1
    have HL : Hid (SrvAt W1 b 1 V v) := hl
    have HX1 : Hid (W1.heap[w.heap.size]? = some (.cells #[.int .i64 0, .int .i64 0, .int .i64 0] 28 (0, 0))) := hx1
    have HC1 : Hid (Chg w W1 (fun j => j = b)) := hcw
    have HNW : Hid _ := now_any b 1 V v W1 HL.out (h.ok.some h0)
    clear h h0 hWW hB hn1 hlt hvb hl hW1 hx1 hcw
    go_enter_defers Try.func11, Try.ntmps11
    go_upto_region 1 with fail
    rw [HW.out]
    go_upto_region 5 with (first
      | (go_at_call 24; refine (isNone_any b 0 V v _ HS.out).mono ?_; rintro e w1 ⟨rfl, rfl⟩; rw [HN.out])
      | (go_at_call 25; refine (lock_free Try.muLib ⟨b, 1, none⟩ _ HS.out.lock (HS.out.free 1)).mono ?_; rintro e w2 ⟨rfl, hw2⟩; rw [HW1.out] at hw2; subst hw2))
    go_wp2_with fail
    refine Calls.mono HNW.out ?_
    rintro e w3 ⟨rfl, hb3⟩
    have HB3 : Hid (Below w2.heap.size w2 w3) := hb3
    have hx3 := kept_block hb3 HX1.out
    have HX3 : Hid (w3.heap[w.heap.size]? = some (.cells #[.int .i64 0, .int .i64 0, .int .i64 0] 28 (0, 0))) := hx3
    obtain ⟨r0, r1, r2⟩ := cells_3 hx3
    have fr : ∀ o, w3.frozen? ⟨w.heap.size, o, none⟩ = false := free_of hx3
    clear hb3 hx3
    go_wp2_with fail
    have h4 : SrvAt (put_3 w3 w.heap.size (.int .i64 (lastV V.l).n) (.int .i64 (lastV V.l).p) (.int .i64 (lastV V.l).b)) b 1 V v := by
      refine (HL.out.below HB3.out).keep (Kp.of_chg (chg_put3 _ _ _ _ _) (fun j _ hj e => ?_))
      have e : j = w.heap.size := e
      rcases hj with rfl | hj
      · have := HLT.out; omega
      · have := HVB.out j hj; omega
    refine leaves_cons (f := 26) (args := #[.pointer (some ⟨b, 1, none⟩)]) (by simp) (by simp [go_sem]) ?_
    refine (unlock_deferred Try.muLib ⟨b, 1, none⟩ .returning _ h4.lock (h4.free 1)).mono ?_
    rintro e u' w'' ⟨rfl, rfl, rfl⟩
    refine ⟨_, results_cell rfl _ _ w.heap.size 28 _ (0, 0) _ rfl (other_blk (fill_3 HX3.out) (by have := HLT.out; omega)) Try.underlying28 rfl (by kernel_rfl), rfl, h4.locked 0, ?_⟩
    have hc2 : Chg w (put_3 w3 w.heap.size (.int .i64 (lastV V.l).n) (.int .i64 (lastV V.l).p) (.int .i64 (lastV V.l).b)) (fun j => j = b) := by
      have := (HC1.out.trans (Chg.of_below HB3.out _))
      exact ⟨this.os, this.tape, this.output, Nat.le_trans this.size (chg_put3 w3 _ _ _ _).size, fun j hj hn => ((chg_put3 w3 w.heap.size _ _ _).block j (Nat.lt_of_lt_of_le hj this.size) (by show j ≠ _; omega)).trans (this.block j hj hn)⟩
    exact hc2.trans (Chg.set _ _ _)
end Go.Proofs.Ytlbhnlpdijhmlaa
