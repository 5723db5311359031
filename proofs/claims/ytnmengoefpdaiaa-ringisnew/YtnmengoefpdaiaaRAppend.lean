/-
  ring: Append.
-/
import Derived.Test.YtnmengoefpdaiaaRPush
import Derived.Test.YtnmengoefpdaiaaROwn
namespace Go.Proofs.Ytnmengoefpdaiaa
open Go.RowKit
set_option linter.unusedVariables false
set_option linter.unusedSimpArgs false

set_option maxHeartbeats 3200000 in
theorem append_no (p : Option Addr) (R : RingT) (e : EnT) (x : Value) (w : World) (h : RP w p R) (hc : R.may e ≠ 0) : Calls Try.prog 15 #[.pointer p, e.val x] w fun e' w' => e' = .returned (.int .i64 (R.may e)) ∧ Below w.heap.size w w' := by
  have HO : Hid (∀ w', Below w.heap.size w w' → _) := fun w' hb => orZero_any p R w' (h.below hb)
  have HM : Hid (∀ w' b, RingAt w' b R → _) := fun w' b hr => mayFollow_any b R e x w' hr
  obtain ⟨c, hcc⟩ : ∃ c, R.may e = c := ⟨_, rfl⟩
  rw [hcc] at hc HM ⊢
  clear h hcc
  go_enter Try.func15, Try.ntmps15
  go_wp2_with fail
  refine Calls.mono (HO.out _ ((Below.refl _ _).alloc (Nat.le_refl _) _)) ?_
  rintro e' w1 ⟨b, rfl, hr, hb, hp⟩
  obtain ⟨q0, q1, q2, q3, q4, q5⟩ := cells_6 (kept_block hb (heap_alloc_new _ _))
  have HB : Hid (Below w.heap.size w w1) := trans2 ((Below.refl _ _).alloc (Nat.le_refl _) _) hb
  have HM1 : Hid _ := HM.out _ _ hr
  clear hr hb hp HM HO
  go_wp2_with fail
  refine Calls.mono HM1.out ?_
  rintro e' w2 ⟨rfl, hb⟩
  have HB2 : Hid (Below w.heap.size w w2) := trans2 HB.out hb
  clear hb
  go_wp2_with fail
  go_ret
  exact ⟨rfl, HB2.out⟩
set_option maxHeartbeats 3200000 in
theorem append_room (b : Nat) (R : RingT) (e : EnT) (a : Option Addr) (n c : Nat) (w : World) (h : RingAt w b R) (hc : R.may e = 0) (hl : R.l.length ≠ R.room) (hn : e.ops.length = n) (ho : Os w a e.ops) (hnb : ∀ b' o', a = some ⟨b', o', none⟩ → b' ≠ b) (hs : e.Small) : Calls Try.prog 15 #[.pointer (some ⟨b, 0, none⟩), e.val (.slice a n c)] w fun e' w' => e' = .returned (.int .i64 0) ∧ RStep w w' (some ⟨b, 0, none⟩) (R.app e) := by
  obtain ⟨L, hL⟩ : ∃ L, R.last + 1 = L := ⟨_, rfl⟩
  obtain ⟨z1, z2, z3, z4, z5⟩ := may_zero hc
  have hes : e.s = (L : Int) := by rw [z3, ← hL]; omega
  clear z1 z2 z3 z4 z5
  obtain ⟨s, v, k, se, rq, ops⟩ := e
  simp only at hes hn ho
  subst hes
  have HX : Hid (RingAt w b R) := h
  have HO : Hid (∀ w', Below w.heap.size w w' → _) := fun w' hb => orZero_some b w'
  have HM : Hid (∀ w', Below w.heap.size w w' → _) := fun w' hb => mayFollow_any b R ⟨L, v, k, se, rq, ops⟩ (.slice a n c) w' (h.below hb)
  have HF : Hid (∀ w', Below w.heap.size w w' → _) := fun w' hb => isFull_any b R w' (h.below hb)
  have HOW : Hid (∀ w', Os w' a ops → _) := fun w' h' => own_any ⟨L, v, k, se, rq, ops⟩ a c n w' hn h' hs
  have HOS : Hid (Os w a ops) := ho
  have HNB : Hid (∀ b' o', a = some ⟨b', o', none⟩ → b' ≠ b) := hnb
  have hLm : L ≤ 2147483647 := by
    have h1 : R.last ≤ 2147483647 := h.ok.max
    have h2 := (may_zero hc).1
    omega
  have hr0 : 0 < R.room := by have h1 := h.ok.fits; omega
  have HL : Hid (R.last + 1 = L) := hL
  have HC : Hid (R.may ⟨L, v, k, se, rq, ops⟩ = 0) := hc
  clear hL
  rw [hc] at HM
  rw [show decide (R.l.length = R.room) = false by simpa using hl] at HF
  clear h ho hnb hc
  go_enter Try.func15, Try.ntmps15
  go_wp2_with fail
  refine Calls.mono (HO.out _ ((Below.refl _ _).alloc (Nat.le_refl _) _)) ?_
  rintro e' w1 ⟨rfl, rfl⟩
  have HB1 : Hid (Below w.heap.size w (w.alloc (Obj.cells #[.int .i64 L, .int .i64 v, .int .i64 k, .int .i64 se, .int .i64 rq, .slice a n c] 38))) := (Below.refl _ _).alloc (Nat.le_refl _) _
  go_wp2_with fail
  refine Calls.mono (HM.out _ HB1.out) ?_
  rintro e' w2 ⟨rfl, hb⟩
  obtain ⟨q0, q1, q2, q3, q4, q5⟩ := cells_6 (kept_block hb (heap_alloc_new _ _))
  have HB2 : Hid (Below w.heap.size w w2) := trans2 HB1.out hb
  have HBA : Hid (w2.heap[w.heap.size]? = some (.cells #[.int .i64 L, .int .i64 v, .int .i64 k, .int .i64 se, .int .i64 rq, .slice a n c] 38 (0, 0))) := kept_block hb (heap_alloc_new _ _)
  clear hb
  go_wp2_with fail
  refine Calls.mono (HF.out _ HB2.out) ?_
  rintro e' w3 ⟨rfl, n3, rfl⟩
  have HB3 : Hid (Below w.heap.size w (w2.drewN n3)) := below_drewN HB2.out _
  have c8 := (HX.out.below HB3.out).last
  have f8 := (HX.out.below HB3.out).free
  go_wp2_with fail
  obtain ⟨W, hW⟩ : ∃ W, W = (w2.drewN n3).setCell ⟨b, 388, none⟩ (.int .i64 L) := ⟨_, rfl⟩
  rw [← hW]
  have HW : Hid (W = (w2.drewN n3).setCell ⟨b, 388, none⟩ (.int .i64 L)) := hW
  have hlt : w.heap.size ≠ b := by have := HX.out.lt; omega
  obtain ⟨cs, hbx, hsz⟩ := (HX.out.below HB3.out).box
  have HBX : Hid (W.heap[b]? = some (.cells (cs.setIfInBounds 388 (.int .i64 L)) 61 (0, 0)) ∧ cs.size = 389) := ⟨by rw [hW]; exact heap_setCell_same _ _ _ _ _ _ hbx, hsz⟩
  have c8 : W.cell? ⟨b, 388, none⟩ = some (.int .i64 L) := by rw [hW, cell_set hbx (by omega), if_pos rfl]
  have c4 : W.cell? ⟨b, 384, none⟩ = some (.int .i64 R.room) := by rw [hW, cell_set hbx (by omega), if_neg (by decide)]; exact (HX.out.below HB3.out).room
  have q0 : W.cell? ⟨w.heap.size, 0, none⟩ = some (.int .i64 L) := by rw [hW, cellN hlt]; exact q0
  have q1 : W.cell? ⟨w.heap.size, 1, none⟩ = some (.int .i64 v) := by rw [hW, cellN hlt]; exact q1
  have q2 : W.cell? ⟨w.heap.size, 2, none⟩ = some (.int .i64 k) := by rw [hW, cellN hlt]; exact q2
  have q3 : W.cell? ⟨w.heap.size, 3, none⟩ = some (.int .i64 se) := by rw [hW, cellN hlt]; exact q3
  have q4 : W.cell? ⟨w.heap.size, 4, none⟩ = some (.int .i64 rq) := by rw [hW, cellN hlt]; exact q4
  have q5 : W.cell? ⟨w.heap.size, 5, none⟩ = some (.slice a n c) := by rw [hW, cellN hlt]; exact q5
  have HBW : Hid (Chg w W (fun k => k = b)) := by
    show Chg _ _ _
    rw [hW]
    exact (Chg.of_below HB3.out _).trans (Chg.set _ _ _)
  have HOW1 : Hid (∀ w', Below W.heap.size W w' → _) := fun w' hb => HOW.out w' ((HOS.out.chg HBW.out.size (fun b' o' ha hb' => HBW.out.block b' hb' (HNB.out b' o' ha))).below hb)
  obtain ⟨o, ho⟩ : ∃ o, L % R.room * 6 = o := ⟨_, rfl⟩
  have HAT : Hid (∀ w', Below W.heap.size W w' → _) := fun w' hb => at_raw b R.room L w' (by rw [hb.cell (p := ⟨b, 384, none⟩) (lt_of_blk HBX.out.1)]; exact c4) hr0 HX.out.ok.room hLm
  rw [ho] at HAT
  have HO' : Hid (L % R.room * 6 = o) := ho
  have hom : o ≤ 378 := by have h1 := Nat.mod_lt L hr0; have h2 := HX.out.ok.room; omega
  have k0 : ∀ (w' : World) (v : Value), (w'.setCell ⟨b, o, none⟩ v).cell? ⟨b, 388, none⟩ = w'.cell? ⟨b, 388, none⟩ := fun w' v => cell_ne (by omega)
  have k1 : ∀ (w' : World) (v : Value), (w'.setCell ⟨b, o + 1, none⟩ v).cell? ⟨b, 388, none⟩ = w'.cell? ⟨b, 388, none⟩ := fun w' v => cell_ne (by omega)
  have k2 : ∀ (w' : World) (v : Value), (w'.setCell ⟨b, o + 2, none⟩ v).cell? ⟨b, 388, none⟩ = w'.cell? ⟨b, 388, none⟩ := fun w' v => cell_ne (by omega)
  have k3 : ∀ (w' : World) (v : Value), (w'.setCell ⟨b, o + 3, none⟩ v).cell? ⟨b, 388, none⟩ = w'.cell? ⟨b, 388, none⟩ := fun w' v => cell_ne (by omega)
  have k4 : ∀ (w' : World) (v : Value), (w'.setCell ⟨b, o + 4, none⟩ v).cell? ⟨b, 388, none⟩ = w'.cell? ⟨b, 388, none⟩ := fun w' v => cell_ne (by omega)
  have k5 : ∀ (w' : World) (v : Value), (w'.setCell ⟨b, o + 5, none⟩ v).cell? ⟨b, 388, none⟩ = w'.cell? ⟨b, 388, none⟩ := fun w' v => cell_ne (by omega)
  have HAL : Hid (w.heap.size < W.heap.size) := by
    show _ < _
    have := lt_of_blk HBA.out
    rw [hW]
    simpa using this
  clear hW hbx hsz HOW HOS HM HF HO f8 ho c4
  go_region_held3 (fun w' => w'.cell? ⟨w.heap.size, 0, none⟩ = some (.int .i64 L) ∧ w'.cell? ⟨w.heap.size, 1, none⟩ = some (.int .i64 v) ∧ w'.cell? ⟨w.heap.size, 2, none⟩ = some (.int .i64 k) ∧ w'.cell? ⟨w.heap.size, 3, none⟩ = some (.int .i64 se) ∧ w'.cell? ⟨w.heap.size, 4, none⟩ = some (.int .i64 rq) ∧ w'.cell? ⟨w.heap.size, 5, none⟩ = some (.slice a n c) ∧ w'.cell? ⟨b, 388, none⟩ = some (.int .i64 L)) (first | (simp only [World.cell?_drew, World.cell?_drewN, cellN hlt, k0, k1, k2, k3, k4, k5, q0, q1, q2, q3, q4, q5, c8, and_self]; done) | fail)
    (first
    | (go_at_call 24; refine (HOW1.out _ (by first | exact below_drewN (Below.refl _ _) _ | exact below_drew (Below.refl _ _))).mono ?_
       rintro e' w5 ⟨x, rfl, ho5, hb5, hx5⟩
       have HB5 : Hid (Below W.heap.size W w5) := trans2 (below_drewN (Below.refl _ _) _) hb5
       have HO5 : Hid (OwnOps w5 x ops) := ho5
       have HX5 : Hid (∀ k, x.ownBlock = some k → W.heap.size ≤ k) := hx5
       have HK5 : Hid (w5.heap[b]? = some (.cells (cs.setIfInBounds 388 (.int .i64 L)) 61 (0, 0))) := kept_block HB5.out HBX.out.1
       have hq : ∀ o v, W.cell? ⟨w.heap.size, o, none⟩ = some v → w5.cell? ⟨w.heap.size, o, none⟩ = some v := fun o v hv => by rw [HB5.out.cell (p := ⟨w.heap.size, o, none⟩) HAL.out]; exact hv
       have q0 := hq _ _ q0
       have q1 := hq _ _ q1
       have q2 := hq _ _ q2
       have q3 := hq _ _ q3
       have q4 := hq _ _ q4
       have q5 := hq _ _ q5
       have c8 : w5.cell? ⟨b, 388, none⟩ = some (.int .i64 L) := by rw [HB5.out.cell (p := ⟨b, 388, none⟩) (lt_of_blk HBX.out.1)]; exact c8
       obtain ⟨y0, y1, y2, y3, y4, y5, p0, p1, p2, p3, p4, p5⟩ := six_cells HK5.out (o := o) (by rw [Array.size_setIfInBounds, HBX.out.2]; omega)
       have f5 := free_blk HK5.out
       obtain ⟨xa, xn, xc, rfl⟩ : ∃ xa xn xc, x = .slice xa xn xc := by obtain ⟨xa, xc, h, _⟩ := owns_form ho5; exact ⟨_, _, _, h⟩
       clear ho5 hb5 hx5 hq)
    | (go_at_call 25; refine (HAT.out _ (by first | exact below_drewN (Below.refl _ _) _ | exact below_drew (Below.refl _ _))).mono ?_
       rintro e' w4 ⟨rfl, j4, rfl⟩))
  go_wp2_with fail
  go_ret
  refine ⟨rfl, .inr ⟨b, rfl, ?_⟩, ?_⟩
  · have ho' := HO'.out
    have hL' := HL.out
    have hbb := HX.out.below HB3.out
    have hW := HW.out
    refine RingAt.pushed (x := .slice xa xn xc) HX.out HC.out hs ?_ ⟨_, putE_box HK5.out, ?_⟩ ?_ ?_ ?_ ?_ ?_ ?_
    · exact (HBW.out.trans (Chg.of_below HB5.out _)).trans (putE_chg _ _ _ _ _ _ _ _ _)
    · simpa using HBX.out.2
    · exact owns_chg HO5.out (putE_chg _ _ _ _ _ _ _ _ _) (fun q hq e => by have := HX5.out q hq; have := lt_of_blk HBX.out.1; omega)
    · intro i u hi h1 h2 h3 hv
      rw [hL', ho'] at hi
      rw [putE_out hi, HB5.out.cell (p := ⟨b, i, none⟩) (lt_of_blk HBX.out.1), hW, cell_ne (by omega), HB3.out.cell (p := ⟨b, i, none⟩) HX.out.lt]
      exact hv
    · intro j u hj
      rw [hL', ho']
      exact putE_in HK5.out (by rw [Array.size_setIfInBounds, HBX.out.2]; omega) j u hj
    · rw [putE_out (by omega), HB5.out.cell (p := ⟨b, 385, none⟩) (lt_of_blk HBX.out.1), hW, cell_ne (by omega), hbb.floor]
      unfold RingT.app
      rw [if_neg hl]
    · rw [putE_out (by omega), HB5.out.cell (p := ⟨b, 386, none⟩) (lt_of_blk HBX.out.1), hW, cell_ne (by omega), hbb.of]
      unfold RingT.app
      rw [if_neg hl]
    · rw [putE_out (by omega), c8, hL']
  · exact ((HBW.out.trans (Chg.of_below HB5.out _)).trans (putE_chg _ _ _ _ _ _ _ _ _)).mono (fun k _ e => by rw [e])
end Go.Proofs.Ytnmengoefpdaiaa
