/-
  heraldlaw10: only.
-/
import Derived.Test.YtlidkieljiebiabQOnlyP
import Derived.Deep.RegionHeld3
namespace Go.Proofs.Ytlidkieljiebiab
open Go.RowKit
set_option linter.unusedVariables false
set_option linter.unusedSimpArgs false

/-- The old blocks but for some are as they were. -/
structure Old (w : World) (T : Nat → Prop) (w' : World) : Prop where
  size : w.heap.size ≤ w'.heap.size
  block : ∀ j, j < w.heap.size → ¬ T j → w'.heap[j]? = w.heap[j]?
theorem Old.refl (w : World) (T : Nat → Prop) : Old w T w := ⟨Nat.le_refl _, fun _ _ _ => rfl⟩
theorem Old.drew {w w1 : World} {T : Nat → Prop} (h : Old w T w1) : Old w T w1.drew := ⟨h.size, h.block⟩
theorem Old.set {w w1 : World} {T : Nat → Prop} {g i : Nat} {x : Value} (h : Old w T w1) (hg : w.heap.size ≤ g) : Old w T (w1.setCell ⟨g, i, none⟩ x) := by
  have hc := Chg.set w1 ⟨g, i, none⟩ x
  exact ⟨Nat.le_trans h.size hc.size, fun j hj hT => (hc.block j (Nat.lt_of_lt_of_le hj h.size) (fun e => by have e : j = g := e; omega)).trans (h.block j hj hT)⟩
theorem Old.below {w w1 w2 : World} {T : Nat → Prop} (h : Old w T w1) (hb : Below w1.heap.size w1 w2) : Old w T w2 := ⟨Nat.le_trans h.size hb.size, fun j hj hT => (hb.block j (Nat.lt_of_lt_of_le hj h.size)).trans (h.block j hj hT)⟩
theorem Old.alloc {w w1 : World} {T : Nat → Prop} {o : Obj} (h : Old w T w1) : Old w T (w1.alloc o) := h.below ((Below.refl _ _).alloc (Nat.le_refl _) _)
theorem Old.chg {w w1 w2 : World} {T T' : Nat → Prop} (h : Old w T w1) (hc : Chg w1 w2 T') (hT : ∀ j, j < w.heap.size → T' j → T j) : Old w T w2 := ⟨Nat.le_trans h.size hc.size, fun j hj hn => (hc.block j (Nat.lt_of_lt_of_le hj h.size) (fun e => hn (hT j hj e))).trans (h.block j hj hn)⟩
theorem Old.cell {w w1 : World} {T : Nat → Prop} (h : Old w T w1) {j o : Nat} {v : Value} (hj : j < w.heap.size) (hT : ¬ T j) (hv : w.cell? ⟨j, o, none⟩ = some v) : w1.cell? ⟨j, o, none⟩ = some v := by
  rw [World.cell?_of_block (w := w) (h.block j hj hT)]
  exact hv
set_option maxHeartbeats 6400000 in
set_option maxRecDepth 100000 in
theorem only_any (room begin_ lo hi : Int) (v : Value) (l : List StT) (w : World) (h : StepsAt w (fun b => b < w.heap.size) v l) (hsm : ∀ x ∈ l, x.Small ∧ x.Tight) (hl : l.length ≤ maxLen) :
    Calls Try.prog 8 #[.int .i64 room, .int .i64 begin_, v, .int .i64 lo, .int .i64 hi] w fun e w' => e = .returned (.bool true) ∧ Below w.heap.size w w' := by
  unfold maxLen at hl
  obtain ⟨a, c, rfl, hc⟩ := RowAt.form h
  obtain ⟨m, hm⟩ : ∃ m, l.length = m := ⟨_, rfl⟩
  rw [hm] at h hl ⊢
  have HM : Hid (l.length = m) := hm
  have HL : Hid (StepsAt w (fun b => b < w.heap.size) (.slice a m c) l) := h
  have HSM : Hid (∀ x ∈ l, x.Small ∧ x.Tight) := hsm
  have HNUM : Hid (∀ x w, _) := fun x w => num_any x w
  have HKN : Hid (∀ w, _) := fun w => known_any w
  clear h hsm hm hc
  by_cases hz : newQ room begin_ = 0
  case neg =>
    have HN : Hid (∀ w, _) := fun w => new_no room begin_ w hz
    have HNR : Hid (∀ w, _) := fun w => refNew_no room begin_ w hz
    obtain ⟨z, hzz⟩ : ∃ z, newQ room begin_ = z := ⟨_, rfl⟩
    rw [hzz] at HN HNR hz
    have hz' : (z == 0) = false := by simpa using hz
    have hz2 : (z != 0) = true := by simpa using hz
    have HZ : Hid (¬ z = 0) := hz
    clear hzz
    go_enter Try.func8, Try.ntmps8
    go_wp2_with (first
      | (go_at_call 9; refine (HNR.out _).mono ?_; rintro e w1 ⟨rfl, hb1⟩
         have HB1 : Hid _ := hb1
         clear hb1)
      | (go_at_call 10; refine (HN.out _).mono ?_; rintro e w2 ⟨rfl, rfl⟩)
      | (go_at_call 11; refine (HNUM.out _ _).mono ?_; rintro e w3 ⟨rfl, rfl⟩)
      | (go_at_call 12; refine (HKN.out _).mono ?_; rintro e w4 ⟨rfl, hb4⟩
         have HB4 : Hid _ := hb4
         clear hb4)
      | fail)
    go_ret
    exact ⟨rfl, trans2 HB1.out (trans2 ((Below.refl _ _).alloc (Nat.le_refl _) _) HB4.out)⟩
  have hrb : 0 ≤ room ∧ 0 ≤ begin_ := by
    unfold newQ at hz
    split at hz
    · cases hz
    · split at hz
      · cases hz
      · omega
  obtain ⟨r, hr⟩ := Int.eq_ofNat_of_zero_le hrb.1
  obtain ⟨x, hx⟩ := Int.eq_ofNat_of_zero_le hrb.2
  subst hr hx
  have HN : Hid (∀ w S hS, _) := fun w S hS => new_ok (r : Int) (x : Int) w S hS hz
  have HNR : Hid (∀ w, _) := fun w => refNew_ok (r : Int) (x : Int) w hz
  simp only [Int.toNat_natCast] at HN
  clear hz hrb
  go_enter Try.func8, Try.ntmps8
  go_upto_region 2 with
    (first
    | (go_at_call 9; refine (HNR.out _).mono ?_; rintro e w1 ⟨rfl, hb1⟩
       have HB1 : Hid (Below w.heap.size w w1) := hb1
       clear hb1)
    | fail)
  obtain ⟨b, hb⟩ : ∃ b, w1.heap.size = b := ⟨_, rfl⟩
  obtain ⟨w2, hw2⟩ : ∃ w2, w1.alloc (.cells #[.int .i64 r, .int .i64 x, .slice none 0 0] 27) = w2 := ⟨_, rfl⟩
  rw [hw2, hb]
  have H2 : Hid (w2.heap[b]? = some (.cells #[.int .i64 r, .int .i64 x, .slice none 0 0] 27 (0, 0)) ∧ w2.heap.size = b + 1 ∧ Below w.heap.size w w2 ∧ w.heap.size ≤ b) := by
    show _ ∧ _
    rw [← hw2, ← hb]
    exact ⟨heap_alloc_new _ _, by simp, trans2 HB1.out ((Below.refl _ _).alloc (Nat.le_refl _) _), HB1.out.size⟩
  clear hw2 hb
  go_upto_region 3 with
    (first
    | (go_at_call 10; refine (HN.out _ (fun j => b + 1 < j) (by have := H2.out.2.1; omega)).mono ?_; rintro e w3 ⟨rfl, hq3, hb3⟩
       have HQ3 : Hid (QueueAt w3 (fun j => b + 1 < j) (b + 1) 0 ⟨r, 0, x, []⟩) := by rw [H2.out.2.1] at hq3; exact hq3
       have HB3 : Hid (Below w2.heap.size w2 w3) := hb3
       clear hq3 hb3)
    | fail)
  rw [H2.out.2.1]
  have H3 : Hid (w3.heap[b]? = some (.cells #[.int .i64 r, .int .i64 x, .slice none 0 0] 27 (0, 0)) ∧ Below w.heap.size w w3) := ⟨kept_block HB3.out H2.out.1, trans2 H2.out.2.2.1 HB3.out⟩
  go_upto_region 8 with
    (first
    | (go_at_call 11; refine (HNUM.out _ _).mono ?_; rintro e w9 ⟨rfl, hw9⟩; subst hw9)
    | fail)
  obtain ⟨D, hD⟩ : ∃ D, w9.heap.size = D := ⟨_, rfl⟩
  obtain ⟨w4, hw4⟩ : ∃ w4, w9.alloc (.cells #[.slice none 0 0, .slice none 0 0, .slice none 0 0, .slice none 0 0] 42) = w4 := ⟨_, rfl⟩
  rw [hw4, hD]
  have HI4 : Hid (OnI w w4 b (b + 1) D r x (fun j => b + 1 < j ∧ ¬ j = D) (.slice none 0 0) (.slice none 0 0) (.slice none 0 0) (.slice none 0 0) (.slice none 0 0) [] [] 0 []) := by
    have h1 := HQ3.out.lt
    have h2 := H2.out.2.2.2
    have hal : Below w9.heap.size w9 w4 := by rw [← hw4]; exact (Below.refl _ _).alloc (Nat.le_refl _) _
    have hsz : w4.heap.size = D + 1 := by rw [← hw4, ← hD]; simp
    refine OnI.start ((HQ3.out.mono (fun j hj hS => ⟨hS, by omega⟩) (fun hh => by have := hh.1; omega)).below hal) (by rw [← hw4, ← hD]; exact heap_alloc_new _ _) (kept_block hal H3.out.1) ⟨fun hh => by have := hh.1; omega, fun hh => hh.2 rfl, by omega, by omega, by omega⟩ (fun j hj => ⟨by omega, by omega⟩) (trans2 H3.out.2 hal) (by omega) (by omega) h2
  clear hw4 hD
  go_wp2_with fail
  go_loopw [16] (fun i wr => ∃ (q last f : Nat) (S : Nat → Prop) (v tv pv sv nv : Value) (L M : List Value) (ql : List ItT), i = .int .i64 q ∧ q ≤ m ∧ Hid (OnI w wr b (b + 1) D r last S v tv pv sv nv L M f ql)) (fun i _ => m - (intOf i).toNat)
  case atStart => exact ⟨0, x, 0, _, _, _, _, _, _, [], [], [], rfl, Nat.zero_le _, HI4⟩
  case round =>
    obtain ⟨q, last, f, S, v, tv, pv, sv, nv, L, M, ql, rfl, hq, HI⟩ := hrel
    clear HI4
    by_cases hlt : q < m ∧ q < 150
    · obtain ⟨hlt, h150⟩ := hlt
      have hqi : (q : Int) < (m : Int) := by omega
      have h150' : (q : Int) < 150 := by omega
      obtain ⟨y, hy⟩ : ∃ y, l[q]? = some y := ⟨l[q]'(by rw [HM.out]; exact hlt), List.getElem?_eq_getElem _⟩
      obtain ⟨sb, so, rfl, hPb, hsb, u1, u2, e1⟩ := RowAt.get (StepsAt.keep HL.out (Kp.of_below HI.out.below _)) hy
      obtain ⟨x0, x1, x2, x3, x4, xc, xp⟩ := e1
      have hsy := HSM.out y (List.mem_of_getElem? hy)
      obtain ⟨va, vc, hv, _⟩ := RowAt.form HI.out.sit.ref
      have hv : v = .slice va ql.length vc := hv
      subst hv
      obtain ⟨qn, hqn⟩ : ∃ z, ql.length = z := ⟨_, rfl⟩
      rw [hqn] at HI
      have HXC : Hid (TgsAt wr (fun j => j < w.heap.size) u1 y.cs ∧ PasAt wr (fun j => j < w.heap.size) u2 y.ps) := ⟨xc, xp⟩
      have HPL : Hid (∀ (w' : World) (S1 : Nat → Prop), Below wr.heap.size wr w' → Sit w' S1 (b + 1) D ⟨r, f, last, ql⟩ (.slice va qn vc) tv pv sv nv L M → Calls Try.prog 13 #[.pointer (some ⟨b + 1, 0, none⟩), rqV r last (.slice va qn vc), .agg #[.int .i64 y.kind, .int .i64 y.on, .int .i64 y.st, u1, u2], .pointer (some ⟨D, 0, none⟩)] w' fun e w'' => ∃ last' l', PlE w' S1 (b + 1) D (DeskK D tv pv sv nv L M) r last' l' e w'') := fun w' S1 hb' hs' => plays_any (b + 1) D ⟨r, f, last, ql⟩ y _ tv pv sv nv L M u1 u2 w' S1 (fun j => j < w.heap.size) hs' (TgsAt.keep HXC.out.1 (Kp.of_below hb' _)) (PasAt.keep HXC.out.2 (Kp.of_below hb' _)) hsy.1 hsy.2 (fun j hj => ⟨fun hh => by have := HI.out.lowK j hh; omega, by have := HI.out.lowB; omega⟩)
      obtain ⟨d0, d1, d2⟩ := cells_3 HI.out.box
      have HSW : Hid (∀ w', Old wr (fun j => j = b + 1 ∨ DeskK D tv pv sv nv L M j) w' → w'.cell? ⟨b, 0, none⟩ = some (.int .i64 r) ∧ w'.cell? ⟨b, 1, none⟩ = some (.int .i64 last) ∧ w'.cell? ⟨b, 2, none⟩ = some (.slice va qn vc) ∧ w'.cell? ⟨sb, so + q * 5, none⟩ = some (.int .i64 y.kind) ∧ w'.cell? ⟨sb, so + q * 5 + 1, none⟩ = some (.int .i64 y.on) ∧ w'.cell? ⟨sb, so + q * 5 + 2, none⟩ = some (.int .i64 y.st) ∧ w'.cell? ⟨sb, so + q * 5 + 3, none⟩ = some u1 ∧ w'.cell? ⟨sb, so + q * 5 + 4, none⟩ = some u2) := fun w' ho => by
        have hbl := lt_of_blk HI.out.box
        have hbn : ¬ (b = b + 1 ∨ DeskK D tv pv sv nv L M b) := fun e => e.elim HI.out.nb.2.1 HI.out.nb.2.2
        have hPb : sb < w.heap.size := hPb
        have hsn : ¬ (sb = b + 1 ∨ DeskK D tv pv sv nv L M sb) := fun e => e.elim (fun e => by have := HI.out.lowB; omega) (fun e => by have := HI.out.lowK sb e; omega)
        exact ⟨ho.cell hbl hbn d0, ho.cell hbl hbn d1, ho.cell hbl hbn d2, ho.cell hsb hsn x0, ho.cell hsb hsn x1, ho.cell hsb hsn x2, ho.cell hsb hsn x3, ho.cell hsb hsn x4⟩
      clear hy xc xp hqn
      go_wp2_with fail
      go_region_held3 (fun w' => w'.cell? ⟨b, 0, none⟩ = some (.int .i64 r) ∧ w'.cell? ⟨b, 1, none⟩ = some (.int .i64 last) ∧ w'.cell? ⟨b, 2, none⟩ = some (.slice va qn vc) ∧ w'.cell? ⟨sb, so + q * 5, none⟩ = some (.int .i64 y.kind) ∧ w'.cell? ⟨sb, so + q * 5 + 1, none⟩ = some (.int .i64 y.on) ∧ w'.cell? ⟨sb, so + q * 5 + 2, none⟩ = some (.int .i64 y.st) ∧ w'.cell? ⟨sb, so + q * 5 + 3, none⟩ = some u1 ∧ w'.cell? ⟨sb, so + q * 5 + 4, none⟩ = some u2)
        (first
        | (refine HSW.out _ ?_; repeat (first | exact HO4.out | exact Old.refl _ _ | refine Old.drew ?_ | refine Old.alloc ?_ | refine Old.set ?_ (by first | exact Nat.le_refl _ | exact HO4.out.size)))
        | go_keep)
        (first
        | (go_at_call 13
           refine (HPL.out wr.drew S (below_drew (Below.refl _ _)) (HI.out.sit.below (below_drew (Below.refl _ _)))).mono ?_
           rintro e w4 ⟨last', l', S', f', v', tv', pv', sv', nv', L', M', rfl, hs4, hS4, hc4, hk4⟩
           obtain ⟨a4, c4, hv4, _⟩ := RowAt.form hs4.ref
           have hv4 : v' = .slice a4 l'.length c4 := hv4
           subst hv4
           obtain ⟨n4, hn4⟩ : ∃ z, l'.length = z := ⟨_, rfl⟩
           rw [hn4] at hs4 ⊢
           have HS4 : Hid _ := hs4
           have HSS : Hid _ := hS4
           have HC4 : Hid _ := hc4
           have HK4 : Hid _ := hk4
           have HO4 : Hid (Old wr (fun j => j = b + 1 ∨ DeskK D tv pv sv nv L M j) w4) := (Old.drew (Old.refl _ _)).chg hc4 (fun j _ e => e)
           clear hs4 hS4 hc4 hk4 hn4)
        | (go_at_call 13
           refine (HPL.out (wr.drew.alloc (.cells #[.int .i64 0, .int .i64 0, .slice none 0 0] 27)) (fun j => S j ∧ ¬ j = wr.heap.size) ((below_drew (Below.refl _ _)).alloc (Nat.le_refl _) _) ((HI.out.sit.below (below_drew (Below.refl _ _))).begin ((Below.refl _ _).alloc (Nat.le_refl _) _) (fun j hj => by subst hj; exact ⟨Nat.le_refl _, by simp⟩))).mono ?_
           rintro e w4 ⟨last', l', S', f', v', tv', pv', sv', nv', L', M', rfl, hs4, hS4, hc4, hk4⟩
           obtain ⟨a4, c4, hv4, _⟩ := RowAt.form hs4.ref
           have hv4 : v' = .slice a4 l'.length c4 := hv4
           subst hv4
           obtain ⟨n4, hn4⟩ : ∃ z, l'.length = z := ⟨_, rfl⟩
           rw [hn4] at hs4 ⊢
           have HS4 : Hid _ := hs4
           have HSS : Hid _ := hS4
           have HC4 : Hid _ := hc4
           have HK4 : Hid _ := hk4
           have HO4 : Hid (Old wr (fun j => j = b + 1 ∨ DeskK D tv pv sv nv L M j) w4) := (Old.alloc (Old.drew (Old.refl _ _))).chg hc4 (fun j _ e => e)
           have HZ4 : Hid (w4.heap[wr.heap.size]? = some (.cells #[.int .i64 0, .int .i64 0, .slice none 0 0] 27 (0, 0))) := (hc4.block wr.heap.size (by simp) (fun e => e.elim (fun e => by have := HI.out.sit.q.lt; omega) (fun e => by have := HI.out.sit.desk.lt _ e; omega))).trans (heap_alloc_new wr.drew _)
           obtain ⟨z0, z1, z2⟩ := cells_3 HZ4.out
           have fz := free_of HZ4.out
           clear hs4 hS4 hc4 hk4 hn4)
        | fail)
      · have hbl := lt_of_blk HI.out.box
        have hbn : ¬ (b = b + 1 ∨ DeskK D tv pv sv nv L M b) := fun e => e.elim HI.out.nb.2.1 HI.out.nb.2.2
        have hx4 : w4.heap[b]? = _ := (HO4.out.block b hbl hbn).trans HI.out.box
        obtain ⟨w5, hw5⟩ : ∃ w5, w4.alloc (.cells #[.int .i64 r, .int .i64 last', .slice a4 n4 c4] 27) = w5 := ⟨_, rfl⟩
        have hal : Below w4.heap.size w4 w5 := by rw [← hw5]; exact (Below.refl _ _).alloc (Nat.le_refl _) _
        have hx5 := kept_block hal hx4
        have hy5 : w5.heap[w4.heap.size]? = some (.cells #[.int .i64 r, .int .i64 last', .slice a4 n4 c4] 27 (0, 0)) := by rw [← hw5]; exact heap_alloc_new _ _
        rw [hw5]
        have HE : Hid (OnI w (put_3 w5 b (.int .i64 r) (.int .i64 last') (.slice a4 n4 c4)) b (b + 1) D r last' S' (.slice a4 n4 c4) tv' pv' sv' nv' L' M' f' l') := HI.out.step HS4.out HSS.out (chg_undrew HC4.out) HK4.out hal
        obtain ⟨g0, hg0⟩ : ∃ g0, w4.heap.size = g0 := ⟨_, rfl⟩
        rw [hg0] at hy5 ⊢
        have hne : ∀ (w : World) i v o, (w.setCell ⟨b, i, none⟩ v).cell? ⟨g0, o, none⟩ = w.cell? ⟨g0, o, none⟩ := fun w i v o => cellN (by have := HO4.out.size; omega)
        obtain ⟨p0, p1, p2⟩ := cells_3 hx5
        obtain ⟨s0, s1, s2⟩ := cells_3 hy5
        have fp := free_of hx5
        clear hx4 hx5 hy5 hal hw5 hg0 hbl hbn d0 d1 d2 x0 x1 x2 x3 x4
        go_wp2_with fail
        go_roundw
        case rel => exact ⟨q + 1, last', f', S', _, tv', pv', sv', nv', L', M', l', by go_num, by omega, HE⟩
        case measure => simp [intOf]; omega
      · have hbl := lt_of_blk HI.out.box
        have hbn : ¬ (b = b + 1 ∨ DeskK D tv pv sv nv L M b) := fun e => e.elim HI.out.nb.2.1 HI.out.nb.2.2
        have hx4 : w4.heap[b]? = _ := (HO4.out.block b hbl hbn).trans HI.out.box
        obtain ⟨w5, hw5⟩ : ∃ w5, put_3 w4 wr.heap.size (.int .i64 r) (.int .i64 last') (.slice a4 n4 c4) = w5 := ⟨_, rfl⟩
        have hcp : Chg w4 w5 (fun j => j = wr.heap.size) := by rw [← hw5]; exact chg_put3 _ _ _ _ _
        have hx5 : w5.heap[b]? = _ := (hcp.block b (lt_of_blk hx4) (fun e => by have e : b = wr.heap.size := e; omega)).trans hx4
        have hy5 : w5.heap[wr.heap.size]? = some (.cells #[.int .i64 r, .int .i64 last', .slice a4 n4 c4] 27 (0, 0)) := by rw [← hw5]; exact fill_3 HZ4.out
        have hbe : Below wr.heap.size wr (wr.drew.alloc (.cells #[.int .i64 0, .int .i64 0, .slice none 0 0] 27)) := (below_drew (Below.refl _ _)).alloc (Nat.le_refl _) _
        have hcw : Chg wr w5 (fun j => j = b + 1 ∨ DeskK D tv pv sv nv L M j) := chg_ext ((Chg.of_below hbe _).trans HC4.out) hcp (fun j e => .inr (by have e : j = wr.heap.size := e; omega))
        have hkk : ∀ j, DeskK D tv' pv' sv' nv' L' M' j → DeskK D tv pv sv nv L M j ∨ wr.heap.size + 1 ≤ j := fun j hj => (HK4.out j hj).elim .inl (fun h => .inr (by simpa using h))
        have HE : Hid (OnI w (put_3 w5 b (.int .i64 r) (.int .i64 last') (.slice a4 n4 c4)) b (b + 1) D r last' S' (.slice a4 n4 c4) tv' pv' sv' nv' L' M' f' l') := HI.out.step (HS4.out.other hcp (fun j _ e => by
          have e : j = wr.heap.size := e
          exact ⟨fun hh => (HSS.out j hh).2 e, by have := HI.out.sit.q.lt; omega, fun hh => (hkk j hh).elim (fun h => by have := HI.out.sit.desk.lt j h; omega) (fun h => by omega)⟩)) (fun j hj => (HSS.out j hj).1) hcw (fun j hj => (hkk j hj).elim .inl (fun h => .inr (by omega))) (Below.refl _ _)
        rw [show ((w4.setCell ⟨wr.heap.size, 0, none⟩ (.int .i64 r)).setCell ⟨wr.heap.size, 1, none⟩ (.int .i64 last')).setCell ⟨wr.heap.size, 2, none⟩ (.slice a4 n4 c4) = w5 from hw5]
        obtain ⟨g0, hg0⟩ : ∃ g0, wr.heap.size = g0 := ⟨_, rfl⟩
        rw [hg0] at hy5 ⊢
        have hne : ∀ (w : World) i v o, (w.setCell ⟨b, i, none⟩ v).cell? ⟨g0, o, none⟩ = w.cell? ⟨g0, o, none⟩ := fun w i v o => cellN (by omega)
        obtain ⟨p0, p1, p2⟩ := cells_3 hx5
        obtain ⟨s0, s1, s2⟩ := cells_3 hy5
        have fp := free_of hx5
        clear hx4 hx5 hy5 hcp hbe hcw hkk hw5 hg0 hbl hbn d0 d1 d2 x0 x1 x2 x3 x4 z0 z1 z2 fz
        go_wp2_with fail
        go_roundw
        case rel => exact ⟨q + 1, last', f', S', _, tv', pv', sv', nv', L', M', l', by go_num, by omega, HE⟩
        case measure => simp [intOf]; omega
    · have HBW : Hid (Below w.heap.size w wr) := HI.out.below
      by_cases h1 : q < m
      · have h2 : ¬ q < 150 := fun h => hlt ⟨h1, h⟩
        have h1' : (q : Int) < (m : Int) := by omega
        have h2' : ¬ (q : Int) < 150 := by omega
        clear hlt
        go_wp2_with fail
        refine Calls.mono (HKN.out _) ?_
        rintro e w9 ⟨rfl, hb9⟩
        have HB9 : Hid _ := hb9
        clear hb9
        go_wp2_with fail
        go_ret
        exact ⟨rfl, trans2 HBW.out HB9.out⟩
      · have h1' : ¬ (q : Int) < (m : Int) := by omega
        clear hlt
        go_wp2_with fail
        refine Calls.mono (HKN.out _) ?_
        rintro e w9 ⟨rfl, hb9⟩
        have HB9 : Hid _ := hb9
        clear hb9
        go_wp2_with fail
        go_ret
        exact ⟨rfl, trans2 HBW.out HB9.out⟩
end Go.Proofs.Ytlidkieljiebiab
