/-
  QueueNothing: the walk.
-/
import Derived.Test.YtlidkieljiebiaaQZero
import Derived.Test.YtlidkieljiebiaaQKnown
namespace Go.Proofs.Ytlidkieljiebiaa
open Go.RowKit
set_option linter.unusedVariables false
set_option linter.unusedSimpArgs false

set_option maxHeartbeats 12800000 in
set_option maxRecDepth 100000 in
theorem QueueNothing_walk (v : Value) (l : List StT) (w : World) (h : StepsAt w (fun b => b < w.heap.size) v l) (hsm : ∀ x ∈ l, x.Small ∧ x.Tight) (hl : l.length ≤ maxLen) :
    Calls Try.prog 7 #[v] w fun e w' => e = .returned (.bool true) ∧ Below w.heap.size w w' := by
  unfold maxLen at hl
  obtain ⟨a, c, rfl, hc⟩ := RowAt.form h
  obtain ⟨m, hm⟩ : ∃ m, l.length = m := ⟨_, rfl⟩
  rw [hm] at h hl ⊢
  have HM : Hid (l.length = m) := hm
  have HL : Hid (StepsAt w (fun b => b < w.heap.size) (.slice a m c) l) := h
  have HSM : Hid (∀ x ∈ l, x.Small ∧ x.Tight) := hsm
  have HKN : Hid (∀ w, _) := fun w => known_any w
  clear h hsm hm hc
  have hz := (zero_of_info zero_queue).1
  have hs := (zero_of_info zero_queue).2
  obtain ⟨Z, hZ⟩ : ∃ Z, Z = quCs 0 0 := ⟨_, rfl⟩
  rw [← hZ] at hz
  have HZ : Hid (Z = quCs 0 0) := hZ
  clear hZ
  obtain ⟨r, hr⟩ : ∃ r : Nat, r = 0 := ⟨_, rfl⟩
  obtain ⟨x, hx⟩ : ∃ x : Nat, x = 0 := ⟨_, rfl⟩
  have HR0 : Hid (r = 0 ∧ x = 0) := ⟨hr, hx⟩
  clear hr hx
  go_enter Try.func7, Try.ntmps7
  go_upto_region 5 with fail
  obtain ⟨W, hW⟩ : ∃ W, ((w.alloc (.cells Z 65)).alloc (.cells #[.int .i64 0, .int .i64 0, .slice none 0 0] 67)).alloc (.cells #[.slice none 0 0, .slice none 0 0, .slice none 0 0, .slice none 0 0] 72) = W := ⟨_, rfl⟩
  rw [hW]
  obtain ⟨B, hB⟩ : ∃ B, w.heap.size = B := ⟨_, rfl⟩
  obtain ⟨b, hb⟩ : ∃ b, B + 1 = b := ⟨_, rfl⟩
  obtain ⟨D, hD⟩ : ∃ D, b + 1 = D := ⟨_, rfl⟩
  simp only [hB, hb, hD, World.size_alloc]
  have HI4 : Hid (OnI w W b B D r x (fun j => D < j) (.slice none 0 0) (.slice none 0 0) (.slice none 0 0) (.slice none 0 0) (.slice none 0 0) [] [] 0 []) := by
    show OnI _ _ _ _ _ _ _ _ _ _ _ _ _ _ _ _ _
    obtain ⟨rfl, rfl⟩ := HR0.out
    subst hb hD
    have h1 := (queue_new (w := w) (S := fun j => B + 1 + 1 < j) (r := 0) (x := 0) HZ.out (by decide) (by decide) (by omega))
    have hb1 : Below (w.alloc (.cells Z 65)).heap.size (w.alloc (.cells Z 65)) W := by rw [← hW]; exact ((Below.refl _ _).alloc (Nat.le_refl _) _).alloc (by simp) _
    have hbw : Below w.heap.size w W := trans2 ((Below.refl _ _).alloc (Nat.le_refl _) _) hb1
    have hsz : W.heap.size = B + 1 + 1 + 1 := by rw [← hW, ← hB]; simp
    rw [hB] at h1
    refine OnI.start (h1.below hb1) ?_ ?_ ⟨by omega, by omega, by omega, by omega, by omega⟩ (fun j hj => by show B + 1 + 1 < j; omega) hbw (by omega) (by omega) (by omega)
    · rw [← hW, ← hB]; exact heap_new' (by simp)
    · rw [← hW, ← hB]; exact new_old (heap_new' (by simp)) _
  clear hW hB hb hD hz hs
  go_wp2_with fail
  go_loopw [7] (fun i wr => ∃ (q f : Nat) (S : Nat → Prop) (tv pv sv nv : Value) (L M : List Value), i = .int .i64 q ∧ q ≤ m ∧ Hid (OnI w wr b B D r x S (.slice none 0 0) tv pv sv nv L M f [])) (fun i _ => m - (intOf i).toNat)
  case atStart => exact ⟨0, 0, _, _, _, _, _, [], [], rfl, Nat.zero_le _, HI4⟩
  case round =>
    obtain ⟨q, f, S, tv, pv, sv, nv, L, M, rfl, hq, HI⟩ := hrel
    clear HI4
    by_cases hlt : q < m ∧ q < 150
    · obtain ⟨hlt, h150⟩ := hlt
      have hqi : (q : Int) < (m : Int) := by omega
      have h150' : (q : Int) < 150 := by omega
      obtain ⟨y, hy⟩ : ∃ y, l[q]? = some y := ⟨l[q]'(by rw [HM.out]; exact hlt), List.getElem?_eq_getElem _⟩
      obtain ⟨sb, so, rfl, hPb, hsb, u1, u2, e1⟩ := RowAt.get HL.out hy
      obtain ⟨x0, x1, x2, x3, x4, xc, xp⟩ := e1
      have HPB : Hid (sb < w.heap.size) := hPb
      have HSY : Hid (y.Small ∧ y.Tight) := HSM.out y (List.mem_of_getElem? hy)
      have StepLists : Hid (∀ w', Below w.heap.size w w' → TgsAt w' (fun j => j < w.heap.size) u1 y.cs ∧ PasAt w' (fun j => j < w.heap.size) u2 y.ps) := fun w' hb' => ⟨TgsAt.keep xc (Kp.of_below hb' _), PasAt.keep xp (Kp.of_below hb' _)⟩
      have StepCells : Hid (∀ w', Below w.heap.size w w' → w'.cell? ⟨sb, so + q * 5, none⟩ = some (.int .i64 y.kind) ∧ w'.cell? ⟨sb, so + q * 5 + 1, none⟩ = some (.int .i64 y.on) ∧ w'.cell? ⟨sb, so + q * 5 + 2, none⟩ = some (.int .i64 y.st) ∧ w'.cell? ⟨sb, so + q * 5 + 3, none⟩ = some u1 ∧ w'.cell? ⟨sb, so + q * 5 + 4, none⟩ = some u2) := fun w' hb' => by
        have hk := hb'.block sb hPb
        refine ⟨?_, ?_, ?_, ?_, ?_⟩
        all_goals (rw [World.cell?_of_block (w := w) hk]; assumption)
      clear hy xc xp hPb hsb x0 x1 x2 x3 x4
      have HPLa : Hid (∀ (w' : World) (S1 : Nat → Prop), Below wr.heap.size wr w' → Sit w' S1 B D ⟨r, f, x, []⟩ (.slice none 0 0) tv pv sv nv L M → Calls Try.prog 25 #[.pointer none, rqV r x (.slice none 0 0), .agg #[.int .i64 y.kind, .int .i64 y.on, .int .i64 y.st, u1, u2], .pointer (some ⟨D, 0, none⟩)] w' fun e w'' => PlE w' S1 B D (DeskK D tv pv sv nv L M) r x [] e w'') := fun w' S1 hb' hs' => plays_nil B D ⟨r, f, x, []⟩ y _ tv pv sv nv L M u1 u2 w' S1 (fun j => j < w.heap.size) ⟨HR0.out.1, HR0.out.2, rfl⟩ hs' (TgsAt.keep (StepLists.out wr HI.out.below).1 (Kp.of_below hb' _)) (PasAt.keep (StepLists.out wr HI.out.below).2 (Kp.of_below hb' _)) HSY.out.1 HSY.out.2 (fun j hj => ⟨fun hh => by have := HI.out.lowK j hh; omega, by have := HI.out.lowB; omega⟩)
      have HSWa : Hid (∀ w', Old wr (fun j => j = B ∨ DeskK D tv pv sv nv L M j) w' → w'.cell? ⟨b, 0, none⟩ = some (.int .i64 r) ∧ w'.cell? ⟨b, 1, none⟩ = some (.int .i64 x) ∧ w'.cell? ⟨b, 2, none⟩ = some (.slice none 0 0) ∧ w'.cell? ⟨sb, so + q * 5, none⟩ = some (.int .i64 y.kind) ∧ w'.cell? ⟨sb, so + q * 5 + 1, none⟩ = some (.int .i64 y.on) ∧ w'.cell? ⟨sb, so + q * 5 + 2, none⟩ = some (.int .i64 y.st) ∧ w'.cell? ⟨sb, so + q * 5 + 3, none⟩ = some u1 ∧ w'.cell? ⟨sb, so + q * 5 + 4, none⟩ = some u2) := fun w' ho => by
        obtain ⟨d0, d1, d2⟩ := cells_3 HI.out.box
        obtain ⟨x0, x1, x2, x3, x4⟩ := StepCells.out wr HI.out.below
        have hbl := lt_of_blk HI.out.box
        have hbn : ¬ (b = B ∨ DeskK D tv pv sv nv L M b) := fun e => e.elim HI.out.nb.2.1 HI.out.nb.2.2
        have hPb := HPB.out
        have hsb : sb < wr.heap.size := Nat.lt_of_lt_of_le hPb HI.out.below.size
        have hsn : ¬ (sb = B ∨ DeskK D tv pv sv nv L M sb) := fun e => e.elim (fun e => by have := HI.out.lowB; omega) (fun e => by have := HI.out.lowK sb e; omega)
        exact ⟨ho.cell hbl hbn d0, ho.cell hbl hbn d1, ho.cell hbl hbn d2, ho.cell hsb hsn x0, ho.cell hsb hsn x1, ho.cell hsb hsn x2, ho.cell hsb hsn x3, ho.cell hsb hsn x4⟩
      obtain ⟨d0, d1, d2, x0, x1, x2, x3, x4⟩ := HSWa.out wr (Old.refl _ _)
      go_wp2_with fail
      go_region_held3 (fun w' => w'.cell? ⟨b, 0, none⟩ = some (.int .i64 r) ∧ w'.cell? ⟨b, 1, none⟩ = some (.int .i64 x) ∧ w'.cell? ⟨b, 2, none⟩ = some (.slice none 0 0) ∧ w'.cell? ⟨sb, so + q * 5, none⟩ = some (.int .i64 y.kind) ∧ w'.cell? ⟨sb, so + q * 5 + 1, none⟩ = some (.int .i64 y.on) ∧ w'.cell? ⟨sb, so + q * 5 + 2, none⟩ = some (.int .i64 y.st) ∧ w'.cell? ⟨sb, so + q * 5 + 3, none⟩ = some u1 ∧ w'.cell? ⟨sb, so + q * 5 + 4, none⟩ = some u2)
        (first
        | (refine HSWa.out _ ?_; repeat (first | exact HO4a.out | exact Old.refl _ _ | refine Old.drew ?_ | refine Old.alloc ?_ | refine Old.set ?_ (by first | exact Nat.le_refl _ | exact HO4a.out.size)))
        | go_keep)
        (first
        | (go_at_call 25
           refine (HPLa.out wr.drew S (below_drew (Below.refl _ _)) (HI.out.sit.below (below_drew (Below.refl _ _)))).mono ?_
           rintro e w4a ⟨Sa, fa, va, tva, pva, sva, nva, La, Ma, rfl, hs4, hS4, hc4, hk4⟩
           obtain ⟨a4a, c4a, hv4, _⟩ := RowAt.form hs4.ref
           have hv4 : va = .slice a4a 0 c4a := hv4
           subst hv4
           have HS4a : Hid _ := hs4
           have HSSa : Hid _ := hS4
           have HC4a : Hid _ := hc4
           have HK4a : Hid _ := hk4
           have HO4a : Hid (Old wr (fun j => j = B ∨ DeskK D tv pv sv nv L M j) w4a) := (Old.drew (Old.refl _ _)).chg hc4 (fun j _ e => e)
           clear hs4 hS4 hc4 hk4)
        | (go_at_call 25
           refine (HPLa.out (wr.drew.alloc (.cells #[.int .i64 0, .int .i64 0, .slice none 0 0] 67)) (fun j => S j ∧ ¬ j = wr.heap.size) ((below_drew (Below.refl _ _)).alloc (Nat.le_refl _) _) ((HI.out.sit.below (below_drew (Below.refl _ _))).begin ((Below.refl _ _).alloc (Nat.le_refl _) _) (fun j hj => by subst hj; exact ⟨Nat.le_refl _, by simp⟩))).mono ?_
           rintro e w4a ⟨Sa, fa, va, tva, pva, sva, nva, La, Ma, rfl, hs4, hS4, hc4, hk4⟩
           obtain ⟨a4a, c4a, hv4, _⟩ := RowAt.form hs4.ref
           have hv4 : va = .slice a4a 0 c4a := hv4
           subst hv4
           have HS4a : Hid _ := hs4
           have HSSa : Hid _ := hS4
           have HC4a : Hid _ := hc4
           have HK4a : Hid _ := hk4
           have HO4a : Hid (Old wr (fun j => j = B ∨ DeskK D tv pv sv nv L M j) w4a) := (Old.alloc (Old.drew (Old.refl _ _))).chg hc4 (fun j _ e => e)
           have HZ4a : Hid (w4a.heap[wr.heap.size]? = some (.cells #[.int .i64 0, .int .i64 0, .slice none 0 0] 67 (0, 0))) := (hc4.block wr.heap.size (by simp) (fun e => e.elim (fun e => by have := HI.out.sit.q.lt; omega) (fun e => by have := HI.out.sit.desk.lt _ e; omega))).trans (heap_alloc_new wr.drew _)
           obtain ⟨z0, z1, z2⟩ := cells_3 HZ4a.out
           have fz := free_of HZ4a.out
           clear hs4 hS4 hc4 hk4)
        | fail)
      · obtain ⟨w5a, hw5⟩ : ∃ w5, w4a.alloc (.cells #[.int .i64 r, .int .i64 x, .slice a4a 0 c4a] 67) = w5 := ⟨_, rfl⟩
        have hal : Below w4a.heap.size w4a w5a := by rw [← hw5]; exact (Below.refl _ _).alloc (Nat.le_refl _) _
        rw [hw5]
        have HEa : Hid (OnI w w5a b B D r x Sa (.slice none 0 0) tva pva sva nva La Ma fa []) := HI.out.next HS4a.out HSSa.out (chg_undrew HC4a.out) HK4a.out hal
        clear hal hw5 d0 d1 d2 x0 x1 x2 x3 x4 HPLa HSWa
        have HPLb : Hid (∀ (w' : World) (S1 : Nat → Prop), Below w5a.heap.size w5a w' → Sit w' S1 B D ⟨r, fa, x, []⟩ (.slice none 0 0) tva pva sva nva La Ma → Calls Try.prog 25 #[.pointer (some ⟨B, 0, none⟩), rqV r x (.slice none 0 0), .agg #[.int .i64 y.kind, .int .i64 y.on, .int .i64 y.st, u1, u2], .pointer (some ⟨D, 0, none⟩)] w' fun e w'' => PlE w' S1 B D (DeskK D tva pva sva nva La Ma) r x [] e w'') := fun w' S1 hb' hs' => plays_zero B D ⟨r, fa, x, []⟩ y _ tva pva sva nva La Ma u1 u2 w' S1 (fun j => j < w.heap.size) ⟨HR0.out.1, HR0.out.2, rfl⟩ hs' (TgsAt.keep (StepLists.out w5a HEa.out.below).1 (Kp.of_below hb' _)) (PasAt.keep (StepLists.out w5a HEa.out.below).2 (Kp.of_below hb' _)) HSY.out.1 HSY.out.2 (fun j hj => ⟨fun hh => by have := HEa.out.lowK j hh; omega, by have := HEa.out.lowB; omega⟩)
        have HSWb : Hid (∀ w', Old w5a (fun j => j = B ∨ DeskK D tva pva sva nva La Ma j) w' → w'.cell? ⟨b, 0, none⟩ = some (.int .i64 r) ∧ w'.cell? ⟨b, 1, none⟩ = some (.int .i64 x) ∧ w'.cell? ⟨b, 2, none⟩ = some (.slice none 0 0) ∧ w'.cell? ⟨sb, so + q * 5, none⟩ = some (.int .i64 y.kind) ∧ w'.cell? ⟨sb, so + q * 5 + 1, none⟩ = some (.int .i64 y.on) ∧ w'.cell? ⟨sb, so + q * 5 + 2, none⟩ = some (.int .i64 y.st) ∧ w'.cell? ⟨sb, so + q * 5 + 3, none⟩ = some u1 ∧ w'.cell? ⟨sb, so + q * 5 + 4, none⟩ = some u2) := fun w' ho => by
          obtain ⟨d0, d1, d2⟩ := cells_3 HEa.out.box
          obtain ⟨x0, x1, x2, x3, x4⟩ := StepCells.out w5a HEa.out.below
          have hbl := lt_of_blk HEa.out.box
          have hbn : ¬ (b = B ∨ DeskK D tva pva sva nva La Ma b) := fun e => e.elim HEa.out.nb.2.1 HEa.out.nb.2.2
          have hPb := HPB.out
          have hsb : sb < w5a.heap.size := Nat.lt_of_lt_of_le hPb HEa.out.below.size
          have hsn : ¬ (sb = B ∨ DeskK D tva pva sva nva La Ma sb) := fun e => e.elim (fun e => by have := HEa.out.lowB; omega) (fun e => by have := HEa.out.lowK sb e; omega)
          exact ⟨ho.cell hbl hbn d0, ho.cell hbl hbn d1, ho.cell hbl hbn d2, ho.cell hsb hsn x0, ho.cell hsb hsn x1, ho.cell hsb hsn x2, ho.cell hsb hsn x3, ho.cell hsb hsn x4⟩
        obtain ⟨d0, d1, d2, x0, x1, x2, x3, x4⟩ := HSWb.out w5a (Old.refl _ _)
        go_wp2_with fail
        go_region_held3 (fun w' => w'.cell? ⟨b, 0, none⟩ = some (.int .i64 r) ∧ w'.cell? ⟨b, 1, none⟩ = some (.int .i64 x) ∧ w'.cell? ⟨b, 2, none⟩ = some (.slice none 0 0) ∧ w'.cell? ⟨sb, so + q * 5, none⟩ = some (.int .i64 y.kind) ∧ w'.cell? ⟨sb, so + q * 5 + 1, none⟩ = some (.int .i64 y.on) ∧ w'.cell? ⟨sb, so + q * 5 + 2, none⟩ = some (.int .i64 y.st) ∧ w'.cell? ⟨sb, so + q * 5 + 3, none⟩ = some u1 ∧ w'.cell? ⟨sb, so + q * 5 + 4, none⟩ = some u2)
          (first
          | (refine HSWb.out _ ?_; repeat (first | exact HO4b.out | exact Old.refl _ _ | refine Old.drew ?_ | refine Old.alloc ?_ | refine Old.set ?_ (by first | exact Nat.le_refl _ | exact HO4b.out.size)))
          | go_keep)
          (first
          | (go_at_call 25
             refine (HPLb.out w5a.drew Sa (below_drew (Below.refl _ _)) (HEa.out.sit.below (below_drew (Below.refl _ _)))).mono ?_
             rintro e w4b ⟨Sb, fb, vb, tvb, pvb, svb, nvb, Lb, Mb, rfl, hs4, hS4, hc4, hk4⟩
             obtain ⟨a4b, c4b, hv4, _⟩ := RowAt.form hs4.ref
             have hv4 : vb = .slice a4b 0 c4b := hv4
             subst hv4
             have HS4b : Hid _ := hs4
             have HSSb : Hid _ := hS4
             have HC4b : Hid _ := hc4
             have HK4b : Hid _ := hk4
             have HO4b : Hid (Old w5a (fun j => j = B ∨ DeskK D tva pva sva nva La Ma j) w4b) := (Old.drew (Old.refl _ _)).chg hc4 (fun j _ e => e)
             clear hs4 hS4 hc4 hk4)
          | (go_at_call 25
             refine (HPLb.out (w5a.drew.alloc (.cells #[.int .i64 0, .int .i64 0, .slice none 0 0] 67)) (fun j => Sa j ∧ ¬ j = w5a.heap.size) ((below_drew (Below.refl _ _)).alloc (Nat.le_refl _) _) ((HEa.out.sit.below (below_drew (Below.refl _ _))).begin ((Below.refl _ _).alloc (Nat.le_refl _) _) (fun j hj => by subst hj; exact ⟨Nat.le_refl _, by simp⟩))).mono ?_
             rintro e w4b ⟨Sb, fb, vb, tvb, pvb, svb, nvb, Lb, Mb, rfl, hs4, hS4, hc4, hk4⟩
             obtain ⟨a4b, c4b, hv4, _⟩ := RowAt.form hs4.ref
             have hv4 : vb = .slice a4b 0 c4b := hv4
             subst hv4
             have HS4b : Hid _ := hs4
             have HSSb : Hid _ := hS4
             have HC4b : Hid _ := hc4
             have HK4b : Hid _ := hk4
             have HO4b : Hid (Old w5a (fun j => j = B ∨ DeskK D tva pva sva nva La Ma j) w4b) := (Old.alloc (Old.drew (Old.refl _ _))).chg hc4 (fun j _ e => e)
             have HZ4b : Hid (w4b.heap[w5a.heap.size]? = some (.cells #[.int .i64 0, .int .i64 0, .slice none 0 0] 67 (0, 0))) := (hc4.block w5a.heap.size (by simp) (fun e => e.elim (fun e => by have := HEa.out.sit.q.lt; omega) (fun e => by have := HEa.out.sit.desk.lt _ e; omega))).trans (heap_alloc_new w5a.drew _)
             obtain ⟨z0, z1, z2⟩ := cells_3 HZ4b.out
             have fz := free_of HZ4b.out
             clear hs4 hS4 hc4 hk4)
          | fail)
        · obtain ⟨w5b, hw5⟩ : ∃ w5, w4b.alloc (.cells #[.int .i64 r, .int .i64 x, .slice a4b 0 c4b] 67) = w5 := ⟨_, rfl⟩
          have hal : Below w4b.heap.size w4b w5b := by rw [← hw5]; exact (Below.refl _ _).alloc (Nat.le_refl _) _
          rw [hw5]
          have HEb : Hid (OnI w w5b b B D r x Sb (.slice none 0 0) tvb pvb svb nvb Lb Mb fb []) := HEa.out.next HS4b.out HSSb.out (chg_undrew HC4b.out) HK4b.out hal
          clear hal hw5 d0 d1 d2 x0 x1 x2 x3 x4 HPLb HSWb
          go_wp2_with fail
          go_roundw
          case rel => exact ⟨q + 1, fb, Sb, tvb, pvb, svb, nvb, Lb, Mb, by go_num, by omega, HEb⟩
          case measure => simp [intOf]; omega
        · obtain ⟨w5b, hw5⟩ : ∃ w5, put_3 w4b w5a.heap.size (.int .i64 r) (.int .i64 x) (.slice a4b 0 c4b) = w5 := ⟨_, rfl⟩
          have hcp : Chg w4b w5b (fun j => j = w5a.heap.size) := by rw [← hw5]; exact chg_put3 _ _ _ _ _
          have hbe : Below w5a.heap.size w5a (w5a.drew.alloc (.cells #[.int .i64 0, .int .i64 0, .slice none 0 0] 67)) := (below_drew (Below.refl _ _)).alloc (Nat.le_refl _) _
          have hcw : Chg w5a w5b (fun j => j = B ∨ DeskK D tva pva sva nva La Ma j) := chg_ext ((Chg.of_below hbe _).trans HC4b.out) hcp (fun j e => .inr (by have e : j = w5a.heap.size := e; omega))
          have hkk : ∀ j, DeskK D tvb pvb svb nvb Lb Mb j → DeskK D tva pva sva nva La Ma j ∨ w5a.heap.size + 1 ≤ j := fun j hj => (HK4b.out j hj).elim .inl (fun h => .inr (by simpa using h))
          have HEb : Hid (OnI w w5b b B D r x Sb (.slice none 0 0) tvb pvb svb nvb Lb Mb fb []) := HEa.out.next (HS4b.out.other hcp (fun j _ e => by
            have e : j = w5a.heap.size := e
            exact ⟨fun hh => (HSSb.out j hh).2 e, by have := HEa.out.sit.q.lt; omega, fun hh => (hkk j hh).elim (fun h => by have := HEa.out.sit.desk.lt j h; omega) (fun h => by omega)⟩)) (fun j hj => (HSSb.out j hj).1) hcw (fun j hj => (hkk j hj).elim .inl (fun h => .inr (by omega))) (Below.refl _ _)
          rw [show ((w4b.setCell ⟨w5a.heap.size, 0, none⟩ (.int .i64 r)).setCell ⟨w5a.heap.size, 1, none⟩ (.int .i64 x)).setCell ⟨w5a.heap.size, 2, none⟩ (.slice a4b 0 c4b) = w5b from hw5]
          clear hcp hbe hcw hkk hw5 d0 d1 d2 x0 x1 x2 x3 x4 z0 z1 z2 fz HPLb HSWb
          go_wp2_with fail
          go_roundw
          case rel => exact ⟨q + 1, fb, Sb, tvb, pvb, svb, nvb, Lb, Mb, by go_num, by omega, HEb⟩
          case measure => simp [intOf]; omega
      · obtain ⟨w5a, hw5⟩ : ∃ w5, put_3 w4a wr.heap.size (.int .i64 r) (.int .i64 x) (.slice a4a 0 c4a) = w5 := ⟨_, rfl⟩
        have hcp : Chg w4a w5a (fun j => j = wr.heap.size) := by rw [← hw5]; exact chg_put3 _ _ _ _ _
        have hbe : Below wr.heap.size wr (wr.drew.alloc (.cells #[.int .i64 0, .int .i64 0, .slice none 0 0] 67)) := (below_drew (Below.refl _ _)).alloc (Nat.le_refl _) _
        have hcw : Chg wr w5a (fun j => j = B ∨ DeskK D tv pv sv nv L M j) := chg_ext ((Chg.of_below hbe _).trans HC4a.out) hcp (fun j e => .inr (by have e : j = wr.heap.size := e; omega))
        have hkk : ∀ j, DeskK D tva pva sva nva La Ma j → DeskK D tv pv sv nv L M j ∨ wr.heap.size + 1 ≤ j := fun j hj => (HK4a.out j hj).elim .inl (fun h => .inr (by simpa using h))
        have HEa : Hid (OnI w w5a b B D r x Sa (.slice none 0 0) tva pva sva nva La Ma fa []) := HI.out.next (HS4a.out.other hcp (fun j _ e => by
          have e : j = wr.heap.size := e
          exact ⟨fun hh => (HSSa.out j hh).2 e, by have := HI.out.sit.q.lt; omega, fun hh => (hkk j hh).elim (fun h => by have := HI.out.sit.desk.lt j h; omega) (fun h => by omega)⟩)) (fun j hj => (HSSa.out j hj).1) hcw (fun j hj => (hkk j hj).elim .inl (fun h => .inr (by omega))) (Below.refl _ _)
        rw [show ((w4a.setCell ⟨wr.heap.size, 0, none⟩ (.int .i64 r)).setCell ⟨wr.heap.size, 1, none⟩ (.int .i64 x)).setCell ⟨wr.heap.size, 2, none⟩ (.slice a4a 0 c4a) = w5a from hw5]
        clear hcp hbe hcw hkk hw5 d0 d1 d2 x0 x1 x2 x3 x4 z0 z1 z2 fz HPLa HSWa
        have HPLb : Hid (∀ (w' : World) (S1 : Nat → Prop), Below w5a.heap.size w5a w' → Sit w' S1 B D ⟨r, fa, x, []⟩ (.slice none 0 0) tva pva sva nva La Ma → Calls Try.prog 25 #[.pointer (some ⟨B, 0, none⟩), rqV r x (.slice none 0 0), .agg #[.int .i64 y.kind, .int .i64 y.on, .int .i64 y.st, u1, u2], .pointer (some ⟨D, 0, none⟩)] w' fun e w'' => PlE w' S1 B D (DeskK D tva pva sva nva La Ma) r x [] e w'') := fun w' S1 hb' hs' => plays_zero B D ⟨r, fa, x, []⟩ y _ tva pva sva nva La Ma u1 u2 w' S1 (fun j => j < w.heap.size) ⟨HR0.out.1, HR0.out.2, rfl⟩ hs' (TgsAt.keep (StepLists.out w5a HEa.out.below).1 (Kp.of_below hb' _)) (PasAt.keep (StepLists.out w5a HEa.out.below).2 (Kp.of_below hb' _)) HSY.out.1 HSY.out.2 (fun j hj => ⟨fun hh => by have := HEa.out.lowK j hh; omega, by have := HEa.out.lowB; omega⟩)
        have HSWb : Hid (∀ w', Old w5a (fun j => j = B ∨ DeskK D tva pva sva nva La Ma j) w' → w'.cell? ⟨b, 0, none⟩ = some (.int .i64 r) ∧ w'.cell? ⟨b, 1, none⟩ = some (.int .i64 x) ∧ w'.cell? ⟨b, 2, none⟩ = some (.slice none 0 0) ∧ w'.cell? ⟨sb, so + q * 5, none⟩ = some (.int .i64 y.kind) ∧ w'.cell? ⟨sb, so + q * 5 + 1, none⟩ = some (.int .i64 y.on) ∧ w'.cell? ⟨sb, so + q * 5 + 2, none⟩ = some (.int .i64 y.st) ∧ w'.cell? ⟨sb, so + q * 5 + 3, none⟩ = some u1 ∧ w'.cell? ⟨sb, so + q * 5 + 4, none⟩ = some u2) := fun w' ho => by
          obtain ⟨d0, d1, d2⟩ := cells_3 HEa.out.box
          obtain ⟨x0, x1, x2, x3, x4⟩ := StepCells.out w5a HEa.out.below
          have hbl := lt_of_blk HEa.out.box
          have hbn : ¬ (b = B ∨ DeskK D tva pva sva nva La Ma b) := fun e => e.elim HEa.out.nb.2.1 HEa.out.nb.2.2
          have hPb := HPB.out
          have hsb : sb < w5a.heap.size := Nat.lt_of_lt_of_le hPb HEa.out.below.size
          have hsn : ¬ (sb = B ∨ DeskK D tva pva sva nva La Ma sb) := fun e => e.elim (fun e => by have := HEa.out.lowB; omega) (fun e => by have := HEa.out.lowK sb e; omega)
          exact ⟨ho.cell hbl hbn d0, ho.cell hbl hbn d1, ho.cell hbl hbn d2, ho.cell hsb hsn x0, ho.cell hsb hsn x1, ho.cell hsb hsn x2, ho.cell hsb hsn x3, ho.cell hsb hsn x4⟩
        obtain ⟨d0, d1, d2, x0, x1, x2, x3, x4⟩ := HSWb.out w5a (Old.refl _ _)
        go_wp2_with fail
        go_region_held3 (fun w' => w'.cell? ⟨b, 0, none⟩ = some (.int .i64 r) ∧ w'.cell? ⟨b, 1, none⟩ = some (.int .i64 x) ∧ w'.cell? ⟨b, 2, none⟩ = some (.slice none 0 0) ∧ w'.cell? ⟨sb, so + q * 5, none⟩ = some (.int .i64 y.kind) ∧ w'.cell? ⟨sb, so + q * 5 + 1, none⟩ = some (.int .i64 y.on) ∧ w'.cell? ⟨sb, so + q * 5 + 2, none⟩ = some (.int .i64 y.st) ∧ w'.cell? ⟨sb, so + q * 5 + 3, none⟩ = some u1 ∧ w'.cell? ⟨sb, so + q * 5 + 4, none⟩ = some u2)
          (first
          | (refine HSWb.out _ ?_; repeat (first | exact HO4b.out | exact Old.refl _ _ | refine Old.drew ?_ | refine Old.alloc ?_ | refine Old.set ?_ (by first | exact Nat.le_refl _ | exact HO4b.out.size)))
          | go_keep)
          (first
          | (go_at_call 25
             refine (HPLb.out w5a.drew Sa (below_drew (Below.refl _ _)) (HEa.out.sit.below (below_drew (Below.refl _ _)))).mono ?_
             rintro e w4b ⟨Sb, fb, vb, tvb, pvb, svb, nvb, Lb, Mb, rfl, hs4, hS4, hc4, hk4⟩
             obtain ⟨a4b, c4b, hv4, _⟩ := RowAt.form hs4.ref
             have hv4 : vb = .slice a4b 0 c4b := hv4
             subst hv4
             have HS4b : Hid _ := hs4
             have HSSb : Hid _ := hS4
             have HC4b : Hid _ := hc4
             have HK4b : Hid _ := hk4
             have HO4b : Hid (Old w5a (fun j => j = B ∨ DeskK D tva pva sva nva La Ma j) w4b) := (Old.drew (Old.refl _ _)).chg hc4 (fun j _ e => e)
             clear hs4 hS4 hc4 hk4)
          | (go_at_call 25
             refine (HPLb.out (w5a.drew.alloc (.cells #[.int .i64 0, .int .i64 0, .slice none 0 0] 67)) (fun j => Sa j ∧ ¬ j = w5a.heap.size) ((below_drew (Below.refl _ _)).alloc (Nat.le_refl _) _) ((HEa.out.sit.below (below_drew (Below.refl _ _))).begin ((Below.refl _ _).alloc (Nat.le_refl _) _) (fun j hj => by subst hj; exact ⟨Nat.le_refl _, by simp⟩))).mono ?_
             rintro e w4b ⟨Sb, fb, vb, tvb, pvb, svb, nvb, Lb, Mb, rfl, hs4, hS4, hc4, hk4⟩
             obtain ⟨a4b, c4b, hv4, _⟩ := RowAt.form hs4.ref
             have hv4 : vb = .slice a4b 0 c4b := hv4
             subst hv4
             have HS4b : Hid _ := hs4
             have HSSb : Hid _ := hS4
             have HC4b : Hid _ := hc4
             have HK4b : Hid _ := hk4
             have HO4b : Hid (Old w5a (fun j => j = B ∨ DeskK D tva pva sva nva La Ma j) w4b) := (Old.alloc (Old.drew (Old.refl _ _))).chg hc4 (fun j _ e => e)
             have HZ4b : Hid (w4b.heap[w5a.heap.size]? = some (.cells #[.int .i64 0, .int .i64 0, .slice none 0 0] 67 (0, 0))) := (hc4.block w5a.heap.size (by simp) (fun e => e.elim (fun e => by have := HEa.out.sit.q.lt; omega) (fun e => by have := HEa.out.sit.desk.lt _ e; omega))).trans (heap_alloc_new w5a.drew _)
             obtain ⟨z0, z1, z2⟩ := cells_3 HZ4b.out
             have fz := free_of HZ4b.out
             clear hs4 hS4 hc4 hk4)
          | fail)
        · obtain ⟨w5b, hw5⟩ : ∃ w5, w4b.alloc (.cells #[.int .i64 r, .int .i64 x, .slice a4b 0 c4b] 67) = w5 := ⟨_, rfl⟩
          have hal : Below w4b.heap.size w4b w5b := by rw [← hw5]; exact (Below.refl _ _).alloc (Nat.le_refl _) _
          rw [hw5]
          have HEb : Hid (OnI w w5b b B D r x Sb (.slice none 0 0) tvb pvb svb nvb Lb Mb fb []) := HEa.out.next HS4b.out HSSb.out (chg_undrew HC4b.out) HK4b.out hal
          clear hal hw5 d0 d1 d2 x0 x1 x2 x3 x4 HPLb HSWb
          go_wp2_with fail
          go_roundw
          case rel => exact ⟨q + 1, fb, Sb, tvb, pvb, svb, nvb, Lb, Mb, by go_num, by omega, HEb⟩
          case measure => simp [intOf]; omega
        · obtain ⟨w5b, hw5⟩ : ∃ w5, put_3 w4b w5a.heap.size (.int .i64 r) (.int .i64 x) (.slice a4b 0 c4b) = w5 := ⟨_, rfl⟩
          have hcp : Chg w4b w5b (fun j => j = w5a.heap.size) := by rw [← hw5]; exact chg_put3 _ _ _ _ _
          have hbe : Below w5a.heap.size w5a (w5a.drew.alloc (.cells #[.int .i64 0, .int .i64 0, .slice none 0 0] 67)) := (below_drew (Below.refl _ _)).alloc (Nat.le_refl _) _
          have hcw : Chg w5a w5b (fun j => j = B ∨ DeskK D tva pva sva nva La Ma j) := chg_ext ((Chg.of_below hbe _).trans HC4b.out) hcp (fun j e => .inr (by have e : j = w5a.heap.size := e; omega))
          have hkk : ∀ j, DeskK D tvb pvb svb nvb Lb Mb j → DeskK D tva pva sva nva La Ma j ∨ w5a.heap.size + 1 ≤ j := fun j hj => (HK4b.out j hj).elim .inl (fun h => .inr (by simpa using h))
          have HEb : Hid (OnI w w5b b B D r x Sb (.slice none 0 0) tvb pvb svb nvb Lb Mb fb []) := HEa.out.next (HS4b.out.other hcp (fun j _ e => by
            have e : j = w5a.heap.size := e
            exact ⟨fun hh => (HSSb.out j hh).2 e, by have := HEa.out.sit.q.lt; omega, fun hh => (hkk j hh).elim (fun h => by have := HEa.out.sit.desk.lt j h; omega) (fun h => by omega)⟩)) (fun j hj => (HSSb.out j hj).1) hcw (fun j hj => (hkk j hj).elim .inl (fun h => .inr (by omega))) (Below.refl _ _)
          rw [show ((w4b.setCell ⟨w5a.heap.size, 0, none⟩ (.int .i64 r)).setCell ⟨w5a.heap.size, 1, none⟩ (.int .i64 x)).setCell ⟨w5a.heap.size, 2, none⟩ (.slice a4b 0 c4b) = w5b from hw5]
          clear hcp hbe hcw hkk hw5 d0 d1 d2 x0 x1 x2 x3 x4 z0 z1 z2 fz HPLb HSWb
          go_wp2_with fail
          go_roundw
          case rel => exact ⟨q + 1, fb, Sb, tvb, pvb, svb, nvb, Lb, Mb, by go_num, by omega, HEb⟩
          case measure => simp [intOf]; omega
    · have HBW : Hid (Below w.heap.size w wr) := HI.out.below
      have hexit : ((q : Int) < (m : Int) ∧ ¬ (q : Int) < 150) ∨ ¬ (q : Int) < (m : Int) := by omega
      clear hlt
      rcases hexit with ⟨h1', h2'⟩ | h1'
      all_goals (
        go_wp2_with fail
        refine Calls.mono (HKN.out _) ?_
        rintro e w9 ⟨rfl, hb9⟩
        have HB9 : Hid _ := hb9
        clear hb9
        go_wp2_with fail
        go_ret
        exact ⟨rfl, trans2 HBW.out HB9.out⟩)
end Go.Proofs.Ytlidkieljiebiaa
