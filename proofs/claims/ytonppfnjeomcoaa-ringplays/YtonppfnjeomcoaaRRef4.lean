/-
  The document's ring: At, After.
-/
import Derived.Test.YtonppfnjeomcoaaRRef3
namespace Go.Proofs.Ytonppfnjeomcoaa
open Go.RowKit Classical
set_option linter.unusedVariables false
set_option linter.unusedSimpArgs false

set_option maxHeartbeats 1600000 in
theorem rAt_no {w0 : World} (w : World) (bx : Nat) (n : Int) {R : RingT} {F : Nat} {O : Int} {H : List EnT} {P : List PEnt} {la : Option Addr} {lc : Nat} (h : RefAt w0 w bx R F O H P la lc) (hc : R.atC n ≠ 0) :
    Calls Try.prog 51 #[.pointer (some ⟨bx, 0, none⟩), .int .i64 n] w fun e' w' => e' = .returned (.tuple #[zeroE.val (.slice none 0 0), .int .i64 (R.atC n)]) ∧ Below w.heap.size w w' := by
  have HX : Hid (RefAt w0 w bx R F O H P la lc) := h
  have HL : Hid (∀ w', Below w.heap.size w w' → _) := fun w' hb => rLast w' bx (h.below hb)
  have HF : Hid (∀ w', Below w.heap.size w w' → _) := fun w' hb => rFloor w' bx (h.below hb)
  obtain ⟨L, hL⟩ : ∃ L : Nat, R.last = L := ⟨_, rfl⟩
  obtain ⟨fl, hfl⟩ : ∃ fl : Nat, R.floor = fl := ⟨_, rfl⟩
  obtain ⟨T, hT⟩ : ∃ T : Int, R.top = T := ⟨_, rfl⟩
  obtain ⟨of, hof⟩ : ∃ of : Int, R.of = of := ⟨_, rfl⟩
  rw [hL, hT] at HL
  rw [hfl, hof] at HF
  have hcase : (n ≤ (fl : Int) ∧ R.atC n = 60) ∨ (¬ n ≤ (fl : Int) ∧ (L : Int) < n ∧ R.atC n = 61) := by
    unfold RingT.atC at hc ⊢
    rw [hL, hfl] at hc ⊢
    by_cases h1 : n ≤ (fl : Int)
    · rw [if_pos h1]; exact .inl ⟨h1, rfl⟩
    rw [if_neg h1] at hc ⊢
    by_cases h2 : (L : Int) < n
    · rw [if_pos h2]; exact .inr ⟨h1, h2, rfl⟩
    rw [if_neg h2] at hc
    exact absurd rfl hc
  clear h hT hL hc hfl hof
  rcases hcase with ⟨h1, h2⟩ | ⟨h1, h3, h2⟩
  all_goals
    rw [h2]
    clear h2
    go_enter Try.func51, Try.ntmps51
    go_wp2_with fail
    refine Calls.mono (HF.out _ ((Below.refl _ _).alloc (Nat.le_refl _) _)) ?_
    rintro e' w1 ⟨rfl, hb1⟩
    have HB1 : Hid (Below w.heap.size w w1) := trans2 ((Below.refl _ _).alloc (Nat.le_refl _) _) hb1
    have HZ1 : Hid (w1.heap[w.heap.size]? = some (.cells #[.int .i64 0, .int .i64 0, .int .i64 0, .int .i64 0, .int .i64 0, .slice none 0 0] 33 (0, 0))) := kept_block hb1 (heap_alloc_new _ _)
    clear hb1
    go_wp2_with fail
    refine Calls.mono (HL.out _ HB1.out) ?_
    rintro e' w2 ⟨rfl, hb2⟩
    have HB2 : Hid (Below w.heap.size w w2) := trans2 HB1.out hb2
    have HZ : Hid (w2.heap[w.heap.size]? = some (.cells #[.int .i64 0, .int .i64 0, .int .i64 0, .int .i64 0, .int .i64 0, .slice none 0 0] 33 (0, 0))) := kept_block hb2 HZ1.out
    obtain ⟨z0, z1, z2, z3, z4, z5⟩ := cells_6 HZ.out
    have fz := free_blk HZ.out
    clear hb2 HL HF HB1
    go_wp2_with fail
    exact bodyPost_ret (results_ct rfl _ _ w.heap.size 33 _ (0, 0) _ (.int .i64 _) rfl rfl (fill_6 HZ.out) Try.underlying33 rfl (by kernel_rfl)) rfl ⟨rfl, fillB_6 HB2.out (Nat.le_refl _)⟩
set_option maxHeartbeats 1600000 in
theorem rAt_ok {w0 : World} (w : World) (bx : Nat) (n : Int) {R : RingT} {F : Nat} {O : Int} {H : List EnT} {P : List PEnt} {la : Option Addr} {lc : Nat} (h : RefAt w0 w bx R F O H P la lc) (hc : R.atC n = 0) (q : Nat) (p : PEnt) (hq : n = ((F + 1 + q : Nat) : Int)) (hp : P[q]? = some p) :
    Calls Try.prog 51 #[.pointer (some ⟨bx, 0, none⟩), .int .i64 n] w fun e' w' => e' = .returned (.tuple #[p.e.val p.x, .int .i64 0]) ∧ Below w.heap.size w w' := by
  have HX : Hid (RefAt w0 w bx R F O H P la lc) := h
  obtain ⟨pa, pc, hpx, -⟩ := (h.esat.rd p (List.mem_of_getElem? hp)).x
  obtain ⟨⟨ps, pv, pk, pse, prq, po⟩, px⟩ := p
  simp only at hpx
  subst hpx
  obtain ⟨pn, hpn⟩ : ∃ pn, po.length = pn := ⟨_, rfl⟩
  rw [hpn] at hp ⊢
  clear hpn
  have HL : Hid (∀ w', Below w.heap.size w w' → _) := fun w' hb => rLast w' bx (h.below hb)
  have HF : Hid (∀ w', Below w.heap.size w w' → _) := fun w' hb => rFloor w' bx (h.below hb)
  obtain ⟨k1, k2, k3, k4, k5, k6⟩ := h.kept
  have hqN : q < H.length := by rw [← h.len]; exact (List.getElem?_eq_some_iff.1 hp).1
  obtain ⟨N, hN⟩ : ∃ N, H.length = N := ⟨_, rfl⟩
  rw [hN] at k4 hqN
  obtain ⟨L, hL⟩ : ∃ L : Nat, R.last = L := ⟨_, rfl⟩
  obtain ⟨fl, hfl⟩ : ∃ fl : Nat, R.floor = fl := ⟨_, rfl⟩
  obtain ⟨T, hT⟩ : ∃ T : Int, R.top = T := ⟨_, rfl⟩
  obtain ⟨of, hof⟩ : ∃ of : Int, R.of = of := ⟨_, rfl⟩
  rw [hL] at k4 k5
  rw [hL, hT] at HL
  rw [hfl, hof] at HF
  have hcc : ¬ n ≤ (fl : Int) ∧ ¬ (L : Int) < n := by
    unfold RingT.atC at hc
    rw [hL, hfl] at hc
    by_cases h1 : n ≤ (fl : Int)
    · rw [if_pos h1] at hc; cases hc
    rw [if_neg h1] at hc
    by_cases h2 : (L : Int) < n
    · rw [if_pos h2] at hc; cases hc
    exact ⟨h1, h2⟩
  obtain ⟨g1, g2⟩ := hcc
  subst hq
  obtain ⟨M, hM⟩ : ∃ M, F + 1 + q = M := ⟨_, rfl⟩
  rw [hM] at g1 g2 ⊢
  have i1 : (L : Int) - (M : Int) = ((N - 1 - q : Nat) : Int) := by omega
  have i2 : (N : Int) - 1 - ((L : Int) - (M : Int)) = (q : Int) := by omega
  have i3 : (q : Int) < (N : Int) := by omega
  have HNN : Hid (H.length = N) := hN
  have HPp : Hid (P[q]? = some ⟨⟨ps, pv, pk, pse, prq, po⟩, .slice pa pn pc⟩) := hp
  have hN2 : N ≤ 2147483647 ∧ M ≤ 2147483647 := by omega
  obtain ⟨DD, hDD⟩ : ∃ DD, N - 1 - q = DD := ⟨_, rfl⟩
  rw [hDD] at i1
  obtain ⟨N1, hN1⟩ : ∃ N1 : Nat, (N : Int) - 1 = (N1 : Int) := ⟨N - 1, by omega⟩
  have i4 : (N1 : Int) - (DD : Int) = (q : Int) := by omega
  have hqb : q ≤ 2147483647 ∧ N1 ≤ 2147483647 ∧ DD ≤ 2147483647 := by omega
  have i5 : IntKind.i64.wrap (q : Int) = (q : Int) := by rw [IntKind.wrap_i64]; omega
  have i6 : IntKind.i64.wrap (DD : Int) = (DD : Int) := by rw [IntKind.wrap_i64]; omega
  have i7 : IntKind.i64.wrap (N1 : Int) = (N1 : Int) := by rw [IntKind.wrap_i64]; omega
  have i8 : (0 : Int) ≤ (q : Int) := by omega
  clear h hT hc k1 k2 k3 k4 k5 k6 hL hfl hof hN hp hM hDD i2
  go_enter Try.func51, Try.ntmps51
  go_wp2_with fail
  refine Calls.mono (HF.out _ ((Below.refl _ _).alloc (Nat.le_refl _) _)) ?_
  rintro e' w1 ⟨rfl, hb1⟩
  have HB1 : Hid (Below w.heap.size w w1) := trans2 ((Below.refl _ _).alloc (Nat.le_refl _) _) hb1
  have HZ1 : Hid (w1.heap[w.heap.size]? = some (.cells #[.int .i64 0, .int .i64 0, .int .i64 0, .int .i64 0, .int .i64 0, .slice none 0 0] 33 (0, 0))) := kept_block hb1 (heap_alloc_new _ _)
  clear hb1
  go_wp2_with fail
  refine Calls.mono (HL.out _ HB1.out) ?_
  rintro e' w2 ⟨rfl, hb2⟩
  have HB2 : Hid (Below w.heap.size w w2) := trans2 HB1.out hb2
  have HZ : Hid (w2.heap[w.heap.size]? = some (.cells #[.int .i64 0, .int .i64 0, .int .i64 0, .int .i64 0, .int .i64 0, .slice none 0 0] 33 (0, 0))) := kept_block hb2 HZ1.out
  obtain ⟨z0, z1, z2, z3, z4, z5⟩ := cells_6 HZ.out
  have fz := free_blk HZ.out
  have HX2 := HX.out.below HB2.out
  obtain ⟨c0, c1, c2, c3, c4, c5⟩ := cells_6 HX2.box
  rw [HNN.out] at c4
  obtain ⟨g, o, rfl, hg, y0, y1, y2, y3, y4, y5⟩ := HX2.esat.at HPp.out
  have hne : g ≠ w.heap.size := by
    have h9 := HX.out.esat.at HPp.out
    obtain ⟨g', o', hgo, hlt, -⟩ := h9
    cases hgo
    omega
  simp only at y0 y1 y2 y3 y4 y5
  clear hb2 HL HF HB1 HX2
  go_wp2_with fail
  have hbne : bx ≠ w.heap.size := by have := lt_of_blk HX.out.box; omega
  have hne' := Ne.symm hne
  have hbne' := Ne.symm hbne
  go_region_held3 (fun w' => w'.cell? ⟨bx, 4, none⟩ = some (.slice (some ⟨g, o, none⟩) N lc) ∧ w'.cell? ⟨g, o + q * 6, none⟩ = some (.int .i64 ps) ∧ w'.cell? ⟨g, o + q * 6 + 1, none⟩ = some (.int .i64 pv) ∧ w'.cell? ⟨g, o + q * 6 + 2, none⟩ = some (.int .i64 pk) ∧ w'.cell? ⟨g, o + q * 6 + 3, none⟩ = some (.int .i64 pse) ∧ w'.cell? ⟨g, o + q * 6 + 4, none⟩ = some (.int .i64 prq) ∧ w'.cell? ⟨g, o + q * 6 + 5, none⟩ = some (.slice pa pn pc))
    (first | (simp only [World.cell?_drew, World.cell?_drewN, c4, y0, y1, y2, y3, y4, y5, and_self]; done) | go_keep) (fail)
  go_wp2_with fail
  obtain ⟨W, hW⟩ : ∃ W, (put_6 w2 w.heap.size (.int .i64 ps) (.int .i64 pv) (.int .i64 pk) (.int .i64 pse) (.int .i64 prq) (.slice pa pn pc)).drew = W := ⟨_, rfl⟩
  have hf : W.heap[w.heap.size]? = some (.cells #[.int .i64 ps, .int .i64 pv, .int .i64 pk, .int .i64 pse, .int .i64 prq, .slice pa pn pc] 33 (0, 0)) := by
    rw [← hW]
    exact (fill_6 HZ.out : (put_6 w2 w.heap.size (.int .i64 ps) (.int .i64 pv) (.int .i64 pk) (.int .i64 pse) (.int .i64 prq) (.slice pa pn pc)).heap[w.heap.size]? = _)
  have hbW : Below w.heap.size w W := by
    rw [← hW]
    exact below_drew (fillB_6 HB2.out (Nat.le_refl _))
  unfold put_6 at hW
  rw [hW]
  exact bodyPost_ret (results_ct rfl _ _ w.heap.size 33 _ (0, 0) _ (.int .i64 0) rfl rfl hf Try.underlying33 rfl (by kernel_rfl)) rfl ⟨rfl, hbW⟩
/-- Where an entry that counts stands among all. -/
theorem RefAt.place {w0 w : World} {bx : Nat} {R : RingT} {F : Nat} {O : Int} {H : List EnT} {P : List PEnt} {la : Option Addr} {lc : Nat} (h : RefAt w0 w bx R F O H P la lc) {k : Nat} (hk : k < R.l.length) :
    ∃ p, P[H.length - R.l.length + k]? = some p ∧ R.l[k]? = some p.e ∧ R.floor + 1 + k = F + 1 + (H.length - R.l.length + k) := by
  obtain ⟨k1, k2, k3, k4, k5, k6⟩ := h.kept
  have hlt : H.length - R.l.length + k < P.length := by rw [h.len]; omega
  obtain ⟨p, hp⟩ : ∃ p, P[H.length - R.l.length + k]? = some p := ⟨P[H.length - R.l.length + k], List.getElem?_eq_getElem _⟩
  refine ⟨p, hp, ?_, by omega⟩
  have h9 : H[H.length - R.l.length + k]? = some p.e := by rw [← h.es, List.getElem?_map, List.length_map, h.len, hp]; rfl
  have h8 := congrArg (fun l => l[k]?) k3
  simp only [List.getElem?_drop] at h8
  exact h8.trans h9
theorem rAt {w0 : World} (w : World) (bx : Nat) (n : Int) {R : RingT} {F : Nat} {O : Int} {H : List EnT} {P : List PEnt} {la : Option Addr} {lc : Nat} (h : RefAt w0 w bx R F O H P la lc) :
    Calls Try.prog 51 #[.pointer (some ⟨bx, 0, none⟩), .int .i64 n] w fun e' w' => ∃ x, e' = .returned (.tuple #[(R.atE n).val x, .int .i64 (R.atC n)]) ∧ Rd w' ⟨R.atE n, x⟩ ∧ Below w.heap.size w w' := by
  by_cases hc : R.atC n = 0
  · have hcc : (R.floor : Int) < n ∧ n ≤ (R.last : Int) := by
      unfold RingT.atC at hc
      by_cases h1 : n ≤ (R.floor : Int)
      · rw [if_pos h1] at hc; cases hc
      rw [if_neg h1] at hc
      by_cases h2 : (R.last : Int) < n
      · rw [if_pos h2] at hc; cases hc
      omega
    have hl : R.last = R.floor + R.l.length := rfl
    obtain ⟨k, hk⟩ : ∃ k : Nat, (n - R.floor - 1).toNat = k := ⟨_, rfl⟩
    have hkl : k < R.l.length := by omega
    obtain ⟨p, hp, hpe, hpl⟩ := h.place hkl
    have hE : R.atE n = p.e := by
      unfold RingT.atE
      rw [if_neg (by omega), hk, hpe]
      rfl
    refine (rAt_ok w bx n h hc _ p (by rw [← hpl]; omega) hp).mono ?_
    rintro e' w' ⟨rfl, hb⟩
    rw [hE, hc]
    exact ⟨p.x, rfl, (h.esat.rd p (List.mem_of_getElem? hp)).below hb, hb⟩
  · have hE : R.atE n = zeroE := by
      unfold RingT.atC at hc
      unfold RingT.atE
      by_cases h1 : n ≤ (R.floor : Int)
      · rw [if_pos h1]
      rw [if_neg h1] at hc ⊢
      by_cases h2 : (R.last : Int) < n
      · have hl : R.last = R.floor + R.l.length := rfl
        rw [List.getElem?_eq_none (by omega)]
        rfl
      rw [if_neg h2] at hc
      exact absurd rfl hc
    refine (rAt_no w bx n h hc).mono ?_
    rintro e' w' ⟨rfl, hb⟩
    rw [hE]
    exact ⟨_, rfl, ⟨⟨none, 0, rfl, .inl rfl⟩, Nat.zero_le _⟩, hb⟩
set_option maxHeartbeats 1600000 in
theorem rAfter_no {w0 : World} (w : World) (bx : Nat) (n most : Int) {R : RingT} {F : Nat} {O : Int} {H : List EnT} {P : List PEnt} {la : Option Addr} {lc : Nat} (h : RefAt w0 w bx R F O H P la lc) (hc : R.afterC n most ≠ 0) :
    Calls Try.prog 52 #[.pointer (some ⟨bx, 0, none⟩), .int .i64 n, .int .i64 most] w fun e' w' => e' = .returned (.tuple #[.slice none 0 0, .int .i64 (R.afterC n most)]) ∧ Below w.heap.size w w' := by
  have HX : Hid (RefAt w0 w bx R F O H P la lc) := h
  have HL : Hid (∀ w', Below w.heap.size w w' → _) := fun w' hb => rLast w' bx (h.below hb)
  have HF : Hid (∀ w', Below w.heap.size w w' → _) := fun w' hb => rFloor w' bx (h.below hb)
  obtain ⟨L, hL⟩ : ∃ L : Nat, R.last = L := ⟨_, rfl⟩
  obtain ⟨fl, hfl⟩ : ∃ fl : Nat, R.floor = fl := ⟨_, rfl⟩
  obtain ⟨T, hT⟩ : ∃ T : Int, R.top = T := ⟨_, rfl⟩
  obtain ⟨of, hof⟩ : ∃ of : Int, R.of = of := ⟨_, rfl⟩
  rw [hL, hT] at HL
  rw [hfl, hof] at HF
  have hcase : (most < 0 ∧ R.afterC n most = 1) ∨ (0 ≤ most ∧ 64 < most ∧ R.afterC n most = 1) ∨ (0 ≤ most ∧ most ≤ 64 ∧ n < (fl : Int) ∧ R.afterC n most = 60) ∨ (0 ≤ most ∧ most ≤ 64 ∧ ¬ n < (fl : Int) ∧ (L : Int) < n ∧ R.afterC n most = 61) := by
    unfold RingT.afterC at hc ⊢
    rw [hL, hfl] at hc ⊢
    by_cases h0 : most < 0
    · rw [if_pos (.inl h0)]; exact .inl ⟨h0, rfl⟩
    by_cases h1 : 64 < most
    · rw [if_pos (.inr h1)]; exact .inr (.inl ⟨by omega, h1, rfl⟩)
    rw [if_neg (by omega)] at hc ⊢
    by_cases h2 : n < (fl : Int)
    · rw [if_pos h2]; exact .inr (.inr (.inl ⟨by omega, by omega, h2, rfl⟩))
    rw [if_neg h2] at hc ⊢
    by_cases h3 : (L : Int) < n
    · rw [if_pos h3]; exact .inr (.inr (.inr ⟨by omega, by omega, h2, h3, rfl⟩))
    rw [if_neg h3] at hc
    exact absurd rfl hc
  clear h hT hL hc hfl hof
  rcases hcase with ⟨h1, h2⟩ | ⟨h1, h3, h2⟩ | ⟨h1, h3, h4, h2⟩ | ⟨h1, h3, h4, h5, h2⟩
  all_goals
    rw [h2]
    clear h2
    go_enter Try.func52, Try.ntmps52
    go_wp2_with fail
    refine Calls.mono (HF.out _ (Below.refl _ _)) ?_
    rintro e' w1 ⟨rfl, hb1⟩
    have HB1 : Hid (Below w.heap.size w w1) := hb1
    clear hb1
    go_wp2_with fail
    refine Calls.mono (HL.out _ HB1.out) ?_
    rintro e' w2 ⟨rfl, hb2⟩
    have HB2 : Hid (Below w.heap.size w w2) := trans2 HB1.out hb2
    clear hb2 HL HF HB1
    go_wp2_with fail
    go_ret2
    exact ⟨rfl, HB2.out⟩

set_option maxHeartbeats 3200000 in
set_option maxRecDepth 100000 in
theorem rAfter_ok {w0 : World} (w : World) (bx : Nat) (n most : Int) {R : RingT} {F : Nat} {O : Int} {H : List EnT} {P : List PEnt} {la : Option Addr} {lc : Nat} (h : RefAt w0 w bx R F O H P la lc) (k0 m : Nat) (hk : n = ((R.floor + k0 : Nat) : Int)) (hkl : k0 ≤ R.l.length) (hm0 : 0 ≤ most) (hm1 : most ≤ 64) (hm : m = min most.toNat (R.l.length - k0)) :
    Calls Try.prog 52 #[.pointer (some ⟨bx, 0, none⟩), .int .i64 n, .int .i64 most] w fun e' w' => ∃ v Q, e' = .returned (.tuple #[v, .int .i64 0]) ∧ Q.map (·.e) = (R.l.drop k0).take m ∧ EntsAt w' v Q ∧ Below w.heap.size w w' := by
  obtain ⟨i0, hi, hz0, hz1, hz2⟩ := info_parts Try.infoEn
  have HX : Hid (RefAt w0 w bx R F O H P la lc) := h
  have HL : Hid (∀ w', Below w.heap.size w w' → _) := fun w' hb => rLast w' bx (h.below hb)
  have HF : Hid (∀ w', Below w.heap.size w w' → _) := fun w' hb => rFloor w' bx (h.below hb)
  obtain ⟨k1, k2, k3, k4, k5, k6⟩ := h.kept
  have hlast : R.last = R.floor + R.l.length := rfl
  obtain ⟨K, hK⟩ : ∃ K, R.l.length = K := ⟨_, rfl⟩
  rw [hK] at hlast hkl hm k6
  rw [hlast] at HL k5
  obtain ⟨fl, hfl⟩ : ∃ fl : Nat, R.floor = fl := ⟨_, rfl⟩
  obtain ⟨T, hT⟩ : ∃ T : Int, R.top = T := ⟨_, rfl⟩
  obtain ⟨of, hof⟩ : ∃ of : Int, R.of = of := ⟨_, rfl⟩
  rw [hT, hfl] at HL
  rw [hfl, hof] at HF
  rw [hfl] at hk k5
  obtain ⟨mo, rfl⟩ : ∃ mo : Nat, most = mo := ⟨most.toNat, by omega⟩
  rw [Int.toNat_natCast] at hm
  subst hk
  have HAT : Hid (∀ w' k (p : PEnt), Below w.heap.size w w' → P[H.length - R.l.length + k]? = some p → k < K → _) := fun w' k p hb hp hk => rAt_ok w' bx ((fl + 1 + k : Nat) : Int) (h.below hb) (by
    unfold RingT.atC
    rw [hfl, hlast, hfl, if_neg (by omega), if_neg (by omega)]) (H.length - R.l.length + k) p (by have := h.place (k := k) (by rw [hK]; exact hk); obtain ⟨_, _, _, h9⟩ := this; rw [hfl] at h9; rw [h9]) hp
  have HPL : Hid (∀ k, k < K → ∃ p, P[H.length - R.l.length + k]? = some p ∧ R.l[k]? = some p.e) := fun k hk => by
    obtain ⟨p, h1, h2, _⟩ := h.place (k := k) (by rw [hK]; exact hk)
    exact ⟨p, h1, h2⟩
  have HK : Hid (R.l.length = K) := hK
  have g1 : ¬ ((fl + k0 : Nat) : Int) < (fl : Int) := by omega
  have g2 : ¬ ((fl + K : Nat) : Int) < ((fl + k0 : Nat) : Int) := by omega
  have g3 : ¬ (mo : Int) < 0 := by omega
  have g4 : ¬ (64 : Int) < (mo : Int) := by omega
  have g5 : mo ≤ 64 := by omega
  obtain ⟨A, hA⟩ : ∃ A, fl + k0 = A := ⟨_, rfl⟩
  obtain ⟨L, hL⟩ : ∃ L, fl + K = L := ⟨_, rfl⟩
  rw [hA] at g1 g2 ⊢
  rw [hL] at g2 k5 HL
  have g1n : ¬ A < fl := by omega
  have g2n : ¬ L < A := by omega
  have d5 : decide (A < fl) = false := by simpa using g1n
  have d6 : decide (L < A) = false := by simpa using g2n
  have d1 : decide ((mo : Int) < 0) = false := by simp
  have d2 : decide ((64 : Int) < (mo : Int)) = false := by simpa using g4
  have d3 : decide (64 < mo) = false := by simp; omega
  have d4 : ¬ 64 < mo := by omega
  have HAL : Hid (fl + k0 = A ∧ fl + K = L ∧ m = min mo (K - k0) ∧ k0 ≤ K) := ⟨hA, hL, hm, hkl⟩
  have hAL : A ≤ L := by omega
  clear h hT hfl hof k1 k2 k3 k4 hlast hK hm0 hm1 hA hL
  go_enter Try.func52, Try.ntmps52
  go_wp2_with fail
  refine Calls.mono (HF.out _ (Below.refl _ _)) ?_
  rintro e' w1 ⟨rfl, hb1⟩
  have HB1 : Hid (Below w.heap.size w w1) := hb1
  clear hb1
  go_wp2_with fail
  refine Calls.mono (HL.out _ HB1.out) ?_
  rintro e' w2 ⟨rfl, hb2⟩
  have HB2 : Hid (Below w.heap.size w w2) := trans2 HB1.out hb2
  clear hb2 HL HF HB1
  have hmo : m ≤ mo := by have := HAL.out.2.2.1; omega
  have hmL : A + m ≤ L := by have h1 := HAL.out.1; have h2 := HAL.out.2.1; have h3 := HAL.out.2.2.1; have h4 := HAL.out.2.2.2; omega
  have HEND : Hid (m = mo ∨ A + m = L) := by have h1 := HAL.out.1; have h2 := HAL.out.2.1; have h3 := HAL.out.2.2.1; have h4 := HAL.out.2.2.2; show _ ∨ _; omega
  clear hm
  go_wp2_with fail
  clear d1 d2 d3 d4 d5 d6 g1 g2 g3 g4 g1n g2n
  go_loopw [12, 13] (fun mv sv wr => ∃ (j : Nat) (Q : List PEnt), sv = .int .i64 ((A + 1 + j : Nat) : Int) ∧ j ≤ m ∧ (∃ ma mc, mv = .slice ma j mc) ∧ Hid (Q.length = j ∧ Q.map (·.e) = (R.l.drop k0).take j ∧ ∀ p ∈ Q, p ∈ P) ∧ Hid (wr.ownsRow w.heap.size 33 6 mv j (rowCs PEnt.cells Q)) ∧ Hid (Below w.heap.size w wr)) (fun _ sv _ => L + 1 - (intOf sv).toNat)
  case atStart => exact ⟨0, [], by simp, Nat.zero_le _, ⟨_, _, rfl⟩, ⟨rfl, rfl, fun p hp => by cases hp⟩, World.ownsRow_nil _ _ _ _, HB2⟩
  case round =>
    obtain ⟨j, Q, rfl, hj, ⟨ma, mc, rfl⟩, HQ, HR, HB⟩ := hrel
    by_cases hlt : j < m
    · have hkj : k0 + j < K := by have h1 := HAL.out.1; have h2 := HAL.out.2.1; omega
      obtain ⟨p, hp, hpl⟩ := HPL.out (k0 + j) hkj
      have HA1 : Hid _ := HAT.out wr (k0 + j) p HB.out hp hkj
      have hS : fl + 1 + (k0 + j) = A + 1 + j := by have h1 := HAL.out.1; omega
      rw [hS] at HA1
      obtain ⟨pa, pc, hpx, -⟩ := (HX.out.esat.rd p (List.mem_of_getElem? hp)).x
      have HPP : Hid (p ∈ P ∧ R.l[k0 + j]? = some p.e) := ⟨List.mem_of_getElem? hp, hpl⟩
      obtain ⟨⟨ps, pv, pk, pse, prq, po⟩, px⟩ := p
      simp only at hpx hpl
      subst hpx
      obtain ⟨pn, hpn⟩ : ∃ pn, po.length = pn := ⟨_, rfl⟩
      rw [hpn] at HA1 HPP
      obtain ⟨S, hSS⟩ : ∃ S, A + 1 + j = S := ⟨_, rfl⟩
      rw [hSS] at HA1 ⊢
      have c1 : (S : Int) ≤ (L : Int) := by omega
      have c2 : (j : Int) < (mo : Int) := by omega
      have c3 : S ≤ L := by omega
      have HSS : Hid (A + 1 + j = S) := hSS
      clear hp hpl hpn hS hkj hSS
      go_wp2_with fail
      refine Calls.mono HA1.out ?_
      rintro e' w3 ⟨rfl, hb3⟩
      have HB3 : Hid (Below w.heap.size w w3) := trans2 HB.out hb3
      have HR0 : Hid (((w3.alloc (.cells #[.int .i64 ps, .int .i64 pv, .int .i64 pk, .int .i64 pse, .int .i64 prq, .slice pa pn pc] 33)).alloc (.cells #[.int .i64 ps, .int .i64 pv, .int .i64 pk, .int .i64 pse, .int .i64 prq, .slice pa pn pc] 33)).ownsRow w.heap.size 33 6 (.slice ma j mc) j (rowCs PEnt.cells Q)) := ((owns_below HR.out hb3).alloc _).alloc _
      have HC0 : Hid (∀ i u, [Value.int .i64 ps, .int .i64 pv, .int .i64 pk, .int .i64 pse, .int .i64 prq, .slice pa pn pc][i]? = some u → ((w3.alloc (.cells #[.int .i64 ps, .int .i64 pv, .int .i64 pk, .int .i64 pse, .int .i64 prq, .slice pa pn pc] 33)).alloc (.cells #[.int .i64 ps, .int .i64 pv, .int .i64 pk, .int .i64 pse, .int .i64 prq, .slice pa pn pc] 33)).cell? ((⟨w3.heap.size + 1, 0, none⟩ : Addr).add i) = some u) := by
        have h9 := cells_new (w3.alloc (.cells #[.int .i64 ps, .int .i64 pv, .int .i64 pk, .int .i64 pse, .int .i64 prq, .slice pa pn pc] 33)) [.int .i64 ps, .int .i64 pv, .int .i64 pk, .int .i64 pse, .int .i64 prq, .slice pa pn pc] 33
        rw [World.size_alloc] at h9
        exact h9
      have H1C : Hid (∀ u ∈ [Value.int .i64 ps, .int .i64 pv, .int .i64 pk, .int .i64 pse, .int .i64 prq, .slice pa pn pc], u.oneCell' = true) := fun u hu => by
        simp only [List.mem_cons, List.not_mem_nil, or_false] at hu
        rcases hu with rfl | rfl | rfl | rfl | rfl | rfl <;> rfl
      have HMX : Hid (j + 1 ≤ maxLen) := by show j + 1 ≤ maxLen; unfold maxLen; omega
      have hby : (j + 1) * 64 ≤ 140737488355328 := by omega
      have HWS : Hid (w.heap.size ≤ ((w3.alloc (.cells #[.int .i64 ps, .int .i64 pv, .int .i64 pk, .int .i64 pse, .int .i64 prq, .slice pa pn pc] 33)).alloc (.cells #[.int .i64 ps, .int .i64 pv, .int .i64 pk, .int .i64 pse, .int .i64 prq, .slice pa pn pc] 33)).heap.size) := by show _ ≤ _; rw [World.size_alloc, World.size_alloc]; have := HB3.out.size; omega
      clear hb3 HA1
      go_wp2_with (at_builtin; refine wpList_append_own_at _ rfl _ _ 25 rfl w.heap.size 33 i0 (.agg #[.int .i64 0, .int .i64 0, .int .i64 0, .int .i64 0, .int .i64 0, .slice none 0 0]) 6 64 Try.underlying25 hi hz0 hz1 hz2 rfl (by decide) (.slice ma j mc) j (rowCs PEnt.cells Q) rfl HR0.out ⟨w3.heap.size + 1, 0, none⟩ 1 1 [.int .i64 ps, .int .i64 pv, .int .i64 pk, .int .i64 pse, .int .i64 prq, .slice pa pn pc] rfl rfl HC0.out H1C.out HMX.out hby HWS.out ?_)
      intro v' w4 hown' hgrow _ hat
      obtain ⟨na, nc, rfl, -, -⟩ := owns_form hown'
      have HR4 : Hid (w4.ownsRow w.heap.size 33 6 (.slice na (j + 1) nc) (j + 1) (rowCs PEnt.cells (Q ++ [⟨⟨ps, pv, pk, pse, prq, po⟩, .slice pa pn pc⟩]))) := by
        have h9 : rowCs PEnt.cells (Q ++ [(⟨⟨ps, pv, pk, pse, prq, po⟩, .slice pa pn pc⟩ : PEnt)]) = rowCs PEnt.cells Q ++ [.int .i64 ps, .int .i64 pv, .int .i64 pk, .int .i64 pse, .int .i64 prq, .slice pa pn pc] := by
          rw [rowCs_append]
          simp [rowCs]
        rw [h9]
        exact hown'
      have HB4 : Hid (Below w.heap.size w w4) := ((HB3.out.alloc HB3.out.size _).alloc (by rw [World.size_alloc]; exact Nat.le_succ_of_le HB3.out.size) _).grown hgrow HWS.out (fun i hi => (HR0.out.lt i hi).1)
      have HQ4 : Hid ((Q ++ [(⟨⟨ps, pv, pk, pse, prq, po⟩, .slice pa pn pc⟩ : PEnt)]).length = j + 1 ∧ (Q ++ [(⟨⟨ps, pv, pk, pse, prq, po⟩, .slice pa pn pc⟩ : PEnt)]).map (·.e) = (R.l.drop k0).take (j + 1) ∧ ∀ p ∈ Q ++ [(⟨⟨ps, pv, pk, pse, prq, po⟩, .slice pa pn pc⟩ : PEnt)], p ∈ P) := by
        refine ⟨by rw [List.length_append, HQ.out.1]; rfl, ?_, fun p hp => ?_⟩
        · rw [List.map_append, HQ.out.2.1, take_at (l := R.l.drop k0) (q := j) (o := ⟨ps, pv, pk, pse, prq, po⟩) (by rw [List.getElem?_drop]; exact HPP.out.2)]
          rfl
        · rcases List.mem_append.1 hp with h1 | h1
          · exact HQ.out.2.2 p h1
          · rw [List.mem_singleton] at h1; rw [h1]; exact HPP.out.1
      have e9 : ((A + 1 + (j + 1) : Nat) : Int) = (S : Int) + 1 := by have := HSS.out; omega
      clear hown' hgrow hat hby HR0 HC0 H1C HWS HMX
      go_wp2_with fail
      go_roundw
      case rel => exact ⟨j + 1, _, by rw [e9], by omega, ⟨_, _, rfl⟩, HQ4, HR4, HB4⟩
      case measure => simp [intOf]; omega
    · obtain rfl : j = m := by omega
      have FIN : Hid (EntsAt wr (.slice ma j mc) Q) := ⟨by rw [HQ.out.1]; exact owns_lower HR.out, fun p hp => owns_below (HX.out.mem.ops p (HQ.out.2.2 p hp)) HB.out⟩
      have hor : ¬ A + 1 + j ≤ L ∨ (A + 1 + j ≤ L ∧ j = mo) := by have := HEND.out; omega
      obtain ⟨S, hSS⟩ : ∃ S, A + 1 + j = S := ⟨_, rfl⟩
      rw [hSS] at hor ⊢
      rcases hor with h1 | ⟨h1, h2⟩
      · have c1 : ¬ (S : Int) ≤ (L : Int) := by omega
        clear hSS
        go_wp2_with fail
        go_ret2
        exact ⟨_, rfl, Q, HQ.out.2.1, FIN.out, HB.out⟩
      · have c1 : (S : Int) ≤ (L : Int) := by omega
        have c2 : ¬ (j : Int) < (mo : Int) := by omega
        have c3 : ¬ j < mo := by omega
        clear hSS h2
        go_wp2_with fail
        go_ret2
        exact ⟨_, rfl, Q, HQ.out.2.1, FIN.out, HB.out⟩
theorem rAfter {w0 : World} (w : World) (bx : Nat) (n most : Int) {R : RingT} {F : Nat} {O : Int} {H : List EnT} {P : List PEnt} {la : Option Addr} {lc : Nat} (h : RefAt w0 w bx R F O H P la lc) :
    Calls Try.prog 52 #[.pointer (some ⟨bx, 0, none⟩), .int .i64 n, .int .i64 most] w fun e' w' => ∃ v Q, e' = .returned (.tuple #[v, .int .i64 (R.afterC n most)]) ∧ Q.map (·.e) = R.afterL n most ∧ EntsAt w' v Q ∧ Below w.heap.size w w' := by
  by_cases hc : R.afterC n most = 0
  · have hcc : 0 ≤ most ∧ most ≤ 64 ∧ (R.floor : Int) ≤ n ∧ n ≤ (R.last : Int) := by
      unfold RingT.afterC at hc
      by_cases h0 : most < 0 ∨ 64 < most
      · rw [if_pos h0] at hc; cases hc
      rw [if_neg h0] at hc
      by_cases h1 : n < (R.floor : Int)
      · rw [if_pos h1] at hc; cases hc
      rw [if_neg h1] at hc
      by_cases h2 : (R.last : Int) < n
      · rw [if_pos h2] at hc; cases hc
      omega
    obtain ⟨h0, h1, h2, h3⟩ := hcc
    have hl : R.last = R.floor + R.l.length := rfl
    refine (rAfter_ok w bx n most h (n - R.floor).toNat (min most.toNat (R.l.length - (n - R.floor).toNat)) (by omega) (by omega) h0 h1 rfl).mono ?_
    rintro e' w' ⟨v, Q, rfl, g1, g2, g3⟩
    refine ⟨v, Q, by rw [hc], ?_, g2, g3⟩
    unfold RingT.afterL
    rw [if_pos hc, g1]
    congr 1
    omega
  · refine (rAfter_no w bx n most h hc).mono ?_
    rintro e' w' ⟨rfl, hb⟩
    refine ⟨_, [], rfl, ?_, ents_nil w', hb⟩
    unfold RingT.afterL
    rw [if_neg hc]
    rfl
end Go.Proofs.Ytonppfnjeomcoaa
