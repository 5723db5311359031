/-
  RingTwoRooms: the walk.
-/
import Derived.Test.YtonppfnjeomcoaaRTwo
namespace Go.Proofs.Ytonppfnjeomcoaa
open Go.RowKit Classical
set_option linter.unusedVariables false
set_option linter.unusedSimpArgs false

/-- Two rings between two rounds. -/
structure TwoI (w0 : World) (b1 b2 F : Nat) (O held : Int) (w : World) (R S : RingT) : Prop where
  r : RingAt w b1 R
  s : RingAt w b2 S
  both : Both F O R S held
  below : Below w0.heap.size w0 w
theorem newR_hist (one two floor of : Int) : Both (newR one floor of).floor (newR one floor of).of (newR one floor of) (newR two floor of) (newR one floor of).hold := by
  refine ⟨⟨[], ⟨Nat.le_refl _, Nat.le_refl _, List.drop_nil.symm, ?_⟩, ⟨Nat.le_refl _, Nat.le_refl _, List.drop_nil.symm, ?_⟩⟩, rfl, rfl⟩
  · rw [Nat.sub_self]; rfl
  · rw [show (newR two floor of).floor - (newR one floor of).floor = 0 from Nat.sub_self _]; rfl
theorem wrap_small {n : Int} (h0 : 0 ≤ n) (h1 : n ≤ 64) : IntKind.i64.wrap n = n := by simp [IntKind.wrap, IntKind.bits, IntKind.signed]; omega
set_option maxHeartbeats 3200000 in
set_option maxRecDepth 100000 in
theorem two_walk (one two floor of : Int) (a : Option Addr) (c : Nat) (l : List PAct) (w : World) (h : Acts w a l) (hsm : ∀ x ∈ l, x.A.e.Small) (hl : l.length ≤ maxLen) :
    Calls Try.prog 6 #[.int .i64 one, .int .i64 two, .int .i64 floor, .int .i64 of, .slice a l.length c] w fun e' w' => e' = .returned (.bool true) ∧ Below w.heap.size w w' := by
  unfold maxLen at hl
  have HB : Hid _ := begins_any w
  have HAC : Hid (Acts w a l) := h
  have HSM : Hid (∀ x ∈ l, x.A.e.Small) := hsm
  have HN1 : Hid (∀ w', _) := fun w' => new_any one floor of w'
  have HN2 : Hid (∀ w', _) := fun w' => new_any two floor of w'
  have HHI : Hid _ := newR_hist one two floor of
  have HHF : Hid (newC one floor of = 0 → ((newR one floor of).hold : Int) = floor) := by
    intro hc
    unfold newC at hc
    split at hc
    · cases hc
    · split at hc
      · rename_i h1
        show ((_ : Nat) : Int) = _
        simp only [newR]
        omega
      · cases hc
  obtain ⟨c1, hc1⟩ : ∃ x, newC one floor of = x := ⟨_, rfl⟩
  obtain ⟨c2, hc2⟩ : ∃ x, newC two floor of = x := ⟨_, rfl⟩
  rw [hc1] at HN1 HHF
  rw [hc2] at HN2
  clear h hsm hc1 hc2
  go_enter Try.func6, Try.ntmps6
  go_wp2_with fail
  refine Calls.mono HB.out ?_
  rintro e' w1 ⟨rfl, hb1⟩
  have HB1 : Hid (Below w.heap.size w w1) := hb1
  clear hb1 HB
  go_wp2_with fail
  refine Calls.mono (HN1.out _) ?_
  rintro e' w2 ⟨p1, rfl, hb2, hp1⟩
  have HB2 : Hid (Below w.heap.size w w2) := trans2 HB1.out hb2
  have HP1 : Hid ((c1 ≠ 0 ∧ p1 = none) ∨ (c1 = 0 ∧ ∃ b, p1 = some ⟨b, 0, none⟩ ∧ w1.heap.size ≤ b ∧ RingAt w2 b (newR one floor of))) := hp1
  clear hb2 hp1
  go_wp2_with fail
  refine Calls.mono (HN2.out _) ?_
  rintro e' w3 ⟨p2, rfl, hb3, hp2⟩
  have HB3 : Hid (Below w.heap.size w w3) := trans2 HB2.out hb3
  have HB23 : Hid (Below w2.heap.size w2 w3) := hb3
  have HP2 : Hid ((c2 ≠ 0 ∧ p2 = none) ∨ (c2 = 0 ∧ ∃ b, p2 = some ⟨b, 0, none⟩ ∧ w2.heap.size ≤ b ∧ RingAt w3 b (newR two floor of))) := hp2
  clear hb3 hp2
  by_cases hc1 : c1 = 0
  case neg =>
    have hc1' : (c1 == 0) = false := by simpa using hc1
    go_wp2_with fail
    go_ret
    exact ⟨rfl, HB3.out⟩
  by_cases hc2 : c2 = 0
  case neg =>
    have hc2' : (c2 == 0) = false := by simpa using hc2
    subst hc1
    go_wp2_with fail
    go_ret
    exact ⟨rfl, HB3.out⟩
  subst hc1
  subst hc2
  obtain ⟨b1, hp1, hlo1, hr1⟩ : ∃ b, p1 = some ⟨b, 0, none⟩ ∧ w1.heap.size ≤ b ∧ RingAt w2 b (newR one floor of) := by
    rcases HP1.out with ⟨h, _⟩ | ⟨_, h⟩
    · exact absurd rfl h
    · exact h
  obtain ⟨b2, hp2, hlo2, hr2⟩ : ∃ b, p2 = some ⟨b, 0, none⟩ ∧ w2.heap.size ≤ b ∧ RingAt w3 b (newR two floor of) := by
    rcases HP2.out with ⟨h, _⟩ | ⟨_, h⟩
    · exact absurd rfl h
    · exact h
  subst hp1
  subst hp2
  have HLO1 : Hid (w.heap.size ≤ b1) := Nat.le_trans HB1.out.size hlo1
  have HLO2 : Hid (w.heap.size ≤ b2) := Nat.le_trans HB2.out.size hlo2
  have HNE : Hid (b1 ≠ b2) := by have := hr1.lt; show b1 ≠ b2; omega
  have HHO := HHF.out rfl
  obtain ⟨F, hF⟩ : ∃ F, (newR one floor of).floor = F := ⟨_, rfl⟩
  obtain ⟨O, hO⟩ : ∃ O, (newR one floor of).of = O := ⟨_, rfl⟩
  have hbo := HHI.out
  rw [hF, hO, HHO] at hbo
  have HI : Hid (TwoI w b1 b2 F O floor w3 (newR one floor of) (newR two floor of)) := ⟨hr1.below HB23.out, hr2, hbo, HB3.out⟩
  clear hlo1 hlo2 hr1 hr2 hbo hF hO HHO HHF HP1 HP2 HN1 HN2 HHI HB23
  obtain ⟨m, hm⟩ : ∃ m, l.length = m := ⟨_, rfl⟩
  rw [hm] at hl ⊢
  have HM : Hid (l.length = m) := hm
  clear hm
  go_wp2_with fail
  go_loopw [16, 17] (fun hd i wr => ∃ (q : Nat) (hv : Int) (R S : RingT), i = .int .i64 q ∧ q ≤ m ∧ hd = .int .i64 hv ∧ Hid (TwoI w b1 b2 F O hv wr R S)) (fun _ i _ => m - (intOf i).toNat)
  case atStart => exact ⟨0, floor, _, _, rfl, Nat.zero_le _, rfl, HI⟩
  case round =>
    obtain ⟨q, hv, R, S, rfl, hq, rfl, HT⟩ := hrel
    by_cases hlt : q < m ∧ q < 120
    · obtain ⟨hlt, h40⟩ := hlt
      have hlt' : (q : Int) < (m : Int) := by omega
      have h40' : (q : Int) < 120 := by omega
      obtain ⟨x, hx⟩ : ∃ x, l[q]? = some x := ⟨l[q]'(by rw [HM.out]; exact hlt), List.getElem?_eq_getElem _⟩
      obtain ⟨b, o, rfl, hb, x0, x1, x2, x3, x4, x5, x6, x7, x8⟩ := (HAC.out.below HT.out.below).at hx
      have HX : Hid (l[q]? = some x) := hx
      have HXM : Hid (x ∈ l) := List.mem_of_getElem? hx
      have HD1 : Hid _ := did_both b1 b2 R S x hv w wr HLO1.out HT.out.below HT.out.r HT.out.s HNE.out.symm ((HAC.out.ops x HXM.out).1.below HT.out.below) (HSM.out x HXM.out)
      clear hx hb
      go_wp2_with fail
      refine Calls.mono HD1.out ?_
      rintro e' w4 ⟨t, h', R', ha, rfl, hr4, hs4, hb4⟩
      have HA : Hid (Acted x.A hv R t h' R') := ha
      have HR4 : Hid (RingAt w4 b1 R' ∧ RingAt w4 b2 S ∧ Below w.heap.size w w4) := ⟨hr4, hs4, hb4⟩
      have HD2 : Hid _ := did_both b2 b1 S R' x hv w w4 HLO2.out hb4 hs4 hr4 HNE.out ((HAC.out.ops x HXM.out).1.below hb4) (HSM.out x HXM.out)
      clear ha hr4 hs4 hb4 x0 x1 x2 x3 x4 x5 x6 x7 x8 HD1
      obtain ⟨b', o', he, hb, x0, x1, x2, x3, x4, x5, x6, x7, x8⟩ := (HAC.out.below HR4.out.2.2).at HX.out
      cases he
      clear hb
      go_wp2_with fail
      refine Calls.mono HD2.out ?_
      rintro e' w5 ⟨t2, h2, S', ha2, rfl, hs5, hr5, hb5⟩
      have hstep := both_step HT.out.both HT.out.r.ok HT.out.s.ok HA.out ha2
      have HS5 : Hid (RingAt w5 b1 R' ∧ RingAt w5 b2 S' ∧ Below w.heap.size w w5) := ⟨hr5, hs5, hb5⟩
      clear ha2 hs5 hr5 hb5 x0 x1 x2 x3 x4 x5 x6 x7 x8 HD2 HA
      obtain ⟨b', o', he, hb, x0, x1, x2, x3, x4, x5, x6, x7, x8⟩ := (HAC.out.below HS5.out.2.2).at HX.out
      cases he
      clear hb
      by_cases ht : t = t2
      case neg =>
        have k12 := hstep.1 ht
        clear hstep
        have htt : (t == t2) = false := by simpa using ht
        rcases k12 with k | k
        · rw [k] at x0
          clear k
          go_wp2_with fail
          go_ret
          exact ⟨rfl, HS5.out.2.2⟩
        · rw [k] at x0
          clear k
          go_wp2_with fail
          go_ret
          exact ⟨rfl, HS5.out.2.2⟩
      obtain ⟨hh, hbo⟩ := hstep.2 ht
      subst ht
      subst hh
      have HBO : Hid (Both F O R' S' h') := hbo
      clear hstep hbo x0 x1 x2 x3 x4 x5 x6 x7 x8
      obtain ⟨L, hL⟩ : ∃ L : Int, ((R'.last : Nat) : Int) = L := ⟨_, rfl⟩
      obtain ⟨T, hT⟩ : ∃ T : Int, R'.top = T := ⟨_, rfl⟩
      have HL1 : Hid (∀ w', Below w5.heap.size w5 w' → _) := fun w' hb => last_any (some ⟨b1, 0, none⟩) R' w' (.inr ⟨b1, rfl, HS5.out.1.below hb⟩)
      have HL2 : Hid (∀ w', Below w5.heap.size w5 w' → _) := fun w' hb => last_any (some ⟨b2, 0, none⟩) S' w' (.inr ⟨b2, rfl, HS5.out.2.1.below hb⟩)
      obtain ⟨H, hr, hs⟩ := HBO.out.hist
      rw [show S'.last = R'.last by rw [hr.last, hs.last], show S'.top = R'.top by rw [hr.top, hs.top]] at HL2
      rw [hL, hT] at HL1 HL2
      clear hL hT hr hs
      have HAL1 : Hid (∀ w', Below w5.heap.size w5 w' → _) := fun w' hb => all_at b1 R' w' (HS5.out.1.below hb)
      have HAL2 : Hid (∀ w', Below w5.heap.size w5 w' → _) := fun w' hb => all_at b2 S' w' (HS5.out.2.1.below hb)
      obtain ⟨nR, hnR⟩ : ∃ n, R'.l.length = n := ⟨_, rfl⟩
      obtain ⟨nS, hnS⟩ : ∃ n, S'.l.length = n := ⟨_, rfl⟩
      rw [hnR] at HAL1
      rw [hnS] at HAL2
      have h64R : nR ≤ 64 := by have h1 := HS5.out.1.ok.fits; have h2 := HS5.out.1.ok.room; omega
      have h64S : nS ≤ 64 := by have h1 := HS5.out.2.1.ok.fits; have h2 := HS5.out.2.1.ok.room; omega
      have HNR : Hid (R'.l.length = nR) := hnR
      have HNS : Hid (S'.l.length = nS) := hnS
      clear hnR hnS
      go_wp2_with fail
      refine Calls.mono (HL1.out _ (Below.refl _ _)) ?_
      rintro e' w6 ⟨rfl, hb6⟩
      have HB6 : Hid (Below w5.heap.size w5 w6) := hb6
      clear hb6
      go_wp2_with fail
      refine Calls.mono (HL2.out _ HB6.out) ?_
      rintro e' w7 ⟨rfl, hb7⟩
      have HB7 : Hid (Below w5.heap.size w5 w7) := trans2 HB6.out hb7
      clear hb7
      go_wp2_with fail
      refine Calls.mono (HAL1.out _ HB7.out) ?_
      rintro e' w8 ⟨la, lc, P1, rfl, hm1, he1, h01, hc1, hb8⟩
      have HB8 : Hid (Below w5.heap.size w5 w8) := trans2 HB7.out hb8
      clear hb8
      go_wp2_with fail
      refine Calls.mono (HAL2.out _ HB8.out) ?_
      rintro e' w9 ⟨ma, mc, P2, rfl, hm2, he2, h02, hc2, hb9⟩
      have HB9 : Hid (Below w5.heap.size w5 w9) := trans2 HB8.out hb9
      have he1 := he1.below hb9
      have HM1 : Hid (P1.map (·.e) = R'.l) := hm1
      have HM2 : Hid (P2.map (·.e) = S'.l) := hm2
      have hl1 : P1.length = nR := by rw [← HNR.out, ← hm1, List.length_map]
      have hl2 : P2.length = nS := by rw [← HNS.out, ← hm2, List.length_map]
      have HTI : Hid (∀ w', Below w5.heap.size w5 w' → TwoI w b1 b2 F O h' w' R' S') := fun w' hb => ⟨HS5.out.1.below hb, HS5.out.2.1.below hb, HBO.out, trans2 HS5.out.2.2 hb⟩
      clear hb9 hm1 hm2
      by_cases hcmp : nS < nR
      · have hcmp' : (nS : Int) < (nR : Int) := by omega
        obtain ⟨D, hD⟩ : ∃ D : Nat, nR - nS = D := ⟨_, rfl⟩
        have hD' : (nR : Int) - (nS : Int) = (D : Int) := by omega
        have hD64 : D ≤ 64 := by omega
        have hw1 : IntKind.i64.wrap (D : Int) = (D : Int) := wrap_small (by omega) (by omega)
        have hw0 : IntKind.i64.wrap (0 : Int) = 0 := rfl
        have hw2 : IntKind.i64.wrap ((nR : Int) - (nS : Int)) = (D : Int) := by rw [hD']; exact hw1
        obtain ⟨a1, c1', r1, e1⟩ := slice_from la nR D lc P1 w9 (by omega) hc1 h01 he1 hl1 h64R
        obtain ⟨a2, c2', r2, e2⟩ := slice_from ma nS 0 mc P2 w9 (by omega) hc2 h02 he2 hl2 h64S
        have r2' : ∀ w', (Instr.sliceAt 25 (.slice ma nS mc) (some (.int .i64 0)) none none).run Try.prog w' = .ok (.slice a2 nS c2') w' := by simpa using r2
        rw [show nR - D = nS by omega] at r1
        have HSA : Hid (∀ w', Below w9.heap.size w9 w' → _) := fun w' hb => sameAll_any a1 a2 c1' c2' nS nS (P1.drop D) (P2.drop 0) w' (e1.below hb) (e2.below hb) (by rw [List.length_drop]; omega) (by rw [List.length_drop]; omega) (by unfold maxLen; omega)
        rw [show decide ((P1.drop D).map (·.e) = (P2.drop 0).map (·.e)) = true from decide_eq_true (by
          obtain ⟨H, hr, hs⟩ := HBO.out.hist
          have h1 := hr.tails hs (n := nS) (by rw [HNR.out]; omega) (by rw [HNS.out]; exact Nat.le_refl _)
          rw [HNR.out, HNS.out, Nat.sub_self, hD] at h1
          rw [List.map_drop, List.map_drop, HM1.out, HM2.out]
          exact h1)] at HSA
        clear r2 e1 e2 he1 he2 h01 h02 hc1 hc2 hl1 hl2 hD
        go_wp2_with fail
        go_region_held3 (fun _ => True) (first | trivial | fail)
          (first
          | (go_at_call 20; refine (HSA.out _ (by first | exact Below.refl _ _ | exact below_drewN (Below.refl _ _) _ | exact below_drew (Below.refl _ _))).mono ?_
             rintro e' w10 ⟨rfl, hb10⟩
             have HB10 : Hid (Below w5.heap.size w5 w10) := (by first | exact trans2 HB9.out hb10 | exact trans2 (below_drewN HB9.out _) hb10 | exact trans2 (below_drew HB9.out) hb10)
             clear hb10))
        go_wp2_with fail
        go_roundw
        case rel => exact ⟨q + 1, h', R', S', by go_num, by omega, rfl, HTI.out _ HB10.out⟩
        case measure => simp [intOf]; omega
      · have hcmp' : ¬ (nS : Int) < (nR : Int) := by omega
        obtain ⟨D, hD⟩ : ∃ D : Nat, nS - nR = D := ⟨_, rfl⟩
        have hD' : (nS : Int) - (nR : Int) = (D : Int) := by omega
        have hD64 : D ≤ 64 := by omega
        have hw1 : IntKind.i64.wrap (D : Int) = (D : Int) := wrap_small (by omega) (by omega)
        have hw0 : IntKind.i64.wrap (0 : Int) = 0 := rfl
        have hw2 : IntKind.i64.wrap ((nS : Int) - (nR : Int)) = (D : Int) := by rw [hD']; exact hw1
        obtain ⟨a1, c1', r1, e1⟩ := slice_from la nR 0 lc P1 w9 (by omega) hc1 h01 he1 hl1 h64R
        obtain ⟨a2, c2', r2, e2⟩ := slice_from ma nS D mc P2 w9 (by omega) hc2 h02 he2 hl2 h64S
        have r1' : ∀ w', (Instr.sliceAt 25 (.slice la nR lc) (some (.int .i64 0)) none none).run Try.prog w' = .ok (.slice a1 nR c1') w' := by simpa using r1
        rw [show nS - D = nR by omega] at r2
        have HSA : Hid (∀ w', Below w9.heap.size w9 w' → _) := fun w' hb => sameAll_any a1 a2 c1' c2' nR nR (P1.drop 0) (P2.drop D) w' (e1.below hb) (e2.below hb) (by rw [List.length_drop]; omega) (by rw [List.length_drop]; omega) (by unfold maxLen; omega)
        rw [show decide ((P1.drop 0).map (·.e) = (P2.drop D).map (·.e)) = true from decide_eq_true (by
          obtain ⟨H, hr, hs⟩ := HBO.out.hist
          have h1 := hr.tails hs (n := nR) (by rw [HNR.out]; exact Nat.le_refl _) (by rw [HNS.out]; omega)
          rw [HNR.out, HNS.out, Nat.sub_self, hD] at h1
          rw [List.map_drop, List.map_drop, HM1.out, HM2.out]
          exact h1)] at HSA
        clear r1 e1 e2 he1 he2 h01 h02 hc1 hc2 hl1 hl2 hD
        go_wp2_with fail
        go_region_held3 (fun _ => True) (first | trivial | fail)
          (first
          | (go_at_call 20; refine (HSA.out _ (by first | exact Below.refl _ _ | exact below_drewN (Below.refl _ _) _ | exact below_drew (Below.refl _ _))).mono ?_
             rintro e' w10 ⟨rfl, hb10⟩
             have HB10 : Hid (Below w5.heap.size w5 w10) := (by first | exact trans2 HB9.out hb10 | exact trans2 (below_drewN HB9.out _) hb10 | exact trans2 (below_drew HB9.out) hb10)
             clear hb10))
        go_wp2_with fail
        go_roundw
        case rel => exact ⟨q + 1, h', R', S', by go_num, by omega, rfl, HTI.out _ HB10.out⟩
        case measure => simp [intOf]; omega
    · have hor : ¬ q < m ∨ (q < m ∧ ¬ q < 120) := by omega
      rcases hor with h1 | ⟨h1, h2⟩
      · have h1' : ¬ (q : Int) < (m : Int) := by omega
        go_wp2_with fail
        go_ret
        exact ⟨rfl, HT.out.below⟩
      · have h1' : (q : Int) < (m : Int) := by omega
        have h2' : ¬ (q : Int) < 120 := by omega
        go_wp2_with fail
        go_ret
        exact ⟨rfl, HT.out.below⟩
end Go.Proofs.Ytonppfnjeomcoaa
