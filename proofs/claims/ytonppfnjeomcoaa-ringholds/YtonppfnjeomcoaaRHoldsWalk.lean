/-
  RingHolds: the walk.
-/
import Derived.Test.YtonppfnjeomcoaaRSure
import Derived.Test.YtonppfnjeomcoaaRNoWalk
import Derived.Outline
namespace Go.Proofs.Ytonppfnjeomcoaa
open Go.RowKit Classical
set_option linter.unusedVariables false
set_option linter.unusedSimpArgs false

/-- A ring between two rounds. -/
structure HoldI (w0 : World) (b : Nat) (room : Int) (held : Int) (w : World) (R : RingT) (sv : Value) (P : List PEnt) : Prop where
  r : RingAt w b R
  room : (R.room : Int) = room
  good : R.Good
  held : held = R.hold
  sure : Sure R (P.map (·.e))
  mem : SureAt w0 w sv P
  small : P.length ≤ 64
  each : ∀ p ∈ P, p.e.Small ∧ 0 ≤ p.e.s
  below : Below w0.heap.size w0 w
theorem top_vAt (R : RingT) : R.top = vAt R.of R.l R.l.length := by
  have h : Hist R.floor R.of R.l R := ⟨Nat.le_refl _, Nat.le_add_right _ _, by rw [Nat.sub_self]; rfl, by rw [Nat.sub_self]; rfl⟩
  exact h.top
theorem good_vAt {R : RingT} (g : R.Good) {k : Nat} {e : EnT} (h : R.l[k]? = some e) : vAt R.of R.l k ≤ e.v := by
  cases k with
  | zero => exact g.lo e h
  | succ k =>
    obtain ⟨e0, h0⟩ : ∃ e0, R.l[k]? = some e0 := ⟨R.l[k]'(by have := (List.getElem?_eq_some_iff.1 h).1; omega), List.getElem?_eq_getElem _⟩
    rw [vAt_succ, h0]
    exact g.up k e0 e h0 h
theorem wrap_small {n : Int} (h0 : 0 ≤ n) (h1 : n ≤ 64) : IntKind.i64.wrap n = n := by rw [IntKind.wrap_i64]; omega
theorem HoldI.at {w0 w w' : World} {b : Nat} {room held : Int} {R : RingT} {sv : Value} {P : List PEnt} (h : HoldI w0 b room held w R sv P) (hb : Below w.heap.size w w') : HoldI w0 b room held w' R sv P :=
  ⟨h.r.below hb, h.room, h.good, h.held, h.sure, h.mem.below hb, h.small, h.each, trans2 h.below hb⟩
theorem owns_lower2 {w : World} {B B' e s n : Nat} {v : Value} {xs : List Value} (h : w.ownsRow B e s v n xs) (hB : B' ≤ B) : w.ownsRow B' e s v n xs := by
  refine ⟨h.1, ?_⟩
  rcases h.2 with h | ⟨g, cap, cur, h1, h2, h3⟩
  · exact .inl h
  · exact .inr ⟨g, cap, cur, h1, Nat.le_trans hB h2, h3⟩
theorem newR_good (room floor of : Int) : (newR room floor of).Good := ⟨fun k e h => by simp [newR] at h, fun e h => by simp [newR] at h, fun k e e' h => by simp [newR] at h⟩
set_option maxHeartbeats 3200000 in
set_option maxRecDepth 100000 in
theorem holds_walk (room floor of : Int) (a : Option Addr) (c : Nat) (l : List PAct) (w : World) (h : Acts w a l) (hsm : ∀ x ∈ l, x.A.e.Small) (hl : l.length ≤ maxLen) :
    Calls Try.prog 5 #[.int .i64 room, .int .i64 floor, .int .i64 of, .slice a l.length c] w fun e' w' => e' = .returned (.bool true) ∧ Below w.heap.size w w' := by
  unfold maxLen at hl
  have HB : Hid _ := begins_any w
  have HAC : Hid (Acts w a l) := h
  have HSM : Hid (∀ x ∈ l, x.A.e.Small) := hsm
  have HN1 : Hid (∀ w', _) := fun w' => new_any room floor of w'
  have HHF : Hid (newC room floor of = 0 → ((newR room floor of).hold : Int) = floor ∧ ((newR room floor of).floor : Int) = floor ∧ ((newR room floor of).room : Int) = room) := by
    intro hc
    unfold newC at hc
    split at hc
    · cases hc
    · split at hc
      · rename_i h1
        simp only [newR]
        omega
      · cases hc
  obtain ⟨c1, hc1⟩ : ∃ x, newC room floor of = x := ⟨_, rfl⟩
  rw [hc1] at HN1 HHF
  clear h hsm hc1
  go_enter Try.func5, Try.ntmps5
  go_wp2_with fail
  refine Calls.mono HB.out ?_
  rintro e' w1 ⟨rfl, hb1⟩
  have HB1 : Hid (Below w.heap.size w w1) := hb1
  clear hb1 HB
  go_wp2_with fail
  refine Calls.mono (HN1.out _) ?_
  rintro e' w2 ⟨p1, rfl, hb2, hp1⟩
  have HB2 : Hid (Below w.heap.size w w2) := trans2 HB1.out hb2
  by_cases hc1 : c1 = 0
  case neg =>
    have hp1' : p1 = none := by
      rcases hp1 with ⟨_, h⟩ | ⟨h, _⟩
      · exact h
      · exact absurd h hc1
    subst hp1'
    have hc1' : (c1 == 0) = false := by simpa using hc1
    clear hb2 hp1
    go_wp2_with fail
    go_ret
    exact ⟨rfl, HB2.out⟩
  subst hc1
  obtain ⟨b, hp, hlo1, hr1⟩ : ∃ b, p1 = some ⟨b, 0, none⟩ ∧ w1.heap.size ≤ b ∧ RingAt w2 b (newR room floor of) := by
    rcases hp1 with ⟨h, _⟩ | ⟨_, h⟩
    · exact absurd rfl h
    · exact h
  subst hp
  have HLO1 : Hid (w.heap.size ≤ b) := Nat.le_trans HB1.out.size hlo1
  obtain ⟨f1, f2, f3⟩ := HHF.out rfl
  have HI : Hid (HoldI w b room floor w2 (newR room floor of) (.slice none 0 0) []) := ⟨hr1, f3, newR_good _ _ _, f1.symm, fun e he => absurd he (by simp), SureAt.nil _ _, Nat.zero_le _, fun p hp => absurd hp (by simp), HB2.out⟩
  have HF2 : Hid (((newR room floor of).floor : Int) = floor) := f2
  clear hb2 hp1 hlo1 hr1 f1 f2 f3 HHF HN1
  obtain ⟨m, hm⟩ : ∃ m, l.length = m := ⟨_, rfl⟩
  rw [hm] at hl ⊢
  have HM : Hid (l.length = m) := hm
  clear hm
  go_wp2_with fail
  go_loopw [12, 13, 14, 15] (fun hd lo sv i wr => ∃ (q : Nat) (hv : Int) (R : RingT) (P : List PEnt), i = .int .i64 q ∧ q ≤ m ∧ hd = .int .i64 hv ∧ lo = .int .i64 (R.floor : Int) ∧ (∃ sa sc, sv = .slice sa P.length sc) ∧ Hid (HoldI w b room hv wr R sv P)) (fun _ _ _ i _ => m - (intOf i).toNat)
  case atStart => exact ⟨0, floor, _, [], rfl, Nat.zero_le _, rfl, by rw [HF2.out], ⟨_, _, rfl⟩, HI⟩
  case round =>
    obtain ⟨q, hv, R, P, rfl, hq, rfl, rfl, ⟨sa, sc, rfl⟩, HT⟩ := hrel
    by_cases hlt : q < m ∧ q < 120
    · obtain ⟨hlt, h40⟩ := hlt
      have hlt' : (q : Int) < (m : Int) := by omega
      have h40' : (q : Int) < 120 := by omega
      obtain ⟨x, hx⟩ : ∃ x, l[q]? = some x := ⟨l[q]'(by rw [HM.out]; exact hlt), List.getElem?_eq_getElem _⟩
      obtain ⟨bb, oo, rfl, hb, x0, x1, x2, x3, x4, x5, x6, x7, x8⟩ := (HAC.out.below HT.out.below).at hx
      have HXM : Hid (x ∈ l) := List.mem_of_getElem? hx
      have HD1 : Hid _ := did_any b R x.A hv x.a x.c x.A.e.ops.length wr HT.out.r ((HAC.out.ops x HXM.out).1.below HT.out.below) rfl (HSM.out x HXM.out)
      obtain ⟨F0, hF0⟩ : ∃ F0 : Nat, R.floor = F0 := ⟨_, rfl⟩
      rw [hF0]
      have HF0 : Hid (R.floor = F0) := hF0
      obtain ⟨nP, hnP⟩ : ∃ nP : Nat, P.length = nP := ⟨_, rfl⟩
      rw [hnP]
      have HNP : Hid (P.length = nP) := hnP
      clear hx hb hF0 hnP
      go_wp2_with fail
      refine Calls.mono HD1.out ?_
      rintro e' w4 ⟨t, h', R', ha, rfl, hst⟩
      have hr4 : RingAt w4 b R' := by
        rcases hst.rp with ⟨h, _⟩ | ⟨b', he, hr⟩
        · cases h
        · cases he; exact hr
      obtain ⟨g1, g2, g3, g4, g5, g6⟩ := acted_keeps HT.out.r.ok HT.out.good HT.out.sure HT.out.held ha
      have HS4 : Hid (HoldI w b room h' w4 R' (.slice sa P.length sc) P) := ⟨hr4, by rw [g6]; exact HT.out.room, g1, g3, g2, HT.out.mem.other HT.out.r hst.chg, HT.out.small, HT.out.each, HT.out.below.trans (hst.chg.below (B := w.heap.size) (Nat.le_trans HLO1.out (Nat.le_of_lt HT.out.r.lt)) (fun k _ e => by cases e; exact HLO1.out))⟩
      clear x0 x1 x2 x3 x4 x5 x6 x7 x8 HD1 ha hst hr4 g1 g2
      obtain ⟨fN, hfN⟩ : ∃ fN : Nat, R'.floor = fN := ⟨_, rfl⟩
      obtain ⟨L, hL⟩ : ∃ L : Int, ((R'.last : Nat) : Int) = L := ⟨_, rfl⟩
      obtain ⟨T, hT⟩ : ∃ T : Int, R'.top = T := ⟨_, rfl⟩
      obtain ⟨V, hV⟩ : ∃ V : Int, R'.of = V := ⟨_, rfl⟩
      obtain ⟨nL, hnL⟩ : ∃ n : Nat, R'.l.length = n := ⟨_, rfl⟩
      have hLf : L - (fN : Int) = (nL : Int) := by
        rw [← hL, ← hfN, ← hnL]
        show ((R'.floor + R'.l.length : Nat) : Int) - _ = _
        omega
      have i1 : ¬ (fN : Int) < (F0 : Int) := by rw [← hfN, ← HF0.out]; omega
      have i2 : ¬ h' < hv := by omega
      have i3 : ¬ h' < (fN : Int) := by rw [g3, ← hfN]; have := HS4.out.r.ok.low; omega
      have i4 : ¬ L < h' := by rw [g3, ← hL]; have := HS4.out.r.ok.high; omega
      have i5 : ¬ room < (nL : Int) := by rw [← HS4.out.room, ← hnL]; have := HS4.out.r.ok.fits; omega
      have i1n : ¬ fN < F0 := by omega
      have d1 : decide (fN < F0) = false := by simpa using i1n
      have d2 : decide (h' < hv) = false := by simpa using i2
      have d3 : decide (h' < (fN : Int)) = false := by simpa using i3
      have d4 : decide (L < h') = false := by simpa using i4
      have d5 : decide (room < (nL : Int)) = false := by simpa using i5
      have h64 : nL ≤ 64 := by rw [← hnL]; have h1 := HS4.out.r.ok.fits; have h2 := HS4.out.r.ok.room; omega
      have HFL : Hid (∀ w', Below w4.heap.size w4 w' → _) := fun w' hb => floor_any (some ⟨b, 0, none⟩) R' w' (.inr ⟨b, rfl, HS4.out.r.below hb⟩)
      have HLA : Hid (∀ w', Below w4.heap.size w4 w' → _) := fun w' hb => last_any (some ⟨b, 0, none⟩) R' w' (.inr ⟨b, rfl, HS4.out.r.below hb⟩)
      have HAL : Hid (∀ w', Below w4.heap.size w4 w' → _) := fun w' hb => all_at b R' w' (HS4.out.r.below hb)
      rw [hfN, hV] at HFL
      rw [hL, hT] at HLA
      rw [hnL] at HAL
      have HEQ : Hid (R'.floor = fN ∧ ((R'.last : Nat) : Int) = L ∧ R'.top = T ∧ R'.of = V ∧ R'.l.length = nL) := ⟨hfN, hL, hT, hV, hnL⟩
      have HH' : Hid (h' = R'.hold) := g3
      clear hfN hL hT hV hnL g3 g4 g5 g6 HT
      go_wp2_with fail
      refine Calls.mono (HFL.out _ (Below.refl _ _)) ?_
      rintro e' w5 ⟨rfl, hb5⟩
      have HB5 : Hid (Below w4.heap.size w4 w5) := hb5
      clear hb5
      go_wp2_with fail
      refine Calls.mono (HLA.out _ HB5.out) ?_
      rintro e' w6 ⟨rfl, hb6⟩
      have HB6 : Hid (Below w4.heap.size w4 w6) := trans2 HB5.out hb6
      clear hb6
      go_wp2_with fail
      refine Calls.mono (HAL.out _ HB6.out) ?_
      rintro e' w7 ⟨la, lc, Q, rfl, hm1, he1, h01, hc1, hb7⟩
      have HB7 : Hid (Below w4.heap.size w4 w7) := trans2 HB6.out hb7
      have HQ : Hid (Q.map (·.e) = R'.l) := hm1
      have HE : Hid (EsAt w7 la Q) := he1
      clear hb7 hm1 he1
      have hfm : fN ≤ 2147483647 := by rw [← HEQ.out.1]; have h1 := HS4.out.r.ok.max; have h2 : R'.last = R'.floor + R'.l.length := rfl; omega
      go_wp2_with fail
      clear HFL HLA HAL i1 i2 i3 i4 i5 i1n d1 d2 d3 d4 d5 HB5 HB6
      obtain ⟨f, hf⟩ : ∃ f : Nat → Int, f = vAt V R'.l := ⟨_, rfl⟩
      have HF : Hid (f = vAt V R'.l) := hf
      have hf0 : f 0 = V := by rw [hf]; rfl
      clear hf
      go_loopw [20, 25] (fun vw k wr => ∃ j : Nat, k = .int .i64 j ∧ j ≤ nL ∧ vw = .int .i64 (f j) ∧ wr = w7) (fun _ k _ => nL - (intOf k).toNat)
      case atStart => exact ⟨0, rfl, Nat.zero_le _, by rw [hf0], rfl⟩
      case round =>
        obtain ⟨j, rfl, hj, rfl, hw⟩ := hrel
        subst wr
        clear hf0
        by_cases hjl : j < nL
        · have hjl' : (j : Int) < (nL : Int) := by omega
          have hlQ : Q.length = nL := by rw [← HEQ.out.2.2.2.2, ← HQ.out, List.length_map]
          obtain ⟨p, hp⟩ : ∃ p, Q[j]? = some p := ⟨Q[j]'(by omega), List.getElem?_eq_getElem _⟩
          have hpl : R'.l[j]? = some p.e := by rw [← HQ.out, List.getElem?_map, hp]; rfl
          obtain ⟨gb, go, rfl, -, y0, y1, -, -, -, -⟩ := HE.out.at hp
          have e1 : p.e.s = (fN : Int) + 1 + (j : Int) := by rw [HS4.out.good.st j p.e hpl, HEQ.out.1]; omega
          have e2 : f j ≤ p.e.v := by rw [HF.out, ← HEQ.out.2.2.2.1]; exact good_vAt HS4.out.good hpl
          have e3 : f (j + 1) = p.e.v := by rw [HF.out, vAt_succ, hpl]; rfl
          rw [e1] at y0
          rw [← e3] at y1 e2
          obtain ⟨fj, hfj⟩ : ∃ x, f j = x := ⟨_, rfl⟩
          obtain ⟨fj', hfj'⟩ : ∃ x, f (j + 1) = x := ⟨_, rfl⟩
          have HFJ' : Hid (f (j + 1) = fj') := hfj'
          rw [hfj'] at y1 e2
          rw [hfj] at e2 ⊢
          have e4 : ¬ fj' < fj := by omega
          clear e1 e2 e3 hp hpl hlQ hfj hfj'
          go_wp2_with fail
          go_roundw
          case rel => exact ⟨j + 1, by go_num, by omega, by rw [HFJ'.out], trivial⟩
          case measure => simp [intOf]; omega
        · have hjn : j = nL := by omega
          subst j
          have eT : f nL = T := by rw [HF.out, ← HEQ.out.2.2.1, top_vAt, HEQ.out.2.2.2.1, HEQ.out.2.2.2.2]
          rw [eT]
          clear eT hjl hj HF
          have HES : Hid (EsAt w7 sa P) := by
            have hm7 := HS4.out.mem.below HB7.out
            obtain ⟨a', c', hv', hes⟩ := ents_form ⟨owns_lower hm7.row, hm7.ops⟩ (fun p hp => by have := (HS4.out.each p hp).1.len; unfold maxLen; omega)
            cases hv'
            exact hes
          have hmx : R'.hold ≤ 2147483647 := by have h1 := HS4.out.r.ok.max; have h2 := HS4.out.r.ok.high; omega
          have HMX : Hid (R'.hold ≤ 2147483647) := hmx
          have h64P : nP ≤ 64 := by rw [← HNP.out]; exact HS4.out.small
          clear hmx
          go_wp2_with fail
          go_loopw [26] (fun k wr => ∃ j : Nat, k = .int .i64 j ∧ j ≤ nP ∧ Hid (Below w7.heap.size w7 wr)) (fun k _ => nP - (intOf k).toNat)
          case atStart => exact ⟨0, rfl, Nat.zero_le _, Below.refl _ _⟩
          case round =>
            obtain ⟨j, rfl, hj, HBr⟩ := hrel
            by_cases hjl : j < nP
            · have hjl' : (j : Int) < (nP : Int) := by omega
              obtain ⟨p, hp⟩ : ∃ p, P[j]? = some p := ⟨P[j]'(by rw [HNP.out]; exact hjl), List.getElem?_eq_getElem _⟩
              have hpm : p ∈ P := List.mem_of_getElem? hp
              have hsu := HS4.out.sure p.e (List.mem_map_of_mem hpm)
              have hps := (HS4.out.each p hpm).2
              have hph : p.e.s ≤ 2147483647 := by have h1 := hsu.1; have h2 := HMX.out; omega
              obtain ⟨sb, so, rfl, hsb, s0, s1, s2, s3, s4, s5⟩ := (HES.out.below HBr.out).at hp
              have HRD : Hid (Rd wr p) := (HES.out.below HBr.out).rd p hpm
              by_cases hneg : p.e.s - (fN : Int) - 1 < 0
              · obtain ⟨Sx, hSx⟩ : ∃ Sx : Int, p.e.s - (fN : Int) - 1 = Sx := ⟨_, rfl⟩
                have hneg' : ¬ 0 ≤ Sx := by omega
                have hneg2 : decide (0 ≤ Sx) = false := by simpa using hneg'
                clear hneg
                clear hsu hp hpm HRD
                go_wp2_with fail
                go_region
                go_wp2_with fail
                go_roundw
                case rel => exact ⟨j + 1, by go_num, by omega, by first | exact HBr.out | exact below_drewN HBr.out _ | exact below_drew HBr.out⟩
                case measure => simp [intOf]; omega
              · obtain ⟨k0, hk0⟩ : ∃ k0 : Nat, p.e.s - (fN : Int) - 1 = (k0 : Int) := ⟨(p.e.s - fN - 1).toNat, by omega⟩
                have hl0 : R'.l[k0]? = some p.e := hsu.2 k0 (by rw [HEQ.out.1]; omega)
                have hk0l : k0 < nL := by have := (List.getElem?_eq_some_iff.1 hl0).1; rw [HEQ.out.2.2.2.2] at this; exact this
                have hk0l' : ¬ (nL : Int) ≤ (k0 : Int) := by omega
                have hk0l2 : (k0 : Int) < (nL : Int) := by omega
                have hk0d : decide ((nL : Int) ≤ (k0 : Int)) = false := by simpa using hk0l'
                have hk0z : decide ((0 : Int) ≤ (k0 : Int)) = true := by simp
                have hk0n : ¬ nL ≤ k0 := by omega
                have hk0nd : decide (nL ≤ k0) = false := by simpa using hk0l
                obtain ⟨p2, hp2, hpe⟩ : ∃ p2, Q[k0]? = some p2 ∧ p2.e = p.e := by
                  rw [← HQ.out, List.getElem?_map] at hl0
                  cases hq2 : Q[k0]? with
                  | none => rw [hq2] at hl0; cases hl0
                  | some p2 => rw [hq2] at hl0; exact ⟨p2, rfl, Option.some.inj hl0⟩
                obtain ⟨gb, go, rfl, hgb, y0, y1, y2, y3, y4, y5⟩ := (HE.out.below HBr.out).at hp2
                have HSM2 : Hid (∀ w', Below wr.heap.size wr w' → _) := fun w' hb => same_any p2 p w' (((HE.out.below HBr.out).rd p2 (List.mem_of_getElem? hp2)).below hb) (HRD.out.below hb)
                rw [show decide (p2.e = p.e) = true from decide_eq_true hpe] at HSM2
                have hkw : IntKind.i64.wrap (k0 : Int) = (k0 : Int) := wrap_small (by omega) (by omega)
                clear hsu hp hpm HRD hl0 hp2 hpe
                go_wp2_with fail
                go_region_held3 (fun w' => w'.cell? ⟨gb, go + k0 * 6, none⟩ = some (.int .i64 p2.e.s) ∧ w'.cell? ⟨gb, go + k0 * 6 + 1, none⟩ = some (.int .i64 p2.e.v) ∧ w'.cell? ⟨gb, go + k0 * 6 + 2, none⟩ = some (.int .i64 p2.e.k) ∧ w'.cell? ⟨gb, go + k0 * 6 + 3, none⟩ = some (.int .i64 p2.e.se) ∧ w'.cell? ⟨gb, go + k0 * 6 + 4, none⟩ = some (.int .i64 p2.e.rq) ∧ w'.cell? ⟨gb, go + k0 * 6 + 5, none⟩ = some (p2.x) ∧ w'.cell? ⟨sb, so + j * 6, none⟩ = some (.int .i64 p.e.s) ∧ w'.cell? ⟨sb, so + j * 6 + 1, none⟩ = some (.int .i64 p.e.v) ∧ w'.cell? ⟨sb, so + j * 6 + 2, none⟩ = some (.int .i64 p.e.k) ∧ w'.cell? ⟨sb, so + j * 6 + 3, none⟩ = some (.int .i64 p.e.se) ∧ w'.cell? ⟨sb, so + j * 6 + 4, none⟩ = some (.int .i64 p.e.rq) ∧ w'.cell? ⟨sb, so + j * 6 + 5, none⟩ = some (p.x)) (first | (simp only [World.cell?_drew, World.cell?_drewN, y0, y1, y2, y3, y4, y5, s0, s1, s2, s3, s4, s5, and_self]; done) | fail)
                  (first
                  | (go_at_call 13; refine (HSM2.out _ (by first | exact below_drewN (Below.refl _ _) _ | exact below_drew (Below.refl _ _) | exact Below.refl _ _)).mono ?_
                     rintro e' w8 ⟨rfl, hb8⟩
                     have HB8 : Hid (Below w7.heap.size w7 w8) := (by first | exact trans2 (below_drewN HBr.out _) hb8 | exact trans2 (below_drew HBr.out) hb8 | exact trans2 HBr.out hb8)
                     have hq8 : ∀ k o v, k < wr.heap.size → wr.cell? ⟨k, o, none⟩ = some v → w8.cell? ⟨k, o, none⟩ = some v := fun k o v hk hv => by rw [hb8.cell (p := ⟨k, o, none⟩) hk]; exact hv
                     have y0 := hq8 _ _ _ hgb y0
                     have y1 := hq8 _ _ _ hgb y1
                     have y2 := hq8 _ _ _ hgb y2
                     have y3 := hq8 _ _ _ hgb y3
                     have y4 := hq8 _ _ _ hgb y4
                     have y5 := hq8 _ _ _ hgb y5
                     have s0 := hq8 _ _ _ hsb s0
                     have s1 := hq8 _ _ _ hsb s1
                     have s2 := hq8 _ _ _ hsb s2
                     have s3 := hq8 _ _ _ hsb s3
                     have s4 := hq8 _ _ _ hsb s4
                     have s5 := hq8 _ _ _ hsb s5
                     clear hb8 hq8))
                go_wp2_with fail
                go_roundw
                case rel => exact ⟨j + 1, by go_num, by omega, by first | exact HB8.out | exact below_drewN HB8.out _ | exact below_drew HB8.out⟩
                case measure => simp [intOf]; omega
            · have hjn : j = nP := by omega
              subst j
              clear hjl hj
              cases t with
              | false =>
                go_wp2_with fail
                go_roundw
                case rel => exact ⟨q + 1, h', R', P, by go_num, by omega, rfl, by rw [HEQ.out.1], ⟨_, _, by rw [HNP.out]⟩, by rw [← HNP.out]; exact HS4.out.at (trans2 HB7.out HBr.out)⟩
                case measure => simp [intOf]; omega
              | true =>
                go_wp2_with fail
                obtain ⟨i0, hi, hz0, hz1, hz2⟩ := info_parts Try.infoEn
                have hB9 : Below w7.heap.size w7 wr := HBr.out
                clear HES HNP h64P
                go_loopw [14, 28] (fun sv k wr2 => ∃ (j : Nat) (P' : List PEnt), k = .int .i64 j ∧ j ≤ nL ∧ (∃ sa' sc', sv = .slice sa' j sc') ∧ Hid (P'.map (·.e) = R'.l.take j ∧ P'.length = j ∧ (fN : Int) + j ≤ h') ∧ Hid (SureAt w7 wr2 sv P') ∧ Hid (Below w7.heap.size w7 wr2)) (fun _ k _ => nL - (intOf k).toNat)
                case atStart => exact ⟨0, [], rfl, Nat.zero_le _, ⟨_, _, rfl⟩, ⟨rfl, rfl, by rw [HH'.out, ← HEQ.out.1]; have := HS4.out.r.ok.low; omega⟩, SureAt.nil _ _, hB9⟩
                case round =>
                  obtain ⟨j, P', rfl, hj, ⟨sa', sc', rfl⟩, HP', HSU, HBq⟩ := hrel
                  have fin : (j = nL ∨ h' < (fN : Int) + 1 + j) → HoldI w b room h' wr R' (.slice sa' j sc') P' := fun hor => by
                    have hjj : j = R'.hold - R'.floor := by
                      have h1 := HP'.out.2.2
                      have h2 := HH'.out
                      have h3 := HEQ.out.1
                      have h4 : R'.hold ≤ R'.floor + R'.l.length := HS4.out.r.ok.high
                      have h5 := HEQ.out.2.2.2.2
                      omega
                    refine ⟨HS4.out.r.below (trans2 HB7.out HBq.out), HS4.out.room, HS4.out.good, HH'.out, ?_, ?_, by rw [HP'.out.2.1]; omega, fun p hp => ?_, trans2 HS4.out.below (trans2 HB7.out HBq.out)⟩
                    · rw [HP'.out.1, hjj]; exact Sure.new HS4.out.good
                    · exact ⟨owns_lower2 HSU.out.row (Nat.le_trans (trans2 HS4.out.below HB7.out).size (Nat.le_refl _)), HSU.out.ops⟩
                    · have hpm : p.e ∈ R'.l.take j := by rw [← HP'.out.1]; exact List.mem_map_of_mem hp
                      refine ⟨HS4.out.r.ok.small _ (List.mem_of_mem_take hpm), ?_⟩
                      obtain ⟨k, hk⟩ := List.getElem?_of_mem (List.mem_of_mem_take hpm)
                      rw [HS4.out.good.st k _ hk]; omega
                  by_cases hjl : j < nL
                  · have hjl' : (j : Int) < (nL : Int) := by omega
                    have hlQ : Q.length = nL := by rw [← HEQ.out.2.2.2.2, ← HQ.out, List.length_map]
                    obtain ⟨p, hp⟩ : ∃ p, Q[j]? = some p := ⟨Q[j]'(by omega), List.getElem?_eq_getElem _⟩
                    have hpl : R'.l[j]? = some p.e := by rw [← HQ.out, List.getElem?_map, hp]; rfl
                    have e1 : p.e.s = (fN : Int) + 1 + (j : Int) := by rw [HS4.out.good.st j p.e hpl, HEQ.out.1]; omega
                    have HSMp : Hid (p.e.Small) := HS4.out.r.ok.small _ (List.mem_of_getElem? hpl)
                    have HPLp : Hid (R'.l[j]? = some p.e) := hpl
                    obtain ⟨xa, xc, hxx, hos⟩ := ((HE.out.below HBq.out).rd p (List.mem_of_getElem? hp)).x
                    obtain ⟨gb, go, rfl, hgb, y0, y1, y2, y3, y4, y5⟩ := (HE.out.below HBq.out).at hp
                    rw [hxx] at y5
                    by_cases hst : (fN : Int) + 1 + j ≤ h'
                    · have HTW : Hid (∀ w', Below wr.heap.size wr w' → _) := fun w' hb => twin_own p.e xa p.e.ops.length xc w' (hos.below hb) rfl HSMp.out.len
                      have HBQ : Hid _ := HBq
                      obtain ⟨⟨ps, pv, pk, pse, prq, po⟩, px⟩ := p
                      simp only at e1 hxx y0 y1 y2 y3 y4 y5 HTW HSMp HPLp
                      have HE1 : Hid (ps = (fN : Int) + 1 + (j : Int)) := e1
                      subst ps
                      obtain ⟨n0, hn0⟩ : ∃ n0, po.length = n0 := ⟨_, rfl⟩
                      rw [hn0] at y5 HTW
                      have HN0 : Hid (po.length = n0) := hn0
                      clear hlQ hp hpl hos hxx fin hn0
                      go_wp2_with fail
                      refine Calls.mono (HTW.out _ (Below.refl _ _)) ?_
                      rintro e' w8 ⟨ta, tc, rfl, hto, hb8⟩
                      have HB8 : Hid (Below wr.heap.size wr w8) := hb8
                      have HTO : Hid (OwnOps w8 (.slice ta n0 tc) po) := hto
                      have HR0 : Hid ((w8.alloc (.cells #[.int .i64 ((fN : Int) + 1 + (j : Int)), .int .i64 pv, .int .i64 pk, .int .i64 pse, .int .i64 prq, .slice ta n0 tc] 33)).ownsRow w7.heap.size 33 6 (.slice sa' j sc') j (rowCs PEnt.cells P')) := by
                        have h9 := (HSU.out.below HB8.out).row
                        rw [HP'.out.2.1] at h9
                        exact h9.alloc _
                      have HC0 : Hid (∀ i u, [Value.int .i64 ((fN : Int) + 1 + (j : Int)), .int .i64 pv, .int .i64 pk, .int .i64 pse, .int .i64 prq, .slice ta n0 tc][i]? = some u → (w8.alloc (.cells #[.int .i64 ((fN : Int) + 1 + (j : Int)), .int .i64 pv, .int .i64 pk, .int .i64 pse, .int .i64 prq, .slice ta n0 tc] 33)).cell? ((⟨w8.heap.size, 0, none⟩ : Addr).add i) = some u) := cells_new w8 [.int .i64 ((fN : Int) + 1 + (j : Int)), .int .i64 pv, .int .i64 pk, .int .i64 pse, .int .i64 prq, .slice ta n0 tc] 33
                      have H1C : Hid (∀ u ∈ [Value.int .i64 ((fN : Int) + 1 + (j : Int)), .int .i64 pv, .int .i64 pk, .int .i64 pse, .int .i64 prq, .slice ta n0 tc], u.oneCell' = true) := fun u hu => by
                        simp only [List.mem_cons, List.not_mem_nil, or_false] at hu
                        rcases hu with rfl | rfl | rfl | rfl | rfl | rfl <;> rfl
                      have HMX2 : Hid (j + 1 ≤ maxLen) := by show j + 1 ≤ maxLen; unfold maxLen; omega
                      have hby : (j + 1) * 64 ≤ 140737488355328 := by omega
                      have HWS : Hid (w7.heap.size ≤ (w8.alloc (.cells #[.int .i64 ((fN : Int) + 1 + (j : Int)), .int .i64 pv, .int .i64 pk, .int .i64 pse, .int .i64 prq, .slice ta n0 tc] 33)).heap.size) := by
                        show _ ≤ _
                        rw [World.size_alloc]
                        have h1 := HBq.out.size
                        have h2 := HB8.out.size
                        omega
                      clear hto hb8 y0 y1 y2 y3 y4 y5 HTW
                      go_wp2_with (at_builtin; refine wpList_append_own_at _ rfl _ _ 25 rfl w7.heap.size 33 i0 (.agg #[.int .i64 0, .int .i64 0, .int .i64 0, .int .i64 0, .int .i64 0, .slice none 0 0]) 6 64 Try.underlying25 hi hz0 hz1 hz2 rfl (by decide) (.slice sa' j sc') j (rowCs PEnt.cells P') rfl HR0.out ⟨w8.heap.size, 0, none⟩ 1 1 [.int .i64 ((fN : Int) + 1 + (j : Int)), .int .i64 pv, .int .i64 pk, .int .i64 pse, .int .i64 prq, .slice ta n0 tc] rfl rfl HC0.out H1C.out HMX2.out hby HWS.out ?_)
                      intro v' w9 hown' hgrow _ hat
                      obtain ⟨ma', mc', rfl, -, -⟩ := owns_form hown'
                      have hal : Below w8.heap.size w8 (w8.alloc (.cells #[.int .i64 ((fN : Int) + 1 + (j : Int)), .int .i64 pv, .int .i64 pk, .int .i64 pse, .int .i64 prq, .slice ta n0 tc] 33)) := (Below.refl _ _).alloc (Nat.le_refl _) _
                      have HS9 : Hid (SureAt w7 w9 (.slice ma' (j + 1) mc') (P' ++ [⟨⟨(fN : Int) + 1 + (j : Int), pv, pk, pse, prq, po⟩, .slice ta n0 tc⟩])) := by
                        refine SureAt.put (p := ⟨⟨(fN : Int) + 1 + (j : Int), pv, pk, pse, prq, po⟩, .slice ta n0 tc⟩) ((HSU.out.below HB8.out).below hal) (owns_below HTO.out hal) ?_ hgrow
                        rw [HP'.out.2.1]
                        exact hown'
                      have HB9 : Hid (Below w7.heap.size w7 w9) := by
                        have h1 : Below w7.heap.size w7 (w8.alloc (.cells #[.int .i64 ((fN : Int) + 1 + (j : Int)), .int .i64 pv, .int .i64 pk, .int .i64 pse, .int .i64 prq, .slice ta n0 tc] 33)) := trans2 (trans2 HBq.out HB8.out) hal
                        exact h1.grown hgrow HWS.out (fun i hi => (HR0.out.lt i hi).1)
                      have HP9 : Hid ((P' ++ [(⟨⟨(fN : Int) + 1 + (j : Int), pv, pk, pse, prq, po⟩, .slice ta n0 tc⟩ : PEnt)]).map (·.e) = R'.l.take (j + 1) ∧ (P' ++ [(⟨⟨(fN : Int) + 1 + (j : Int), pv, pk, pse, prq, po⟩, .slice ta n0 tc⟩ : PEnt)]).length = j + 1 ∧ (fN : Int) + ((j + 1 : Nat) : Int) ≤ h') := by
                        refine ⟨?_, ?_, by omega⟩
                        · rw [List.map_append, HP'.out.1, take_at HPLp.out]; rfl
                        · rw [List.length_append, HP'.out.2.1]; rfl
                      clear hown' hgrow hat hal hby HTO HR0 HC0 H1C HWS HMX2
                      go_wp2_with fail
                      go_roundw
                      case rel => exact ⟨j + 1, _, by go_num, by omega, ⟨_, _, rfl⟩, HP9, HS9, HB9⟩
                      case measure => simp [intOf]; omega
                    · rw [e1] at y0
                      have FIN : Hid _ := fin (.inr (by omega))
                      clear hlQ hp hpl hos hxx e1 fin
                      go_wp2_with fail
                      go_roundw
                      case rel => exact ⟨q + 1, h', R', P', by go_num, by omega, rfl, by rw [HEQ.out.1], ⟨_, _, by rw [HP'.out.2.1]⟩, FIN⟩
                      case measure => simp [intOf]; omega
                  · have hjn : ¬ (j : Int) < (nL : Int) := by omega
                    have FIN : Hid _ := fin (.inl (by omega))
                    clear fin
                    go_wp2_with fail
                    go_roundw
                    case rel => exact ⟨q + 1, h', R', P', by go_num, by omega, rfl, by rw [HEQ.out.1], ⟨_, _, by rw [HP'.out.2.1]⟩, FIN⟩
                    case measure => simp [intOf]; omega
    · have hor : ¬ q < m ∨ (q < m ∧ ¬ q < 120) := by omega
      rcases hor with h1 | ⟨h1, h2⟩
      · have h1' : ¬ (q : Int) < (m : Int) := by omega
        go_wp2_with fail
        go_ret
        exact ⟨rfl, HT.out.below⟩
      · have h1' : (q : Int) < (m : Int) := by omega
        have h2' : ¬ (q : Int) < 120 := by omega
        go_wp2_with fail
        go_ret
        exact ⟨rfl, HT.out.below⟩
end Go.Proofs.Ytonppfnjeomcoaa
