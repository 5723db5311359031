/-
  WireStreams: the walk.
-/
import Derived.Test.YtdjibjmhjofedacWStreams3
import Derived.Deep.RegionHeld3
namespace Go.Proofs.Ytdjibjmhjofedac
open Go.RowKit
set_option linter.unusedVariables false

set_option maxHeartbeats 25600000 in
set_option maxRecDepth 100000 in
theorem streams_small (a0 a1 a2 : Option Addr) (c0 c1 c2 : Nat) (ps qs : List Pc) (zs : List Int) (w : World) (h0 : Pcs w a0 ps) (h1 : Pcs w a1 qs) (h2 : Its w a2 zs) (hs0 : (bodyOf ps).length ≤ 20000 ∧ ps.length ≤ 24) (hs1 : (bodyOf qs).length ≤ 20000 ∧ qs.length ≤ 24) (hz : ∀ z ∈ zs, -9223372036854775808 ≤ z ∧ z ≤ 9223372036854775807) (hzl : zs.length ≤ 9223372036854775807) (hc0 : ps.length ≤ c0) (hc1 : qs.length ≤ c1) :
    Calls Try.prog 5 #[.slice a0 ps.length c0, .slice a1 qs.length c1, .slice a2 zs.length c2] w fun e w' => e = .returned (.bool true) ∧ Below w.heap.size w w' := by
  have HP0 : Hid (Pcs w a0 ps) := h0
  have HP1 : Hid (Pcs w a1 qs) := h1
  have HZ : Hid (Its w a2 zs) := h2
  have HS : Hid _ := small_any a0 c0 ps w h0 (by omega) (by omega)
  rw [decide_eq_true hs0] at HS
  have HS1 : Hid _ := small_any a1 c1 qs w h1 (by omega) (by omega)
  rw [decide_eq_true hs1] at HS1
  have HT0 : Hid _ := twins_any a0 c0 ps w h0 hs0.2 hs0.1
  clear h0 h1 h2
  go_enter Try.func5, Try.ntmps5
  go_wp2_with fail
  refine Calls.mono HS.out ?_
  rintro e w1 ⟨rfl, rfl⟩
  go_wp2_with fail
  refine Calls.mono HS1.out ?_
  rintro e w2 ⟨rfl, rfl⟩
  clear HS HS1
  go_wp2_with fail
  refine Calls.mono HT0.out ?_
  rintro e w3 ⟨lv, ts, rfl, hlrow, htw, hte, hb3⟩
  have HT1 : Hid _ := twins_any a1 c1 qs w3 (HP1.out.below hb3) hs1.2 hs1.1
  obtain ⟨la, lc, rfl, hlp⟩ := htw.pcs hlrow
  have HLP : Hid (Pcs w3 la (ts.map Tw.pc)) := hlp
  have HTW : Hid (Tws w3 w2.heap.size ts) := htw
  have HTE : Hid _ := hte
  have HB3 : Hid _ := hb3
  clear hlrow htw hte hb3 hlp HT0
  go_wp2_with fail
  refine Calls.mono HT1.out ?_
  rintro e w4 ⟨mv, us, rfl, hmrow, huw, hue, hb4⟩
  obtain ⟨ma, mc, rfl, hmp⟩ := huw.pcs hmrow
  have HMP : Hid (Pcs w4 ma (us.map Tw.pc)) := hmp
  have HUW : Hid (Tws w4 w3.heap.size us) := huw
  have HUE : Hid _ := hue
  have HB4 : Hid (Below w2.heap.size w2 w4) := trans2 HB3.out hb4
  have HLP4 : Hid (Pcs w4 la (ts.map Tw.pc)) := HLP.out.below hb4
  have HTW4 : Hid (Tws w4 w2.heap.size ts) := HTW.out.below hb4
  have HLL : Hid (ts.length = ps.length) := same_len HTE.out
  have HML : Hid (us.length = qs.length) := same_len HUE.out
  clear hmrow huw hue hb4 hmp HT1 HLP HTW HB3
  have hll := HLL.out
  have hml := HML.out
  have HI0 : Hid _ := Two.start (Below.refl w4.heap.size w4)
  go_wp2_with fail
  go_loopw [11, 12, 13] (fun g o i W => ∃ (k m n : Nat) (rv fv rt ft : Value) (fs gs : List (Value × List Int)), i = .int .i64 k ∧ (k ≤ ps.length ∨ k ≤ qs.length) ∧ g = .int .i64 m ∧ o = .int .i64 n ∧ m ≤ 20000 ∧ n ≤ 20000 ∧ Hid (Two w4 w4.heap.size rv fv (bodyOf (ps.take k)) m fs (w4.heap.size + 1) rt ft (bodyOf (qs.take k)) n gs W)) (fun _ _ i _ => 25 - (intOf i).toNat)
  case atStart => exact ⟨0, 0, 0, _, _, _, _, [], [], rfl, .inl (Nat.zero_le _), rfl, rfl, Nat.zero_le _, Nat.zero_le _, HI0⟩
  case round =>
    obtain ⟨k, m, n, rv, fv, rt, ft, fs, gs, rfl, hkk, rfl, rfl, hm, hn, HI⟩ := hrel
    have hl0 : (bodyOf (ps.take (k + 1))).length ≤ 20000 := Nat.le_trans (body_le ps (k + 1)) hs0.1
    have hl1 : (bodyOf (qs.take (k + 1))).length ≤ 20000 := Nat.le_trans (body_le qs (k + 1)) hs1.1
    clear HI0
    by_cases hex : k < ps.length ∨ k < qs.length
    · by_cases hzk : k < zs.length
      · obtain ⟨z, hzz⟩ : ∃ z, zs[k]? = some z := ⟨zs[k], List.getElem?_eq_getElem hzk⟩
        have hM := hz z (List.mem_of_getElem? hzz)
        obtain ⟨b2, o2, hz2, hcz⟩ : ∃ b o, a2 = some ⟨b, o, none⟩ ∧ wr.cell? ⟨b, o + k, none⟩ = some (.int .i64 z) := by
          rcases HZ.out with h | ⟨b, o, rfl, hb, hc⟩
          · rw [h] at hzk; cases hzk
          · exact ⟨b, o, rfl, ((trans2 HB4.out HI.out.bel).cell (p := ⟨b, o + k, none⟩) hb).trans (hc k z hzz)⟩
        subst hz2
        have hzI : (k : Int) < (zs.length : Int) := by omega
        clear hzz hz
        by_cases h0 : k < ps.length
        · obtain ⟨p, hp⟩ : ∃ p, ps[k]? = some p := ⟨ps[k], List.getElem?_eq_getElem h0⟩
          obtain ⟨b0, o0, pa, pc, hla, hct, hby, hyb, hyc, hcm⟩ := twin_at HLP4.out HTW4.out HTE.out hp HI.out.bel
          subst hla
          obtain ⟨x0, y0, hxa⟩ : ∃ x y, a0 = some ⟨x, y, none⟩ := by
            rcases HP0.out.1 with h | ⟨x, y, h, _⟩
            · rw [h] at h0; cases h0
            · exact ⟨x, y, h⟩
          subst hxa
          have HF : Hid _ := two_feed HI.out pa pc p.2.2 hby hyb hyc hcm (by rw [← body_step hp]; exact hl0)
          rw [← body_step hp] at HF
          have h0I : (k : Int) < (ps.length : Int) := by omega
          have h0c : (k : Int) + 1 ≤ (c0 : Int) := by omega
          have hpl : p.2.2.length ≤ 20000 := by
            have := Nat.le_trans (body_le ps (k + 1)) hs0.1
            rw [body_step hp, List.length_append] at this
            omega
          clear hby hyb
          go_wp2_with fail
          refine Calls.mono HF.out ?_
          rintro e w5 ⟨⟨v, rfl⟩, rv1, fv1, fs1, hI1⟩
          have HI1 : Hid _ := hI1
          have HFO : Hid _ := two_follows hI1 (some ⟨x0, y0, none⟩) c0 (ps.take (k + 1)) (k + 1) z ((HP0.out.below (trans2 HB4.out hI1.bel)).take (k + 1)) (by rw [List.length_take]; omega) rfl hl0 (by rw [List.length_take]; omega) hM
          clear hI1 HF
          go_wp2_with fail
          refine Calls.mono HFO.out ?_
          rintro e w6 ⟨m1, fv2, fs2, rfl, hI2, hm1, -⟩
          have HI2 : Hid _ := hI2
          clear hI2 HFO HI1
          by_cases h1 : k < qs.length
          · obtain ⟨q, hq⟩ : ∃ q, qs[k]? = some q := ⟨qs[k], List.getElem?_eq_getElem h1⟩
            obtain ⟨b1, o1, qa, qc, hma, hcu, hby, hyb, hyd, hcn⟩ := twin_at HMP.out HUW.out HUE.out hq HI2.out.bel
            subst hma
            obtain ⟨x1, y1, hxb⟩ : ∃ x y, a1 = some ⟨x, y, none⟩ := by
              rcases HP1.out.1 with h | ⟨x, y, h, _⟩
              · rw [h] at h1; cases h1
              · exact ⟨x, y, h⟩
            subst hxb
            have HG : Hid _ := two_feed' HI2.out qa qc q.2.2 hby hyb hyd hcn (by rw [← body_step hq]; exact hl1)
            rw [← body_step hq] at HG
            have h1I : (k : Int) < (qs.length : Int) := by omega
            have h1c : (k : Int) + 1 ≤ (c1 : Int) := by omega
            have hql : q.2.2.length ≤ 20000 := by
              have := Nat.le_trans (body_le qs (k + 1)) hs1.1
              rw [body_step hq, List.length_append] at this
              omega
            clear hby hyb
            go_wp2_with fail
            refine Calls.mono HG.out ?_
            rintro e w7 ⟨⟨v7, rfl⟩, rt1, ft1, gs1, hJ1⟩
            have HJ1 : Hid _ := hJ1
            have HGO : Hid _ := two_follows' hJ1 (some ⟨x1, y1, none⟩) c1 (qs.take (k + 1)) (k + 1) z ((HP1.out.below (trans2 HB4.out hJ1.bel)).take (k + 1)) (by rw [List.length_take]; omega) rfl hl1 (by rw [List.length_take]; omega) hM
            clear hJ1 HG
            go_wp2_with fail
            refine Calls.mono HGO.out ?_
            rintro e w8 ⟨n1, ft2, gs2, rfl, hJ2, hn1, -⟩
            have HJ2 : Hid _ := hJ2
            clear hJ2 HGO HJ1
            go_wp2
            exact ⟨⟨k + 1, m1, n1, _, _, _, _, _, _, by go_num, by omega, rfl, rfl, hm1, hn1, HJ2⟩, by simp [intOf]; omega⟩
          · have h1I : (qs.length : Int) ≤ (k : Int) := by omega
            rw [← body_take (ps := qs) (k := k) (by omega)] at HI2
            go_wp2
            exact ⟨⟨k + 1, m1, n, _, _, _, _, _, _, by go_num, by omega, rfl, rfl, hm1, hn, HI2⟩, by simp [intOf]; omega⟩
        · have h1 : k < qs.length := by omega
          have h0I : (ps.length : Int) ≤ (k : Int) := by omega
          rw [← body_take (ps := ps) (k := k) (by omega)] at HI
          obtain ⟨q, hq⟩ : ∃ q, qs[k]? = some q := ⟨qs[k], List.getElem?_eq_getElem h1⟩
          obtain ⟨b1, o1, qa, qc, hma, hcu, hby, hyb, hyd, hcn⟩ := twin_at HMP.out HUW.out HUE.out hq HI.out.bel
          subst hma
          obtain ⟨x1, y1, hxb⟩ : ∃ x y, a1 = some ⟨x, y, none⟩ := by
            rcases HP1.out.1 with h | ⟨x, y, h, _⟩
            · rw [h] at h1; cases h1
            · exact ⟨x, y, h⟩
          subst hxb
          have HG : Hid _ := two_feed' HI.out qa qc q.2.2 hby hyb hyd hcn (by rw [← body_step hq]; exact hl1)
          rw [← body_step hq] at HG
          have h1I : (k : Int) < (qs.length : Int) := by omega
          have h1c : (k : Int) + 1 ≤ (c1 : Int) := by omega
          have hql : q.2.2.length ≤ 20000 := by
            have := Nat.le_trans (body_le qs (k + 1)) hs1.1
            rw [body_step hq, List.length_append] at this
            omega
          clear hby hyb
          go_wp2_with fail
          refine Calls.mono HG.out ?_
          rintro e w7 ⟨⟨v7, rfl⟩, rt1, ft1, gs1, hJ1⟩
          have HJ1 : Hid _ := hJ1
          have HGO : Hid _ := two_follows' hJ1 (some ⟨x1, y1, none⟩) c1 (qs.take (k + 1)) (k + 1) z ((HP1.out.below (trans2 HB4.out hJ1.bel)).take (k + 1)) (by rw [List.length_take]; omega) rfl hl1 (by rw [List.length_take]; omega) hM
          clear hJ1 HG
          go_wp2_with fail
          refine Calls.mono HGO.out ?_
          rintro e w8 ⟨n1, ft2, gs2, rfl, hJ2, hn1, -⟩
          have HJ2 : Hid _ := hJ2
          clear hJ2 HGO HJ1
          go_wp2
          exact ⟨⟨k + 1, m, n1, _, _, _, _, _, _, by go_num, by omega, rfl, rfl, hm, hn1, HJ2⟩, by simp [intOf]; omega⟩
      · have hzI : (zs.length : Int) ≤ (k : Int) := by omega
        have hM : -9223372036854775808 ≤ (1000 : Int) ∧ (1000 : Int) ≤ 9223372036854775807 := by omega
        by_cases h0 : k < ps.length
        · obtain ⟨p, hp⟩ : ∃ p, ps[k]? = some p := ⟨ps[k], List.getElem?_eq_getElem h0⟩
          obtain ⟨b0, o0, pa, pc, hla, hct, hby, hyb, hyc, hcm⟩ := twin_at HLP4.out HTW4.out HTE.out hp HI.out.bel
          subst hla
          obtain ⟨x0, y0, hxa⟩ : ∃ x y, a0 = some ⟨x, y, none⟩ := by
            rcases HP0.out.1 with h | ⟨x, y, h, _⟩
            · rw [h] at h0; cases h0
            · exact ⟨x, y, h⟩
          subst hxa
          have HF : Hid _ := two_feed HI.out pa pc p.2.2 hby hyb hyc hcm (by rw [← body_step hp]; exact hl0)
          rw [← body_step hp] at HF
          have h0I : (k : Int) < (ps.length : Int) := by omega
          have h0c : (k : Int) + 1 ≤ (c0 : Int) := by omega
          have hpl : p.2.2.length ≤ 20000 := by
            have := Nat.le_trans (body_le ps (k + 1)) hs0.1
            rw [body_step hp, List.length_append] at this
            omega
          clear hby hyb
          go_wp2_with fail
          refine Calls.mono HF.out ?_
          rintro e w5 ⟨⟨v, rfl⟩, rv1, fv1, fs1, hI1⟩
          have HI1 : Hid _ := hI1
          have HFO : Hid _ := two_follows hI1 (some ⟨x0, y0, none⟩) c0 (ps.take (k + 1)) (k + 1) 1000 ((HP0.out.below (trans2 HB4.out hI1.bel)).take (k + 1)) (by rw [List.length_take]; omega) rfl hl0 (by rw [List.length_take]; omega) hM
          clear hI1 HF
          go_wp2_with fail
          refine Calls.mono HFO.out ?_
          rintro e w6 ⟨m1, fv2, fs2, rfl, hI2, hm1, -⟩
          have HI2 : Hid _ := hI2
          clear hI2 HFO HI1
          by_cases h1 : k < qs.length
          · obtain ⟨q, hq⟩ : ∃ q, qs[k]? = some q := ⟨qs[k], List.getElem?_eq_getElem h1⟩
            obtain ⟨b1, o1, qa, qc, hma, hcu, hby, hyb, hyd, hcn⟩ := twin_at HMP.out HUW.out HUE.out hq HI2.out.bel
            subst hma
            obtain ⟨x1, y1, hxb⟩ : ∃ x y, a1 = some ⟨x, y, none⟩ := by
              rcases HP1.out.1 with h | ⟨x, y, h, _⟩
              · rw [h] at h1; cases h1
              · exact ⟨x, y, h⟩
            subst hxb
            have HG : Hid _ := two_feed' HI2.out qa qc q.2.2 hby hyb hyd hcn (by rw [← body_step hq]; exact hl1)
            rw [← body_step hq] at HG
            have h1I : (k : Int) < (qs.length : Int) := by omega
            have h1c : (k : Int) + 1 ≤ (c1 : Int) := by omega
            have hql : q.2.2.length ≤ 20000 := by
              have := Nat.le_trans (body_le qs (k + 1)) hs1.1
              rw [body_step hq, List.length_append] at this
              omega
            clear hby hyb
            go_wp2_with fail
            refine Calls.mono HG.out ?_
            rintro e w7 ⟨⟨v7, rfl⟩, rt1, ft1, gs1, hJ1⟩
            have HJ1 : Hid _ := hJ1
            have HGO : Hid _ := two_follows' hJ1 (some ⟨x1, y1, none⟩) c1 (qs.take (k + 1)) (k + 1) 1000 ((HP1.out.below (trans2 HB4.out hJ1.bel)).take (k + 1)) (by rw [List.length_take]; omega) rfl hl1 (by rw [List.length_take]; omega) hM
            clear hJ1 HG
            go_wp2_with fail
            refine Calls.mono HGO.out ?_
            rintro e w8 ⟨n1, ft2, gs2, rfl, hJ2, hn1, -⟩
            have HJ2 : Hid _ := hJ2
            clear hJ2 HGO HJ1
            go_wp2
            exact ⟨⟨k + 1, m1, n1, _, _, _, _, _, _, by go_num, by omega, rfl, rfl, hm1, hn1, HJ2⟩, by simp [intOf]; omega⟩
          · have h1I : (qs.length : Int) ≤ (k : Int) := by omega
            rw [← body_take (ps := qs) (k := k) (by omega)] at HI2
            go_wp2
            exact ⟨⟨k + 1, m1, n, _, _, _, _, _, _, by go_num, by omega, rfl, rfl, hm1, hn, HI2⟩, by simp [intOf]; omega⟩
        · have h1 : k < qs.length := by omega
          have h0I : (ps.length : Int) ≤ (k : Int) := by omega
          rw [← body_take (ps := ps) (k := k) (by omega)] at HI
          obtain ⟨q, hq⟩ : ∃ q, qs[k]? = some q := ⟨qs[k], List.getElem?_eq_getElem h1⟩
          obtain ⟨b1, o1, qa, qc, hma, hcu, hby, hyb, hyd, hcn⟩ := twin_at HMP.out HUW.out HUE.out hq HI.out.bel
          subst hma
          obtain ⟨x1, y1, hxb⟩ : ∃ x y, a1 = some ⟨x, y, none⟩ := by
            rcases HP1.out.1 with h | ⟨x, y, h, _⟩
            · rw [h] at h1; cases h1
            · exact ⟨x, y, h⟩
          subst hxb
          have HG : Hid _ := two_feed' HI.out qa qc q.2.2 hby hyb hyd hcn (by rw [← body_step hq]; exact hl1)
          rw [← body_step hq] at HG
          have h1I : (k : Int) < (qs.length : Int) := by omega
          have h1c : (k : Int) + 1 ≤ (c1 : Int) := by omega
          have hql : q.2.2.length ≤ 20000 := by
            have := Nat.le_trans (body_le qs (k + 1)) hs1.1
            rw [body_step hq, List.length_append] at this
            omega
          clear hby hyb
          go_wp2_with fail
          refine Calls.mono HG.out ?_
          rintro e w7 ⟨⟨v7, rfl⟩, rt1, ft1, gs1, hJ1⟩
          have HJ1 : Hid _ := hJ1
          have HGO : Hid _ := two_follows' hJ1 (some ⟨x1, y1, none⟩) c1 (qs.take (k + 1)) (k + 1) 1000 ((HP1.out.below (trans2 HB4.out hJ1.bel)).take (k + 1)) (by rw [List.length_take]; omega) rfl hl1 (by rw [List.length_take]; omega) hM
          clear hJ1 HG
          go_wp2_with fail
          refine Calls.mono HGO.out ?_
          rintro e w8 ⟨n1, ft2, gs2, rfl, hJ2, hn1, -⟩
          have HJ2 : Hid _ := hJ2
          clear hJ2 HGO HJ1
          go_wp2
          exact ⟨⟨k + 1, m, n1, _, _, _, _, _, _, by go_num, by omega, rfl, rfl, hm, hn1, HJ2⟩, by simp [intOf]; omega⟩
    · obtain ⟨hx0, hx1⟩ : ps.length ≤ k ∧ qs.length ≤ k := by omega
      rw [List.take_of_length_le hx0, List.take_of_length_le hx1] at HI
      have h0I : (ps.length : Int) ≤ (k : Int) := by omega
      have h1I : (qs.length : Int) ≤ (k : Int) := by omega
      have HFO : Hid _ := two_follows HI.out a0 c0 ps ps.length 100000 (HP0.out.below (trans2 HB4.out HI.out.bel)) rfl rfl hs0.1 hs0.2 (by omega)
      clear hl0 hl1
      go_wp2_with fail
      refine Calls.mono HFO.out ?_
      rintro e w5 ⟨m1, fv1, fs1, rfl, hI1, hm1, hmm⟩
      have HMM : Hid (m1 = (dec (bodyOf ps)).1.length) := hmm trivial
      have HGO : Hid _ := two_follows' hI1 a1 c1 qs qs.length 100000 (HP1.out.below (trans2 HB4.out hI1.bel)) rfl rfl hs1.1 hs1.2 (by omega)
      clear hI1 hmm HFO HI
      go_wp2_with fail
      refine Calls.mono HGO.out ?_
      rintro e w6 ⟨n1, ft1, gs1, rfl, hI2, hn1, hnn⟩
      have HNN : Hid (n1 = (dec (bodyOf qs)).1.length) := hnn trivial
      have HB6 : Hid (Below w4.heap.size w4 w6) := hI2.bel
      have HJ0 : Hid _ := joined_any a0 c0 ps w6 (HP0.out.below (trans2 HB4.out hI2.bel)) (by omega) (by omega)
      clear hI2 hnn HGO
      go_wp2_with fail
      refine Calls.mono HJ0.out ?_
      rintro e w7 ⟨ja0, jc0, rfl, hjrow, hbj⟩
      obtain ⟨hjb, hjl, hjm⟩ := row_cap hjrow
      have HBw7 : Hid (Below w4.heap.size w4 w7) := trans2 HB6.out hbj
      have HSY : Hid _ := says_any ja0 jc0 (bodyOf ps) w7 hjb (body_byt HP0.out) hjl hjm (by omega)
      clear hjrow hbj hjb hjl hjm HJ0
      go_wp2_with fail
      refine Calls.mono HSY.out ?_
      rintro e w8 ⟨xv0, xs0, rfl, hxb, hxrow, -, hbs⟩
      obtain ⟨xa0, xn0, xc0, rfl⟩ := owns_slice hxrow
      obtain rfl : m1 = xn0 := by
        have h1 := congrArg List.length hxb
        rw [List.length_map] at h1
        have h2 := HMM.out
        rcases hxrow.2 with ⟨h, h3⟩ | ⟨_, _, _, h, _⟩
        · cases h; omega
        · cases h; omega
      have HBw8 : Hid (Below w4.heap.size w4 w8) := trans2 HBw7.out hbs
      clear hxb hxrow hbs HSY
      have HJ1 : Hid _ := joined_any a1 c1 qs w8 (HP1.out.below (trans2 HB4.out HBw8.out)) (by omega) (by omega)
      go_wp2_with fail
      refine Calls.mono HJ1.out ?_
      rintro e w9 ⟨ja1, jc1, rfl, hjrow, hbj⟩
      obtain ⟨hjb, hjl, hjm⟩ := row_cap hjrow
      have HBw9 : Hid (Below w4.heap.size w4 w9) := trans2 HBw8.out hbj
      have HSY : Hid _ := says_any ja1 jc1 (bodyOf qs) w9 hjb (body_byt HP1.out) hjl hjm (by omega)
      clear hjrow hbj hjb hjl hjm HJ1
      go_wp2_with fail
      refine Calls.mono HSY.out ?_
      rintro e w10 ⟨xv1, xs1, rfl, hxb, hxrow, -, hbs⟩
      obtain ⟨xa1, xn1, xc1, rfl⟩ := owns_slice hxrow
      obtain rfl : n1 = xn1 := by
        have h1 := congrArg List.length hxb
        rw [List.length_map] at h1
        have h2 := HNN.out
        rcases hxrow.2 with ⟨h, h3⟩ | ⟨_, _, _, h, _⟩
        · cases h; omega
        · cases h; omega
      have HBw10 : Hid (Below w4.heap.size w4 w10) := trans2 HBw9.out hbs
      clear hxb hxrow hbs HSY
      have hc1 := conv_at w10 #[.int .u8 97] 1 1 w10.heap.size rfl
      have HPC : Hid (Pcs ((w10.alloc (.cells #[.int .u8 97] 5 (1, 2))).alloc (.cells #[.slice (some ⟨w10.heap.size, 0, none⟩) 1 1] 26)) (some ⟨w10.heap.size + 1, 0, none⟩) [(some ⟨w10.heap.size, 0, none⟩, 1, [97])]) := by
        have h := one_pcs (c := 1) (lit_bys w10 [97] (1, 2)) byt_a (fun h => by cases h)
        rw [World.size_alloc] at h
        exact h
      have HB11 : Hid (Below w10.heap.size w10 ((w10.alloc (.cells #[.int .u8 97] 5 (1, 2))).alloc (.cells #[.slice (some ⟨w10.heap.size, 0, none⟩) 1 1] 26))) := ((Below.refl _ _).alloc (Nat.le_refl _) _).alloc (by simp) _
      go_wp2_with fail
      clear hc1
      refine (frame_any (some ⟨w10.heap.size + 1, 0, none⟩) 1 _ _ HPC.out (show 1 ≤ 262144 by omega) (show 1 ≤ 1000000 by omega)).mono ?_
      rw [one_body]
      rintro e w12 ⟨fa, fc, rfl, hfrow, hb12⟩
      obtain ⟨hfb, hfl, hfm⟩ := row_cap hfrow
      have HB12 : Hid (Below w4.heap.size w4 w12) := trans2 (trans2 HBw10.out HB11.out) hb12
      have HLF : Hid _ := last_feed w12 fa fc hfb hfl hfm
      clear hfrow hb12 hfb hfl hfm HB11 HPC
      go_wp2_with fail
      refine Calls.mono HLF.out ?_
      rintro e w13 ⟨⟨v13, rfl⟩, rv3, fv3, xs3, p3, sk3, hst3, hp3, hb13, hfv3⟩
      have HB13 : Hid (Below w4.heap.size w4 w13) := trans2 HB12.out hb13
      have HLT : Hid _ := last_taken (base := w12.heap.size) hst3 hp3 (Nat.le_refl _) hfv3 hb13.size
      have HS13 : Hid (w4.heap.size ≤ w12.heap.size) := HB12.out.size
      clear hst3 hp3 hb13 hfv3 HLF
      go_wp2_with fail
      refine Calls.mono HLT.out ?_
      rintro e w14 ⟨zg, zc, ga, gc, rfl, hzc, hgb, hb14⟩
      have HB14 : Hid (Below w4.heap.size w4 w14) := HB13.out.trans (hb14.mono HS13.out)
      have HZC : Hid (w14.cell? ⟨zg, 0, none⟩ = some (.slice ga 1 gc)) := hzc
      have HGB : Hid (Bys w14 ga [97]) := hgb
      have HAU : Hid _ := allUn_any la a0 lc c0 w2.heap.size ts ps w14 (HLP4.out.below HB14.out) (HP0.out.below (trans2 HB4.out HB14.out)) (HTW4.out.below HB14.out) HTE.out hs0.2 hs0.1
      rw [HLL.out] at HAU
      clear hzc hgb hb14 HLT
      go_wp2_with fail
      refine Calls.mono HAU.out ?_
      rintro e w15 ⟨rfl, hb15⟩
      have HBZ : Hid (Below w14.heap.size w14 w15) := hb15
      have HB15 : Hid (Below w4.heap.size w4 w15) := trans2 HB14.out hb15
      have HAV : Hid _ := allUn_any ma a1 mc c1 w3.heap.size us qs w15 (HMP.out.below HB15.out) (HP1.out.below (trans2 HB4.out HB15.out)) (HUW.out.below HB15.out) HUE.out hs1.2 hs1.1
      rw [HML.out] at HAV
      clear hb15 HAU
      go_wp2_with fail
      refine Calls.mono HAV.out ?_
      rintro e w16 ⟨rfl, hb16⟩
      have HB16 : Hid (Below w4.heap.size w4 w16) := trans2 HB15.out hb16
      have HBY : Hid (Below w14.heap.size w14 w16) := trans2 HBZ.out hb16
      have hzc : w16.cell? ⟨zg, 0, none⟩ = some (.slice ga 1 gc) := (HBY.out.cell (p := ⟨zg, 0, none⟩) (World.block_lt_of_cell? _ _ HZC.out)).trans HZC.out
      have al : Below w16.heap.size w16 (w16.alloc (.cells #[.int .u8 97] 5 (1, 2))) := (Below.refl _ _).alloc (Nat.le_refl _) _
      have HAL : Hid (Below w16.heap.size w16 (w16.alloc (.cells #[.int .u8 97] 5 (1, 2)))) := al
      have hzd : (w16.alloc (.cells #[.int .u8 97] 5 (1, 2))).cell? ⟨zg, 0, none⟩ = some (.slice ga 1 gc) := (al.cell (p := ⟨zg, 0, none⟩) (World.block_lt_of_cell? _ _ hzc)).trans hzc
      have hc1 := conv_at w16 #[.int .u8 97] 1 1 w16.heap.size rfl
      have HSM : Hid (Calls Try.prog 13 #[.slice ga 1 gc, .slice (some ⟨w16.heap.size, 0, none⟩) 1 1] (w16.alloc (.cells #[.int .u8 97] 5 (1, 2))) fun e w' => e = .returned (.bool true) ∧ Below (w16.alloc (.cells #[.int .u8 97] 5 (1, 2))).heap.size (w16.alloc (.cells #[.int .u8 97] 5 (1, 2))) w') := by
        have h := same_is (c := gc) (d := 1) ((HGB.out.below HBY.out).below al) (lit_bys w16 [97] (1, 2)) (by unfold maxLen; simp)
        rw [decide_eq_true rfl] at h
        exact h
      clear hb16 al HAV
      go_wp2_with fail

      refine Calls.mono HSM.out ?_
      rintro e w17 ⟨rfl, hb17⟩
      have HB17 : Hid (Below w4.heap.size w4 w17) := trans2 (trans2 HB16.out HAL.out) hb17
      clear hb17 HSM hc1
      go_wp2
      go_ret
      exact ⟨rfl, trans2 HB4.out HB17.out⟩
end Go.Proofs.Ytdjibjmhjofedac
