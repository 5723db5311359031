/-
  ring: RingIsNew.
-/
import Derived.Test.YtnmengoefpdaiaaINewE
namespace Go.Proofs.Ytnmengoefpdaiaa.I
open Go.RowKit
set_option linter.unusedVariables false
set_option linter.unusedSimpArgs false

theorem fR_small {room n : Nat} {w : World} {b : Nat} (h : RingAt w b (fR room n)) : (fR room n).l.length ≤ 64 ∧ ∀ e ∈ (fR room n).l, e.Small := ⟨Nat.le_trans h.ok.fits h.ok.room, h.ok.small⟩
set_option maxHeartbeats 12800000 in
set_option maxRecDepth 100000 in
theorem RingIsNew_low (rm nn : Nat) (sa : Option Addr) (m0 sc : Nat) (ms0 : List Int) (w : World) (h : IntsAt w (fun b => b < w.heap.size) (.slice sa m0 sc) ms0) (hm0 : ms0.length = m0) (hr : ¬ (((rm : Int) < 1 ∨ 64 < (rm : Int)) ∨ ((nn : Int) < 0 ∨ 100 < (nn : Int)))) (h24 : ¬ 24 < m0) :
    Calls Try.prog 3 #[.int .i64 (rm : Int), .int .i64 (nn : Int), .slice sa m0 sc] w fun e w' => e = .returned (.bool true) ∧ Below w.heap.size w w' := by
      have HMS0 : Hid (IntsAt w (fun b => b < w.heap.size) (.slice sa m0 sc) ms0) := h
      have HM0 : Hid (ms0.length = m0) := hm0
      clear h hm0
      have hr1 : ¬ (rm : Int) < 1 := by omega
      have hr2 : ¬ (64 : Int) < (rm : Int) := by omega
      have hr3 : ¬ (nn : Int) < 0 := by omega
      have hr4 : ¬ (100 : Int) < (nn : Int) := by omega
      have HFI : Hid (∀ w', _) := fun w' => filled_any rm nn w' (by omega) (by omega) (by omega)
      have HRL : Hid (nn ≤ 100) := by show nn ≤ 100; omega
      clear hr
      have h24' : ¬ (24 : Int) < (m0 : Int) := by omega
      obtain ⟨ms, mn, hms⟩ : ∃ ms mn, ms = ms0 ∧ mn = m0 := ⟨_, _, rfl, rfl⟩
      have HMS : Hid (IntsAt w (fun b => b < w.heap.size) (.slice sa mn sc) ms) := by rw [hms.1, hms.2]; exact HMS0
      have HMSN : Hid (ms.length = mn) := by rw [hms.1, hms.2]; exact HM0
      have hmn24 : mn ≤ 24 := by omega
      rw [← hms.2]
      rw [← hms.2] at h24'
      clear hms HMS0 HM0 h24
      go_enter Try.func3, Try.ntmps3
      go_wp2_with fail
      refine Calls.mono (begins_any w) ?_
      rintro e wb ⟨rfl, hbb⟩
      have HBB : Hid (Below w.heap.size w wb) := hbb
      clear hbb
      go_wp2_with fail
      refine Calls.mono (HFI.out wb) ?_
      rintro e w1 ⟨b, rfl, hbl, hra, hb1⟩
      have HBW1 : Hid (Below w.heap.size w w1) := trans2 HBB.out hb1
      obtain ⟨R, hR⟩ : ∃ z, fR rm nn = z := ⟨_, rfl⟩
      have HR64 : Hid (R.l.length ≤ 64 ∧ ∀ e ∈ R.l, e.Small) := by rw [← hR]; exact fR_small hra
      have HRF : Hid (R.floor ≤ 100) := by show _ ≤ _; rw [← hR]; show nn - rm ≤ 100; have := HRL.out; omega
      have HOPS : Hid (∀ e ∈ R.l, e.ops.length ≤ 5000) := by
        intro e he
        rw [← hR] at he
        obtain ⟨i, _, rfl⟩ := List.mem_map.1 he
        show (opsI i).length ≤ 5000
        exact (by decide : 2 ≤ 5000)
      rw [hR] at hra
      have HRA : Hid (RingAt w1 b R) := hra
      have HRP : Hid (∀ w', Below w1.heap.size w1 w' → RP w' (some ⟨b, 0, none⟩) R) := fun w' hb => .inr ⟨b, rfl, HRA.out.below hb⟩
      have HW1B : Hid (∀ w', Below w1.heap.size w1 w' → Below w.heap.size w w') := fun w' hb => trans2 HBW1.out hb
      obtain ⟨ln, hln⟩ : ∃ z, R.l.length = z := ⟨_, rfl⟩
      have HLN : Hid (R.l.length = ln) := hln
      have hln64 : ln ≤ 64 := by rw [← hln]; exact HR64.out.1
      have HB0 : Hid (w.heap.size ≤ b) := Nat.le_trans HBB.out.size hbl
      have HI0 : Hid (Ti w1 w1 (.slice none 0 0) (.slice none 0 0) [] [] [] [] ((List.replicate 0 (XX R ms)).flatten)) := ⟨Tl.start w1, rfl, rfl⟩
      clear hbl hra hb1 hR hln
      go_wp2_with fail
      go_loopw [9, 10, 11, 12, 13, 14, 15, 16, 17, 18, 19, 20, 21] (fun tv wv k _ _ _ _ _ _ _ _ _ _ wr => ∃ (q : Nat) (us cs : List Value) (PP CC : List (List PEnt)), k = .int .i64 q ∧ q ≤ 2 ∧ Hid (Ti w1 wr tv wv us cs PP CC ((List.replicate q (XX R ms)).flatten))) (fun _ _ k _ _ _ _ _ _ _ _ _ _ _ => 2 - (intOf k).toNat)
      case atStart => exact ⟨0, [], [], [], [], rfl, Nat.zero_le _, HI0⟩
      case round =>
        clear HI0
        obtain ⟨q, us, cs, PP, CC, rfl, hq, HI⟩ := hrel
        by_cases hlt : q < 2
        · have hqi : (q : Int) < 2 := by omega
          obtain ⟨wS, rfl⟩ : ∃ z, z = wr := ⟨_, rfl⟩
          obtain ⟨E, hE⟩ : ∃ z, (List.replicate q (XX R ms)).flatten = z := ⟨_, rfl⟩
          obtain ⟨N, hN⟩ : ∃ z, E.length = z := ⟨_, rfl⟩
          rw [hE] at HI
          have HEN : Hid (E.length = N) := hN
          have hxl : (XX R ms).length ≤ 89 := by unfold XX XA XS; simp; have := HMSN.out; have := HLN.out; omega
          have hN1 : N ≤ 89 := by
            rw [← hN, ← hE]
            rcases Nat.lt_or_ge q 1 with h1 | h1
            · obtain rfl : q = 0 := by omega
              simp
            · obtain rfl : q = 1 := by omega
              simpa using hxl
          have HEQ : Hid ((List.replicate (q + 1) (XX R ms)).flatten = E ++ XX R ms) := by show _ = _; rw [List.replicate_succ', List.flatten_append, hE]; simp
          have HLEN : Hid (us.length = N ∧ cs.length = N) := by have h9 := HI.out.len; rw [hN] at h9; exact h9
          obtain ⟨N6, hN6⟩ : ∃ z, N + 1 = z := ⟨_, rfl⟩
          have HN6 : Hid (N + 1 = N6) := hN6
          have hN6' : N6 ≤ 90 := by omega
          have HQ2 : Hid (q < 2) := hlt
          clear hE hN hxl hN6 hlt
          go_wp2_with fail
          refine Calls.mono (all_anyN (some ⟨b, 0, none⟩) R wS (HRP.out wS HI.out.tl.below)) ?_
          rintro e w2 ⟨v, P, rfl, hP, hE2, hN2, hb2⟩
          have HB2 : Hid (Below wS.heap.size wS w2) := hb2
          have HPE : Hid (P.map (·.e) = R.l) := hP
          have HPS : Hid (P.length ≤ 64 ∧ ∀ p ∈ P, p.e.Small) := ⟨by have h9 := congrArg List.length hP; rw [List.length_map] at h9; rw [h9]; exact HR64.out.1, fun p hp => HR64.out.2 p.e (by rw [← hP]; exact List.mem_map_of_mem hp)⟩
          obtain ⟨xa, xc, hxv, _⟩ := owns_form hE2.row
          have hPl : P.length = ln := by have h9 := congrArg List.length hP; rw [List.length_map] at h9; rw [h9]; exact HLN.out
          rw [hPl] at hxv
          subst hxv
          have HE2 : Hid (EntsAt w2 (.slice xa ln xc) P) := hE2
          have HN2 : Hid (NdE wS.heap.size (.slice xa ln xc) P) := hN2
          clear hP hE2 hN2 hb2 hPl
          have HRT : Hid (w2.ownsRow w1.heap.size 27 1 u9 N us) := by
            have h9 : w2.ownsRow w1.heap.size 27 1 u9 us.length us := owns_below HI.out.tl.row HB2.out
            rw [HLEN.out.1] at h9
            exact h9
          have HSZT : Hid (w1.heap.size ≤ w2.heap.size) := Nat.le_trans HI.out.tl.below.size HB2.out.size
          go_wp2_with (first
            | (at_builtin; refine wpList_row Try.underlying26 Try.infoEnts rfl (by decide) rfl _ _ rfl w1.heap.size u9 N us rfl (World.ownsRow.alloc HRT.out _) w2.heap.size 1 [.slice xa ln xc] rfl (heap_alloc_new _ _) rfl (fun y hy => by
                 simp only [List.mem_cons, List.not_mem_nil, or_false] at hy
                 rw [hy]
                 rfl) (by unfold maxLen; omega) (by omega) (by rw [World.size_alloc]; have := HSZT.out; omega) ?_)
            | fail)
          intro tv3 w3 hd3 hg3 ho3
          have hal3 : Below w2.heap.size w2 (w2.alloc (.cells #[.slice xa ln xc] 27)) := (Below.refl _ _).alloc (Nat.le_refl _) _
          have HT3 : Hid (Tl w1 w3 tv3 u10 (us ++ [.slice xa ln xc]) cs (PP ++ [P]) CC) := HI.out.tl.told (trans2 HB2.out hal3) (HE2.out.belowB hal3) HN2.out (by rw [HLEN.out.1]; exact hd3) hg3 (by simpa using ho3)
          have HE3 : Hid (EntsAt w3 (.slice xa ln xc) P) := by
            have h9 := HT3.out.each.2 us.length (.slice xa ln xc) P (by simp) (by rw [HI.out.tl.each.1]; simp)
            exact h9
          obtain ⟨ta3, tc3, htv3, _⟩ := row_form hd3
          subst htv3
          clear hd3 hg3 ho3 hal3
          go_wp2_with fail
          refine Calls.mono (twins_any (.slice xa ln xc) P w3 HE3.out HPS.out.1 HPS.out.2) ?_
          rintro e w4 ⟨cv, C, rfl, hC, hE4, hn4, hb4⟩
          obtain ⟨ca, cc, hcv, _⟩ := owns_form hE4.row
          obtain ⟨cn, hcn⟩ : ∃ z, C.length = z := ⟨_, rfl⟩
          rw [hcn] at hcv
          subst hcv
          have HE4 : Hid (EntsAt w4 (.slice ca cn cc) C ∧ C.map (·.e) = P.map (·.e) ∧ (∀ j, EsB (.slice ca cn cc) C j → w3.heap.size ≤ j)) := ⟨hE4, hC, fun j hj => hn4 j hj⟩
          have HB4 : Hid (Below w3.heap.size w3 w4) := hb4
          have HRW : Hid (w4.ownsRow w1.heap.size 27 1 u10 N cs) := by
            have h9 : w4.ownsRow w1.heap.size 27 1 u10 cs.length cs := owns_below HT3.out.rowW HB4.out
            rw [HLEN.out.2] at h9
            exact h9
          have HSZW : Hid (w1.heap.size ≤ w4.heap.size) := Nat.le_trans HT3.out.below.size HB4.out.size
          clear hE4 hC hn4 hb4 hcn
          go_wp2_with (first
            | (at_builtin; refine wpList_row Try.underlying26 Try.infoEnts rfl (by decide) rfl _ _ rfl w1.heap.size u10 N cs rfl (World.ownsRow.alloc HRW.out _) w4.heap.size 1 [.slice ca cn cc] rfl (heap_alloc_new _ _) rfl (fun y hy => by
                 simp only [List.mem_cons, List.not_mem_nil, or_false] at hy
                 rw [hy]
                 rfl) (by unfold maxLen; omega) (by omega) (by rw [World.size_alloc]; have := HSZW.out; omega) ?_)
            | fail)
          intro wv5 w5 hd5 hg5 ho5
          have hal5 : Below w4.heap.size w4 (w4.alloc (.cells #[.slice ca cn cc] 27)) := (Below.refl _ _).alloc (Nat.le_refl _) _
          have HT5 : Hid (Ti w1 w5 (.slice ta3 (N + 1) tc3) wv5 (us ++ [.slice xa ln xc]) (cs ++ [.slice ca cn cc]) (PP ++ [P]) (CC ++ [C]) (E ++ [R.l])) := by
            refine ⟨HT3.out.was (trans2 HB4.out hal5) (HE4.out.1.belowB hal5) HE4.out.2.2 (by rw [HLEN.out.2]; exact hd5) hg5 (by simpa using ho5), ?_, ?_⟩
            · rw [List.map_append, HI.out.eP, List.map_cons, List.map_nil, HPE.out]
            · rw [List.map_append, HI.out.eC, List.map_cons, List.map_nil, HE4.out.2.1, HPE.out]
          obtain ⟨wa5, wc5, hwv5, _⟩ := row_form hd5
          subst hwv5
          clear hd5 hg5 ho5 hal5
          go_wp2_with fail
          refine Calls.mono (floor_any (some ⟨b, 0, none⟩) R w5 (HRP.out w5 HT5.out.tl.below)) ?_
          rintro e w6 ⟨rfl, hb6⟩
          have HT6 : Hid (Ti w1 w6 (.slice ta3 (N + 1) tc3) (.slice wa5 (N + 1) wc5) (us ++ [.slice xa ln xc]) (cs ++ [.slice ca cn cc]) (PP ++ [P]) (CC ++ [C]) (E ++ [R.l])) := HT5.out.ext hb6
          clear hb6
          obtain ⟨E6, hE6⟩ : ∃ z, E ++ [R.l] = z := ⟨_, rfl⟩
          rw [hE6] at HT6
          have HE6 : Hid (E ++ [R.l] = E6 ∧ E6.length = N + 1) := ⟨hE6, by rw [← hE6, List.length_append, HEN.out]; rfl⟩
          obtain ⟨US, hUS⟩ : ∃ z, us ++ [.slice xa ln xc] = z := ⟨_, rfl⟩
          obtain ⟨CS, hCS⟩ : ∃ z, cs ++ [.slice ca cn cc] = z := ⟨_, rfl⟩
          rw [hUS, hCS] at HT6
          clear hE6 hUS hCS
          obtain ⟨fl, hfl⟩ : ∃ z, R.floor = z := ⟨_, rfl⟩
          have HFL : Hid (R.floor = fl) := hfl
          have hflm : fl ≤ 100 := by rw [← hfl]; exact HRF.out
          rw [hfl]
          clear hfl
          go_wp2_with fail
          clear HT3 HT5 HE3 HE4 HB4 HRW HSZW HRT HSZT HPE HPS HB2 HE2 HN2 HI HLEN
          go_loopw [9, 10, 16, 17, 18] (fun tv wv i _ _ wr => ∃ (t : Nat) (us cs : List Value) (PP CC : List (List PEnt)), i = .int .i64 t ∧ t ≤ mn ∧ Hid (Ti w1 wr tv wv us cs PP CC (E6 ++ XA R ms t))) (fun _ _ i _ _ _ => mn - (intOf i).toNat)
          case atStart => exact ⟨0, US, CS, PP ++ [P], CC ++ [C], rfl, Nat.zero_le _, by have h9 := HT6; rw [show E6 = E6 ++ XA R ms 0 by simp [XA]] at h9; exact h9⟩
          case round =>
            clear HT6
            obtain ⟨t, us, cs, PP, CC, rfl, ht, HI⟩ := hrel
            by_cases hlt : t < mn
            · have hti : (t : Int) < (mn : Int) := by omega
              obtain ⟨wS, rfl⟩ : ∃ z, z = wr := ⟨_, rfl⟩
              obtain ⟨y, hy⟩ : ∃ y, ms[t]? = some y := ⟨ms[t]'(by rw [HMSN.out]; exact hlt), List.getElem?_eq_getElem _⟩
              obtain ⟨mb, mo, rfl, _, hmb, hyc⟩ := RowAt.get (IntsAt.keep HMS.out (Kp.of_below (HW1B.out wS HI.out.tl.below) _)) hy
              have m0 : wS.cell? ⟨mb, mo + t, none⟩ = some (.int .i64 y) := by have h9 : wS.cell? ⟨mb, mo + t * 1, none⟩ = some (.int .i64 y) := hyc; rw [Nat.mul_one] at h9; exact h9
              have hr3 : ((t : Int)).tmod 3 = ((t % 3 : Nat) : Int) := by rw [show (3 : Int) = ((3 : Nat) : Int) from rfl, ← Int.ofNat_tmod]
              have hw3 : IntKind.i64.wrap ((fl : Int) + ((t % 3 : Nat) : Int)) = (fl : Int) + ((t % 3 : Nat) : Int) := by unfold IntKind.wrap; simp [IntKind.bits, IntKind.signed]; omega
              have hw2 : IntKind.i64.wrap (((t % 3 : Nat) : Int)) = ((t % 3 : Nat) : Int) := by unfold IntKind.wrap; simp [IntKind.bits, IntKind.signed]; omega
              obtain ⟨z3, hz3⟩ : ∃ z : Nat, t % 3 = z := ⟨_, rfl⟩
              rw [hz3] at hr3 hw3 hw2
              have HXA : Hid (Xa R ms t = R.afterL ((fl : Int) + (z3 : Int)) y) := by show _ = _; unfold Xa; rw [hz3, HFL.out, hy]; rfl
              have HAF : Hid _ := after_anyN (some ⟨b, 0, none⟩) R ((fl : Int) + (z3 : Int)) y wS (HRP.out wS HI.out.tl.below)
              rw [← HXA.out] at HAF
              obtain ⟨E, hE⟩ : ∃ z, E6 ++ XA R ms t = z := ⟨_, rfl⟩
              obtain ⟨N, hN⟩ : ∃ z, E.length = z := ⟨_, rfl⟩
              have HNQ : Hid (N = N6 + t) := by show _ = _; rw [← hN, ← hE, List.length_append, HE6.out.2, HN6.out]; simp [XA]
              have hNb : N ≤ 130 := by have := HNQ.out; omega
              rw [hE] at HI
              have HEX : Hid (E6 ++ XA R ms (t + 1) = E ++ [Xa R ms t]) := by show _ = _; rw [XA_snoc, ← List.append_assoc, hE]
              have HLEN : Hid (us.length = N ∧ cs.length = N) := by have h9 := HI.out.len; rw [hN] at h9; exact h9
              have HT : Hid (t < mn) := hlt
              clear hy hyc hmb hE hN hz3 hlt
              go_wp2_with fail
              refine Calls.mono HAF.out ?_
              rintro e w2 ⟨v, P, rfl, hP, hE2, hN2, hb2⟩
              have HB2 : Hid (Below wS.heap.size wS w2) := hb2
              have HPE : Hid (P.map (·.e) = Xa R ms t) := hP
              have HPS : Hid (P.length ≤ 64 ∧ ∀ p ∈ P, p.e.Small) := by
                refine ⟨?_, fun p hp => ?_⟩
                · have h9 := congrArg List.length hP
                  rw [List.length_map] at h9
                  rw [h9]
                  exact Nat.le_trans (by rw [HXA.out]; exact afterL_len _ _ _) HR64.out.1
                · refine HR64.out.2 p.e (afterL_sub R ((fl : Int) + (z3 : Int)) y p.e ?_)
                  rw [← HXA.out, ← hP]
                  exact List.mem_map_of_mem hp
              obtain ⟨xa, xc, hxv, _⟩ := owns_form hE2.row
              obtain ⟨xn, hxn⟩ : ∃ z, P.length = z := ⟨_, rfl⟩
              rw [hxn] at hxv
              subst hxv
              have HE2 : Hid (EntsAt w2 (.slice xa xn xc) P) := hE2
              have HN2 : Hid (NdE wS.heap.size (.slice xa xn xc) P) := hN2
              clear hP hE2 hN2 hb2 hxn m0 hr3 hw3 hw2
              have HRT : Hid (w2.ownsRow w1.heap.size 27 1 u9 N us) := by
                have h9 : w2.ownsRow w1.heap.size 27 1 u9 us.length us := owns_below HI.out.tl.row HB2.out
                rw [HLEN.out.1] at h9
                exact h9
              have HSZT : Hid (w1.heap.size ≤ w2.heap.size) := Nat.le_trans HI.out.tl.below.size HB2.out.size
              go_wp2_with (first
                | (at_builtin; refine wpList_row Try.underlying26 Try.infoEnts rfl (by decide) rfl _ _ rfl w1.heap.size u9 N us rfl (World.ownsRow.alloc HRT.out _) w2.heap.size 1 [.slice xa xn xc] rfl (heap_alloc_new _ _) rfl (fun y hy => by
                     simp only [List.mem_cons, List.not_mem_nil, or_false] at hy
                     rw [hy]
                     rfl) (by unfold maxLen; omega) (by omega) (by rw [World.size_alloc]; have := HSZT.out; omega) ?_)
                | fail)
              intro tv3 w3 hd3 hg3 ho3
              have hal3 : Below w2.heap.size w2 (w2.alloc (.cells #[.slice xa xn xc] 27)) := (Below.refl _ _).alloc (Nat.le_refl _) _
              have HT3 : Hid (Tl w1 w3 tv3 u10 (us ++ [.slice xa xn xc]) cs (PP ++ [P]) CC) := HI.out.tl.told (trans2 HB2.out hal3) (HE2.out.belowB hal3) HN2.out (by rw [HLEN.out.1]; exact hd3) hg3 (by simpa using ho3)
              have HE3 : Hid (EntsAt w3 (.slice xa xn xc) P) := by
                have h9 := HT3.out.each.2 us.length (.slice xa xn xc) P (by simp) (by rw [HI.out.tl.each.1]; simp)
                exact h9
              obtain ⟨ta3, tc3, htv3, _⟩ := row_form hd3
              subst htv3
              clear hd3 hg3 ho3 hal3
              go_wp2_with fail
              refine Calls.mono (twins_any (.slice xa xn xc) P w3 HE3.out HPS.out.1 HPS.out.2) ?_
              rintro e w4 ⟨cv, C, rfl, hC, hE4, hn4, hb4⟩
              obtain ⟨ca, cc, hcv, _⟩ := owns_form hE4.row
              obtain ⟨cn, hcn⟩ : ∃ z, C.length = z := ⟨_, rfl⟩
              rw [hcn] at hcv
              subst hcv
              have HE4 : Hid (EntsAt w4 (.slice ca cn cc) C ∧ C.map (·.e) = P.map (·.e) ∧ (∀ j, EsB (.slice ca cn cc) C j → w3.heap.size ≤ j)) := ⟨hE4, hC, fun j hj => hn4 j hj⟩
              have HB4 : Hid (Below w3.heap.size w3 w4) := hb4
              have HRW : Hid (w4.ownsRow w1.heap.size 27 1 u10 N cs) := by
                have h9 : w4.ownsRow w1.heap.size 27 1 u10 cs.length cs := owns_below HT3.out.rowW HB4.out
                rw [HLEN.out.2] at h9
                exact h9
              have HSZW : Hid (w1.heap.size ≤ w4.heap.size) := Nat.le_trans HT3.out.below.size HB4.out.size
              clear hE4 hC hn4 hb4 hcn
              go_wp2_with (first
                | (at_builtin; refine wpList_row Try.underlying26 Try.infoEnts rfl (by decide) rfl _ _ rfl w1.heap.size u10 N cs rfl (World.ownsRow.alloc HRW.out _) w4.heap.size 1 [.slice ca cn cc] rfl (heap_alloc_new _ _) rfl (fun y hy => by
                     simp only [List.mem_cons, List.not_mem_nil, or_false] at hy
                     rw [hy]
                     rfl) (by unfold maxLen; omega) (by omega) (by rw [World.size_alloc]; have := HSZW.out; omega) ?_)
                | fail)
              intro wv5 w5 hd5 hg5 ho5
              have hal5 : Below w4.heap.size w4 (w4.alloc (.cells #[.slice ca cn cc] 27)) := (Below.refl _ _).alloc (Nat.le_refl _) _
              have HT5 : Hid (Ti w1 w5 (.slice ta3 (N + 1) tc3) wv5 (us ++ [.slice xa xn xc]) (cs ++ [.slice ca cn cc]) (PP ++ [P]) (CC ++ [C]) (E ++ [Xa R ms t])) := by
                refine ⟨HT3.out.was (trans2 HB4.out hal5) (HE4.out.1.belowB hal5) HE4.out.2.2 (by rw [HLEN.out.2]; exact hd5) hg5 (by simpa using ho5), ?_, ?_⟩
                · rw [List.map_append, HI.out.eP, List.map_cons, List.map_nil, HPE.out]
                · rw [List.map_append, HI.out.eC, List.map_cons, List.map_nil, HE4.out.2.1, HPE.out]
              obtain ⟨wa5, wc5, hwv5, _⟩ := row_form hd5
              subst hwv5
              clear hd5 hg5 ho5 hal5
              rw [← HEX.out] at HT5
              go_wp2_with fail
              go_roundw
              case rel => exact ⟨t + 1, _, _, _, _, by go_num, HT.out, HT5⟩
              case measure => have := HT.out; simp [intOf]; omega
            · obtain rfl : t = mn := by omega
              have hge : ¬ (t : Int) < (t : Int) := by omega
              have HI7 : Hid (Ti w1 wr u9 u10 us cs PP CC (E6 ++ XA R ms t)) := HI
              obtain ⟨E7, hE7⟩ : ∃ z, E6 ++ XA R ms t = z := ⟨_, rfl⟩
              have HE7 : Hid (E6 ++ XA R ms t = E7 ∧ E7.length = N6 + t) := ⟨hE7, by rw [← hE7, List.length_append, HE6.out.2, HN6.out]; simp [XA]⟩
              rw [hE7] at HI7
              clear hE7 HI
              obtain ⟨W7, rfl⟩ : ∃ z, z = wr := ⟨_, rfl⟩
              go_wp2_with fail
              go_loopw [9, 10, 19, 20, 21] (fun tv wv i _ _ wr => ∃ (z : Nat) (us cs : List Value) (PP CC : List (List PEnt)), i = .int .i64 z ∧ z ≤ ln ∧ Hid (Ti w1 wr tv wv us cs PP CC (E7 ++ XS R z))) (fun _ _ i _ _ _ => ln - (intOf i).toNat)
              case atStart => exact ⟨0, us, cs, PP, CC, rfl, Nat.zero_le _, by have h9 := HI7; rw [show E7 = E7 ++ XS R 0 by simp [XS]] at h9; exact h9⟩
              case round =>
                clear HI7
                obtain ⟨z, us, cs, PP, CC, rfl, hz, HI⟩ := hrel
                by_cases hlz : z < ln
                · have hzi : (z : Int) < (ln : Int) := by omega
                  obtain ⟨wS, rfl⟩ : ∃ z, z = wr := ⟨_, rfl⟩
                  obtain ⟨ex, hex⟩ : ∃ y, R.l[z]? = some y := ⟨R.l[z]'(by rw [HLN.out]; exact hlz), List.getElem?_eq_getElem _⟩
                  have hw1 : IntKind.i64.wrap ((fl : Int) + 1) = (fl : Int) + 1 := by unfold IntKind.wrap; simp [IntKind.bits, IntKind.signed]; omega
                  have hw2 : IntKind.i64.wrap ((fl : Int) + 1 + (z : Int)) = (fl : Int) + 1 + (z : Int) := by unfold IntKind.wrap; simp [IntKind.bits, IntKind.signed]; omega
                  have HAT : Hid _ := atT_any (some ⟨b, 0, none⟩) R ((R.floor : Int) + 1 + (z : Int)) wS (HRP.out wS HI.out.tl.below)
                  rw [(atT_in hex).1, (atT_in hex).2, HFL.out] at HAT
                  have HXS : Hid (XS R (z + 1) = XS R z ++ [[ex]]) := XS_snoc hex
                  have HEX : Hid (ex.Small) := HR64.out.2 ex (List.mem_of_getElem? hex)
                  obtain ⟨E, hE⟩ : ∃ y, E7 ++ XS R z = y := ⟨_, rfl⟩
                  obtain ⟨N, hN⟩ : ∃ y, E.length = y := ⟨_, rfl⟩
                  have HNQ : Hid (N = N6 + t + z) := by show _ = _; rw [← hN, ← hE, List.length_append, HE7.out.2]; unfold XS; rw [List.length_map, List.length_take, HLN.out]; omega
                  have hNb : N ≤ 200 := by have := HNQ.out; omega
                  rw [hE] at HI
                  have HEE : Hid (E7 ++ XS R (z + 1) = E ++ [[ex]]) := by show _ = _; rw [HXS.out, ← List.append_assoc, hE]
                  have HLEN : Hid (us.length = N ∧ cs.length = N) := by have h9 := HI.out.len; rw [hN] at h9; exact h9
                  have HZ : Hid (z < ln) := hlz
                  clear hex hE hN hlz
                  go_wp2_with fail
                  refine Calls.mono HAT.out ?_
                  rintro e w2 ⟨x, rfl, hxo, hb2, hx2⟩
                  obtain ⟨ya, yc, hyv, _⟩ := owns_form hxo
                  obtain ⟨yn, hyn⟩ : ∃ y, ex.ops.length = y := ⟨_, rfl⟩
                  rw [hyn] at hyv
                  subst hyv
                  have HXO : Hid (OwnOps w2 (.slice ya yn yc) ex.ops ∧ ∀ k, (Value.slice ya yn yc).ownBlock = some k → wS.heap.size ≤ k) := ⟨hxo, hx2⟩
                  have HB2 : Hid (Below wS.heap.size wS w2) := hb2
                  obtain ⟨W2, hW2⟩ : ∃ y, w2.alloc (.cells #[.int .i64 ex.s, .int .i64 ex.v, .int .i64 ex.k, .int .i64 ex.se, .int .i64 ex.rq, .slice ya yn yc] 38) = y := ⟨_, rfl⟩
                  obtain ⟨gx, hgx⟩ : ∃ y, w2.heap.size = y := ⟨_, rfl⟩
                  have hbW2 : Below w2.heap.size w2 W2 := by rw [← hW2]; exact (Below.refl _ _).alloc (Nat.le_refl _) _
                  have HX2 : Hid (W2.heap[gx]? = some (.cells #[.int .i64 ex.s, .int .i64 ex.v, .int .i64 ex.k, .int .i64 ex.se, .int .i64 ex.rq, .slice ya yn yc] 38 (0, 0))) := by show _ = _; rw [← hW2, ← hgx]; exact heap_alloc_new _ _
                  have HBW2 : Hid (Below wS.heap.size wS W2 ∧ OwnOps W2 (.slice ya yn yc) ex.ops) := ⟨trans2 HB2.out hbW2, owns_below hxo hbW2⟩
                  have HW2 : Hid (w2.alloc (.cells #[.int .i64 ex.s, .int .i64 ex.v, .int .i64 ex.k, .int .i64 ex.se, .int .i64 ex.rq, .slice ya yn yc] 38) = W2) := hW2
                  have HGX : Hid (w2.heap.size = gx) := hgx
                  clear hxo hx2 hb2 hyn hW2 hgx hbW2 hw1 hw2
                  go_upto_region 31 with fail
                  rw [HW2.out, HGX.out]
                  go_upto_region 33 with fail
                  obtain ⟨W3, hW3⟩ : ∃ y, W2.alloc (.cells #[.int .i64 ex.s, .int .i64 ex.v, .int .i64 ex.k, .int .i64 ex.se, .int .i64 ex.rq, .slice ya yn yc] 38) = y := ⟨_, rfl⟩
                  obtain ⟨g3, hg3'⟩ : ∃ y, W2.heap.size = y := ⟨_, rfl⟩
                  have hbW3 : Below W2.heap.size W2 W3 := by rw [← hW3]; exact (Below.refl _ _).alloc (Nat.le_refl _) _
                  have hX3 : W3.heap[g3]? = some (.cells #[.int .i64 ex.s, .int .i64 ex.v, .int .i64 ex.k, .int .i64 ex.se, .int .i64 ex.rq, .slice ya yn yc] 38 (0, 0)) := by rw [← hW3, ← hg3']; exact heap_alloc_new _ _
                  have HE2 : Hid (EntsAt W3 (.slice (some ⟨g3, 0, none⟩) 1 1) [⟨ex, .slice ya yn yc⟩]) := ents_one hX3 (owns_below HBW2.out.2 hbW3)
                  have HB3' : Hid (Below wS.heap.size wS W3) := trans2 HBW2.out.1 hbW3
                  have HN2 : Hid (NdE wS.heap.size (.slice (some ⟨g3, 0, none⟩) 1 1) [⟨ex, .slice ya yn yc⟩]) := nd_one HXO.out.2 (fun k hk => by cases hk; rw [← hg3']; exact HBW2.out.1.size)
                  have HXX3 : Hid (W3.heap[gx]? = some (.cells #[.int .i64 ex.s, .int .i64 ex.v, .int .i64 ex.k, .int .i64 ex.se, .int .i64 ex.rq, .slice ya yn yc] 38 (0, 0))) := kept_block hbW3 HX2.out
                  have HRT : Hid (W3.ownsRow w1.heap.size 27 1 u9 N us) := by
                    have h9 : W3.ownsRow w1.heap.size 27 1 u9 us.length us := owns_below HI.out.tl.row HB3'.out
                    rw [HLEN.out.1] at h9
                    exact h9
                  have HSZT : Hid (w1.heap.size ≤ W3.heap.size) := Nat.le_trans HI.out.tl.below.size HB3'.out.size
                  have HW3 : Hid (W2.alloc (.cells #[.int .i64 ex.s, .int .i64 ex.v, .int .i64 ex.k, .int .i64 ex.se, .int .i64 ex.rq, .slice ya yn yc] 38) = W3) := hW3
                  have HG3 : Hid (W2.heap.size = g3 ∧ W3.heap.size = g3 + 1) := ⟨hg3', by rw [← hW3, ← hg3']; simp⟩
                  clear hX3 hW3 hg3' hbW3
                  obtain ⟨y0, y1, y2, y3, y4, y5⟩ := cells_6 HX2.out
                  have hrow3 : (W2.alloc (.cells #[.int .i64 ex.s, .int .i64 ex.v, .int .i64 ex.k, .int .i64 ex.se, .int .i64 ex.rq, .slice ya yn yc] 38)).ownsRow w1.heap.size 27 1 u9 N us := by rw [HW3.out]; exact HRT.out
                  have HROW3 : Hid ((W2.alloc (.cells #[.int .i64 ex.s, .int .i64 ex.v, .int .i64 ex.k, .int .i64 ex.se, .int .i64 ex.rq, .slice ya yn yc] 38)).ownsRow w1.heap.size 27 1 u9 N us) := hrow3
                  have HSZ3 : Hid (w1.heap.size ≤ W2.heap.size + 1) := by have h9 := HSZT.out; rw [HG3.out.2] at h9; show _ ≤ _; rw [HG3.out.1]; exact h9
                  clear hrow3
                  go_wp2_with (first
                    | (at_builtin; refine wpList_row Try.underlying26 Try.infoEnts rfl (by decide) rfl _ _ rfl w1.heap.size u9 N us rfl (World.ownsRow.alloc HROW3.out _) (W2.heap.size + 1) 1 [.slice (some ⟨W2.heap.size, 0, none⟩) 1 1] rfl (heap_new' (by simp)) rfl (fun y hy => by
                         simp only [List.mem_cons, List.not_mem_nil, or_false] at hy
                         rw [hy]
                         rfl) (by unfold maxLen; omega) (by omega) (by rw [World.size_alloc, World.size_alloc]; have := HSZ3.out; omega) ?_)
                    | fail)
                  rw [HW3.out, HG3.out.1]
                  intro tv3 w3 hd3 hg3 ho3
                  have hal3 : Below W3.heap.size W3 (W3.alloc (.cells #[.slice (some ⟨g3, 0, none⟩) 1 1] 27)) := (Below.refl _ _).alloc (Nat.le_refl _) _
                  have HT3 : Hid (Tl w1 w3 tv3 u10 (us ++ [.slice (some ⟨g3, 0, none⟩) 1 1]) cs (PP ++ [[⟨ex, .slice ya yn yc⟩]]) CC) := HI.out.tl.told (trans2 HB3'.out hal3) (HE2.out.belowB hal3) HN2.out (by rw [HLEN.out.1]; exact hd3) hg3 (by rw [World.size_alloc, HG3.out.2]; simpa using ho3)
                  have HX9 : Hid (w3.heap[gx]? = some (.cells #[.int .i64 ex.s, .int .i64 ex.v, .int .i64 ex.k, .int .i64 ex.se, .int .i64 ex.rq, .slice ya yn yc] 38 (0, 0)) ∧ OwnOps w3 (.slice ya yn yc) ex.ops) := by
                    have hc3 := Chg.grown hg3
                    have hrr := owns_below HRT.out hal3
                    have h8 := kept_block hal3 HXX3.out
                    refine ⟨(hc3.block gx (lt_of_blk h8) (fun e => kind_box hrr e h8 (by decide) rfl)).trans h8, ?_⟩
                    have h9 := HT3.out.each.2 us.length (.slice (some ⟨g3, 0, none⟩) 1 1) [⟨ex, .slice ya yn yc⟩] (by simp) (by rw [HI.out.tl.each.1]; simp)
                    exact h9.ops ⟨ex, .slice ya yn yc⟩ (by simp)
                  obtain ⟨ta3, tc3, htv3, _⟩ := row_form hd3
                  subst htv3
                  have HPE : Hid (([⟨ex, .slice ya yn yc⟩] : List PEnt).map (·.e) = [ex]) := rfl
                  have HPS : Hid (([⟨ex, .slice ya yn yc⟩] : List PEnt).length ≤ 64 ∧ ∀ p ∈ ([⟨ex, .slice ya yn yc⟩] : List PEnt), p.e.Small) := ⟨by simp, fun p hp => by rw [List.mem_singleton] at hp; subst hp; exact HEX.out⟩
                  clear hd3 hg3 ho3 hal3 y0 y1 y2 y3 y4 y5
                  go_upto_region 34 with fail
                  obtain ⟨y0, y1, y2, y3, y4, y5⟩ := cells_6 HX9.out.1
                  have HE9 : Hid (EntsAt (w3.alloc (.cells #[.int .i64 ex.s, .int .i64 ex.v, .int .i64 ex.k, .int .i64 ex.se, .int .i64 ex.rq, .slice ya yn yc] 38)) (.slice (some ⟨w3.heap.size, 0, none⟩) 1 1) [⟨ex, .slice ya yn yc⟩]) := ents_one (heap_alloc_new _ _) (owns_below HX9.out.2 ((Below.refl _ _).alloc (Nat.le_refl _) _))
                  go_wp2_with fail
                  refine Calls.mono (twins_any (.slice (some ⟨w3.heap.size, 0, none⟩) 1 1) ([⟨ex, .slice ya yn yc⟩] : List PEnt) (w3.alloc (.cells #[.int .i64 ex.s, .int .i64 ex.v, .int .i64 ex.k, .int .i64 ex.se, .int .i64 ex.rq, .slice ya yn yc] 38)) HE9.out HPS.out.1 HPS.out.2) ?_
                  rintro e w4 ⟨cv, C, rfl, hC, hE4, hn4, hb4⟩
                  obtain ⟨ca, cc, hcv, _⟩ := owns_form hE4.row
                  obtain ⟨cn, hcn⟩ : ∃ z, C.length = z := ⟨_, rfl⟩
                  rw [hcn] at hcv
                  subst hcv
                  have HE4 : Hid (EntsAt w4 (.slice ca cn cc) C ∧ C.map (·.e) = ([⟨ex, .slice ya yn yc⟩] : List PEnt).map (·.e) ∧ (∀ j, EsB (.slice ca cn cc) C j → w3.heap.size ≤ j)) := ⟨hE4, hC, fun j hj => (by have h9 := hn4 j hj; rw [World.size_alloc] at h9; omega)⟩
                  have HB4 : Hid (Below w3.heap.size w3 w4) := trans2 ((Below.refl _ _).alloc (Nat.le_refl _) _) hb4
                  have HRW : Hid (w4.ownsRow w1.heap.size 27 1 u10 N cs) := by
                    have h9 : w4.ownsRow w1.heap.size 27 1 u10 cs.length cs := owns_below HT3.out.rowW HB4.out
                    rw [HLEN.out.2] at h9
                    exact h9
                  have HSZW : Hid (w1.heap.size ≤ w4.heap.size) := Nat.le_trans HT3.out.below.size HB4.out.size
                  clear hE4 hC hn4 hb4 hcn
                  go_wp2_with (first
                    | (at_builtin; refine wpList_row Try.underlying26 Try.infoEnts rfl (by decide) rfl _ _ rfl w1.heap.size u10 N cs rfl (World.ownsRow.alloc HRW.out _) w4.heap.size 1 [.slice ca cn cc] rfl (heap_alloc_new _ _) rfl (fun y hy => by
                         simp only [List.mem_cons, List.not_mem_nil, or_false] at hy
                         rw [hy]
                         rfl) (by unfold maxLen; omega) (by omega) (by rw [World.size_alloc]; have := HSZW.out; omega) ?_)
                    | fail)
                  intro wv5 w5 hd5 hg5 ho5
                  have hal5 : Below w4.heap.size w4 (w4.alloc (.cells #[.slice ca cn cc] 27)) := (Below.refl _ _).alloc (Nat.le_refl _) _
                  have HT5 : Hid (Ti w1 w5 (.slice ta3 (N + 1) tc3) wv5 (us ++ [.slice (some ⟨g3, 0, none⟩) 1 1]) (cs ++ [.slice ca cn cc]) (PP ++ [([⟨ex, .slice ya yn yc⟩] : List PEnt)]) (CC ++ [C]) (E ++ [[ex]])) := by
                    refine ⟨HT3.out.was (trans2 HB4.out hal5) (HE4.out.1.belowB hal5) HE4.out.2.2 (by rw [HLEN.out.2]; exact hd5) hg5 (by simpa using ho5), ?_, ?_⟩
                    · rw [List.map_append, HI.out.eP, List.map_cons, List.map_nil, HPE.out]
                    · rw [List.map_append, HI.out.eC, List.map_cons, List.map_nil, HE4.out.2.1, HPE.out]
                  obtain ⟨wa5, wc5, hwv5, _⟩ := row_form hd5
                  subst hwv5
                  clear hd5 hg5 ho5 hal5
                  rw [← HEE.out] at HT5
                  go_wp2_with fail
                  go_roundw
                  case rel => exact ⟨z + 1, _, _, _, _, by go_num, HZ.out, HT5⟩
                  case measure => have := HZ.out; simp [intOf]; omega
                · obtain rfl : z = ln := by omega
                  have hgez : ¬ (z : Int) < (z : Int) := by omega
                  have HI8 : Hid (Ti w1 wr u9 u10 us cs PP CC ((List.replicate (q + 1) (XX R ms)).flatten)) := by
                    have h9 := HI
                    rw [show E7 ++ XS R z = (List.replicate (q + 1) (XX R ms)).flatten by rw [HEQ.out]; unfold XX; rw [← HE7.out.1, ← HE6.out.1, HMSN.out, HLN.out]; simp] at h9
                    exact h9
                  go_wp2_with fail
                  go_roundw
                  case rel => exact ⟨q + 1, us, cs, PP, CC, by go_num, HQ2.out, HI8⟩
                  case measure => have := HQ2.out; simp [intOf]; omega
        · obtain rfl : q = 2 := by omega
          have hge2 : ¬ ((2 : Nat) : Int) < 2 := by omega
          have HI9 : Hid (Ti w1 wr u9 u10 us cs PP CC (XX R ms ++ XX R ms)) := by
            have h9 := HI
            rw [show (List.replicate 2 (XX R ms)).flatten = XX R ms ++ XX R ms by simp [List.replicate]] at h9
            exact h9
          obtain ⟨H, hH⟩ : ∃ z, (XX R ms).length = z := ⟨_, rfl⟩
          have hH1 : 1 ≤ H := by rw [← hH]; unfold XX; simp only [List.length_append, List.length_cons, List.length_nil]; omega
          have hH2 : H ≤ 89 := by rw [← hH]; unfold XX XA XS; simp; have := HMSN.out; have := HLN.out; omega
          obtain ⟨T, hT⟩ : ∃ z, H + H = z := ⟨_, rfl⟩
          have HHT : Hid (H + H = T ∧ (XX R ms).length = H) := ⟨hT, hH⟩
          have HLEN : Hid (us.length = T ∧ cs.length = T) := by have h9 := HI9.out.len; rw [List.length_append, hH, hT] at h9; exact h9
          have hTb : T ≤ 178 := by omega
          have hT1 : 2 ≤ T := by omega
          have HRT : Hid (wr.ownsRow w1.heap.size 27 1 u9 T us ∧ wr.ownsRow w1.heap.size 27 1 u10 T cs) := by
            have h8 : wr.ownsRow w1.heap.size 27 1 u9 us.length us := HI9.out.tl.row
            have h9 : wr.ownsRow w1.heap.size 27 1 u10 cs.length cs := HI9.out.tl.rowW
            rw [HLEN.out.1] at h8
            rw [HLEN.out.2] at h9
            exact ⟨h8, h9⟩
          obtain ⟨T0, hT0⟩ : ∃ k, T = k + 1 := ⟨T - 1, by omega⟩
          obtain ⟨gt, tc, h5⟩ : ∃ g c, u9 = .slice (some ⟨g, 0, none⟩) T c := by have h9 := HRT.out.1; rw [hT0] at h9 ⊢; exact row_some h9
          obtain ⟨gw, wc, h6⟩ : ∃ g c, u10 = .slice (some ⟨g, 0, none⟩) T c := by have h9 := HRT.out.2; rw [hT0] at h9 ⊢; exact row_some h9
          subst h5
          subst h6
          have hquo : ((T : Int)).tdiv 2 = (H : Int) := by rw [← hT, Int.tdiv_eq_ediv_of_nonneg (by omega)]; omega
          have hwH : IntKind.i64.wrap (H : Int) = (H : Int) := by unfold IntKind.wrap; simp [IntKind.bits, IntKind.signed]; omega
          obtain ⟨W9, rfl⟩ : ∃ z, z = wr := ⟨_, rfl⟩
          obtain ⟨WB, hWB⟩ : ∃ z, W9.alloc (.cells #[.slice none 0 0, .slice none 0 0, .slice none 0 0, .slice none 0 0] 44) = z := ⟨_, rfl⟩
          obtain ⟨B, hB⟩ : ∃ z, W9.heap.size = z := ⟨_, rfl⟩
          have HWB : Hid (W9.alloc (.cells #[.slice none 0 0, .slice none 0 0, .slice none 0 0, .slice none 0 0] 44) = WB) := hWB
          have HBB' : Hid (W9.heap.size = B) := hB
          have HL0 : Hid (Lp W9 WB B (.slice none 0 0) (.slice none 0 0) us PP [] [] 0) := Lp.start us PP (by rw [← hWB]; exact (Below.refl _ _).alloc (Nat.le_refl _) _) (Nat.le_of_eq hB) (by rw [← hWB, ← hB]; exact heap_alloc_new _ _)
          clear hT hH hT0 hWB hB HI
          go_upto_region 37 with fail
          rw [HWB.out, HBB'.out]
          go_wp2_with fail
          clear hquo hwH
          have hH0 : ((H : Int) == 0) = false := by simp; omega
          have hHn : (H : Int) ≠ 0 := by omega
          have hHN : ¬ H = 0 := by omega
          go_loopw [24] (fun i wr => ∃ (t : Nat) (hv hn : Value) (ls : List (List (El 5))) (ns : List (List (El 6))), i = .int .i64 t ∧ t ≤ T ∧ Hid (Lp W9 wr B hv hn us PP ls ns t)) (fun i _ => T - (intOf i).toNat)
          case atStart => exact ⟨0, _, _, _, _, rfl, Nat.zero_le _, HL0⟩
          case round =>
            clear HL0
            obtain ⟨t, hv, hn, ls, ns, rfl, ht, HI⟩ := hrel
            by_cases hltT : t < T
            · have hti : (t : Int) < (T : Int) := by omega
              obtain ⟨tm, htm⟩ : ∃ z, t % H = z := ⟨_, rfl⟩
              have htmH : tm < H := by rw [← htm]; exact Nat.mod_lt _ (by omega)
              have hrem : ((t : Int)).tmod (H : Int) = (tm : Int) := by rw [← htm, ← Int.ofNat_tmod]
              have hrun : ∀ w' : World, (binOp .rem 3 (.int .i64 (t : Int)) (.int .i64 (H : Int))).run Try.prog w' = .ok (.int .i64 (tm : Int)) w' := fun w' => by
                have hw9 : IntKind.i64.wrap (tm : Int) = (tm : Int) := by unfold IntKind.wrap; simp [IntKind.bits, IntKind.signed]; omega
                have hH9 : (H : Int) ≠ 0 := by omega
                have hH8 : ¬ H = 0 := by omega
                go_simp
              have htmi : (tm : Int) < (T : Int) := by have := HHT.out.1; omega
              have hwtm : IntKind.i64.wrap (tm : Int) = (tm : Int) := by unfold IntKind.wrap; simp [IntKind.bits, IntKind.signed]; omega
              obtain ⟨u, hu⟩ : ∃ x, us[t]? = some x := ⟨us[t]'(by rw [HLEN.out.1]; exact hltT), List.getElem?_eq_getElem _⟩
              obtain ⟨c, hc⟩ : ∃ x, cs[t]? = some x := ⟨cs[t]'(by rw [HLEN.out.2]; exact hltT), List.getElem?_eq_getElem _⟩
              obtain ⟨cm, hcm⟩ : ∃ x, cs[tm]? = some x := ⟨cs[tm]'(by rw [HLEN.out.2]; have := HHT.out.1; omega), List.getElem?_eq_getElem _⟩
              obtain ⟨P, hP⟩ := pp_at HI9.out.tl.each.1 hu
              obtain ⟨C, hC⟩ := pp_at HI9.out.tl.eachW.1 hc
              obtain ⟨Cm, hCm⟩ := pp_at HI9.out.tl.eachW.1 hcm
              have eP : (XX R ms ++ XX R ms)[t]? = some (P.map (·.e)) := by rw [← HI9.out.eP, List.getElem?_map, hP]; rfl
              have eC : (XX R ms ++ XX R ms)[t]? = some (C.map (·.e)) := by rw [← HI9.out.eC, List.getElem?_map, hC]; rfl
              have eCm : (XX R ms ++ XX R ms)[tm]? = some (Cm.map (·.e)) := by rw [← HI9.out.eC, List.getElem?_map, hCm]; rfl
              have emod : (XX R ms ++ XX R ms)[tm]? = (XX R ms ++ XX R ms)[t]? := by
                rw [List.getElem?_append_left (by rw [HHT.out.2]; exact htmH)]
                rcases Nat.lt_or_ge t H with h1 | h1
                · rw [List.getElem?_append_left (by rw [HHT.out.2]; exact h1), ← htm, Nat.mod_eq_of_lt h1]
                · rw [List.getElem?_append_right (by rw [HHT.out.2]; exact h1), HHT.out.2, ← htm]
                  congr 1
                  have h2 : t < H + H := by have := HHT.out.1; omega
                  rw [Nat.mod_eq_sub_mod h1, Nat.mod_eq_of_lt (by omega)]
              have e1 : P.map (·.e) = C.map (·.e) := by rw [eP] at eC; exact Option.some.inj eC
              have e2 : C.map (·.e) = Cm.map (·.e) := by rw [eCm, eC] at emod; exact (Option.some.inj emod).symm
              have hsubP : P.map (·.e) ∈ XX R ms ∧ True := by
                refine ⟨?_, trivial⟩
                rcases List.mem_append.1 (List.mem_of_getElem? eP) with h | h <;> exact h
              have hsub := XX_sub R ms _ hsubP.1
              have hPl : P.length ≤ 65 := by have h9 := hsub.1; rw [List.length_map] at h9; have := HR64.out.1; omega
              have hPo : ∀ p ∈ P, p.e ∈ R.l := fun p hp => hsub.2 p.e (List.mem_map_of_mem hp)
              have hsml : ∀ (Q : List PEnt), Q.map (·.e) = P.map (·.e) → (∀ p ∈ Q, p.e.ops.length ≤ maxLen) ∧ Q.length ≤ maxLen := fun Q hQ => by
                refine ⟨fun p hp => ?_, ?_⟩
                · have h9 : p.e ∈ P.map (·.e) := by rw [← hQ]; exact List.mem_map_of_mem hp
                  have := HOPS.out p.e (hsub.2 p.e h9)
                  unfold maxLen
                  omega
                · have h9 := congrArg List.length hQ
                  rw [List.length_map, List.length_map] at h9
                  unfold maxLen
                  omega
              obtain ⟨ua, uc, hua, _⟩ := owns_form (HI9.out.tl.each.2 t u P hu hP).row
              obtain ⟨ca, cc, hca, _⟩ := owns_form (HI9.out.tl.eachW.2 t c C hc hC).row
              obtain ⟨ma, mc, hma, _⟩ := owns_form (HI9.out.tl.eachW.2 tm cm Cm hcm hCm).row
              have HS1 : Hid (∀ w', Below W9.heap.size W9 w' → Calls Try.prog 11 #[u, c] w' fun e w'' => e = .returned (.bool true) ∧ Below w'.heap.size w' w'') := fun w' hb => by
                obtain ⟨a1, c1, h1, f1⟩ := ents_form ((HI9.out.tl.each.2 t u P hu hP).belowB hb) (hsml P rfl).1
                obtain ⟨a2, c2, h2, f2⟩ := ents_form ((HI9.out.tl.eachW.2 t c C hc hC).belowB hb) (hsml C e1.symm).1
                rw [h1, h2]
                exact sameAll_yes a1 a2 c1 c2 P.length C.length P C w' f1 f2 rfl rfl (hsml P rfl).2 (e1)
              have HS2 : Hid (∀ w', Below W9.heap.size W9 w' → Calls Try.prog 11 #[c, cm] w' fun e w'' => e = .returned (.bool true) ∧ Below w'.heap.size w' w'') := fun w' hb => by
                obtain ⟨a1, c1, h1, f1⟩ := ents_form ((HI9.out.tl.eachW.2 t c C hc hC).belowB hb) (hsml C e1.symm).1
                obtain ⟨a2, c2, h2, f2⟩ := ents_form ((HI9.out.tl.eachW.2 tm cm Cm hcm hCm).belowB hb) (hsml Cm (e2.symm.trans e1.symm)).1
                rw [h1, h2]
                exact sameAll_yes a1 a2 c1 c2 C.length Cm.length C Cm w' f1 f2 rfl rfl (hsml C e1.symm).2 (e2)
              have HSW : Hid (∀ w', Below W9.heap.size W9 w' → w'.cell? ⟨gt, t, none⟩ = some u ∧ w'.cell? ⟨gw, t, none⟩ = some c ∧ w'.cell? ⟨gw, tm, none⟩ = some cm) := fun w' hb =>
                ⟨cell_n (owns_below HRT.out.1 hb) hu, cell_n (owns_below HRT.out.2 hb) hc, cell_n (owns_below HRT.out.2 hb) hcm⟩
              have hbig : (opsOf PP).length ≤ 4900 := by
                rw [ops_len, HI9.out.eP, List.map_append, List.sum_append]
                have h9 := XX_sum R ms
                rw [HMSN.out, HLN.out] at h9
                have : ln * mn ≤ 64 * 24 := Nat.mul_le_mul hln64 hmn24
                omega
              have HST : Hid (∀ w', Lp W9 w' B hv hn us PP ls ns t → _) := fun w' hL => hL.step HI9.out.tl hu hP (by have h9 := hsub.1; rw [List.length_map] at h9; have := HR64.out.1; omega) (fun p hp => HOPS.out p.e (hPo p hp)) hbig (by rw [HLEN.out.1]; omega)
              have HTT : Hid (t < T) := hltT
              subst hua
              subst hca
              subst hma
              have HBW : Hid (Below W9.heap.size W9 wr) := HI.out.below
              obtain ⟨k0, k1, k2⟩ := HSW.out wr HI.out.below
              obtain ⟨un, hun⟩ : ∃ z, P.length = z := ⟨_, rfl⟩
              obtain ⟨cn, hcn⟩ : ∃ z, C.length = z := ⟨_, rfl⟩
              obtain ⟨mn', hmn'⟩ : ∃ z, Cm.length = z := ⟨_, rfl⟩
              rw [hun] at HS1 HSW HST k0
              rw [hcn] at HS1 HS2 HSW k1
              rw [hmn'] at HS2 HSW k2
              clear hu hc hcm hP hC hCm eP eC eCm emod e1 e2 hsubP hsub hPl hPo hsml hbig htm htmH hltT hun hcn hmn'
              obtain ⟨W0, rfl⟩ : ∃ z, z = wr := ⟨_, rfl⟩
              go_upto_region 40 with fail
              go_region_held3 (fun w' => w'.cell? ⟨gt, t, none⟩ = some (.slice ua un uc) ∧ w'.cell? ⟨gw, t, none⟩ = some (.slice ca cn cc) ∧ w'.cell? ⟨gw, tm, none⟩ = some (.slice ma mn' mc))
                (first
                | (refine HSW.out _ ?_; first | exact trans2 HBW.out HB8.out | exact trans2 HBW.out HB7.out | exact below_drew HBW.out | exact HBW.out)
                | go_keep)
                (first
                | (go_at_call 11
                   refine Calls.mono (HS2.out w7 (trans2 HBW.out HB7.out)) ?_
                   rintro e w8 ⟨rfl, hb8⟩
                   have HB8 : Hid (Below W0.heap.size W0 w8) := trans2 HB7.out hb8
                   clear hb8)
                | (go_at_call 11
                   refine Calls.mono (HS1.out W0.drew (below_drew HBW.out)) ?_
                   rintro e w7 ⟨rfl, hb7⟩
                   have HB7 : Hid (Below W0.heap.size W0 w7) := of_drew hb7
                   clear hb7))
              have HI8 : Hid (Lp W9 w8 B hv hn us PP ls ns t) := HI.out.ext HB8.out
              clear k0 k1 k2
              obtain ⟨k0, k1, k2⟩ := HSW.out w8 HI8.out.below
              go_wp2_with fail
              refine Calls.mono (HST.out w8 HI8.out) ?_
              rintro e w10 ⟨rfl, hv', hn', ls', ns', hL⟩
              have HL : Hid (Lp W9 w10 B hv' hn' us PP ls' ns' (t + 1)) := hL
              clear hL
              go_wp2_with fail
              go_roundw
              case rel => exact ⟨t + 1, hv', hn', ls', ns', by go_num, HTT.out, HL⟩
              case measure => have := HTT.out; simp [intOf]; omega
            · obtain rfl : t = T := by omega
              have hgeT : ¬ (t : Int) < (t : Int) := by omega
              have hPPl : PP.length = t := by rw [← HI9.out.tl.each.1, HLEN.out.1]
              have HLP : Hid (Below W9.heap.size W9 wr ∧ Bo wr B hv hn (.slice none 0 0) (.slice none 0 0) (opsOf PP) us ls ns) := by
                have h9 := HI.out.bo
                rw [List.take_of_length_le (Nat.le_of_eq hPPl), List.take_of_length_le (Nat.le_of_eq HLEN.out.1)] at h9
                exact ⟨HI.out.below, h9⟩
              have hbig : (opsOf PP).length ≤ 4900 := by
                rw [ops_len, HI9.out.eP, List.map_append, List.sum_append]
                have h9 := XX_sum R ms
                rw [HMSN.out, HLN.out] at h9
                have : ln * mn ≤ 64 * 24 := Nat.mul_le_mul hln64 hmn24
                omega
              have HAP : Hid _ := apart_any B hv hn (opsOf PP) us ls ns wr HLP.out.2 (by omega) (by rw [HLEN.out.1]; omega) HI.out.l1 HI.out.l2
              have HNB : Hid (W9.heap.size ≤ B ∧ (∀ b, hv.ownBlock = some b → W9.heap.size ≤ b) ∧ ∀ b, hn.ownBlock = some b → W9.heap.size ≤ b) := ⟨HI.out.nB, HI.out.nV, HI.out.nN⟩
              have HTB : Hid (∀ j, FamB (opsOf PP) j ∨ FamB us j → ToB us PP j) := fun j hj => by
                rcases hj with ⟨k, v, hv', hvb⟩ | ⟨k, v, hv', hvb⟩
                · obtain ⟨k', Q, hQ, p, hp, rfl⟩ := ops_mem (List.mem_of_getElem? hv')
                  obtain ⟨u, hu⟩ := us_at HI9.out.tl.each.1 hQ
                  exact ⟨k', u, Q, hu, hQ, .inr ⟨p, hp, hvb⟩⟩
                · obtain ⟨Q, hQ⟩ := pp_at HI9.out.tl.each.1 hv'
                  exact ⟨k, v, Q, hv', hQ, .inl hvb⟩
              obtain ⟨c0, hc0⟩ : ∃ x, cs[0]? = some x := ⟨cs[0]'(by rw [HLEN.out.2]; omega), List.getElem?_eq_getElem _⟩
              obtain ⟨C0, hC0⟩ := pp_at HI9.out.tl.eachW.1 hc0
              have hE0 : C0.map (·.e) = R.l := by
                have h9 : (XX R ms ++ XX R ms)[0]? = some (C0.map (·.e)) := by rw [← HI9.out.eC, List.getElem?_map, hC0]; rfl
                unfold XX at h9
                simp at h9
                exact h9.symm
              have HE0 : Hid (EntsAt W9 c0 C0 ∧ C0.map (·.e) = R.l ∧ (∀ j, EsB c0 C0 j → ¬ ToB us PP j) ∧ cs[0]? = some c0) := ⟨HI9.out.tl.eachW.2 0 c0 C0 hc0 hC0, hE0, HI9.out.tl.zero c0 C0 hc0 hC0, hc0⟩
              obtain ⟨za, zc, hza, _⟩ := owns_form (HI9.out.tl.eachW.2 0 c0 C0 hc0 hC0).row
              obtain ⟨zn, hzn⟩ : ∃ z, C0.length = z := ⟨_, rfl⟩
              rw [hzn] at hza
              subst hza
              clear hc0 hC0 hE0 hzn hbig hPPl HI
              go_wp2_with fail
              refine Calls.mono HAP.out ?_
              rintro e w10 ⟨rfl, gv, gn, gs, gm, ls', ns', L1, L2, hGd, hc10, hn1, hn2⟩
              have HGD : Hid (Gd w10 B hv hn gv gn (opsOf PP) us gs gm ls' ns' L1 L2) := hGd
              have HB10 : Hid (Below w1.heap.size w1 w10) := by
                have h9 : Below w1.heap.size w1 wr := trans2 HI9.out.tl.below HLP.out.1
                refine h9.trans (hc10.below h9.size (fun k _ hk => ?_))
                rcases hk with hk | hk
                · rw [hk]; exact Nat.le_trans HI9.out.tl.below.size HNB.out.1
                · exact HI9.out.tl.lo k (HTB.out k hk)
              have HGB : Hid (∀ j, GdB B hv hn gv gn (opsOf PP) us gs gm j → w1.heap.size ≤ j) := fun j hj => by
                have s9 := HI9.out.tl.below.size
                have s10 := HLP.out.1.size
                rcases hj with h | h | h | h | h | h | h
                · rw [h]; exact Nat.le_trans s9 HNB.out.1
                · exact Nat.le_trans s9 (HNB.out.2.1 j h)
                · exact Nat.le_trans s9 (HNB.out.2.2 j h)
                · exact HI9.out.tl.lo j (HTB.out j (.inl h))
                · exact HI9.out.tl.lo j (HTB.out j (.inr h))
                · rcases hn1 j h with h | h
                  · exact HI9.out.tl.lo j (HTB.out j (.inl h))
                  · omega
                · rcases hn2 j h with h | h
                  · exact HI9.out.tl.lo j (HTB.out j (.inr h))
                  · omega
              have HW10 : Hid (EntsAt w10 (.slice za zn zc) C0 ∧ w10.cell? ⟨gw, 0, none⟩ = some (.slice za zn zc)) := by
                refine ⟨(HE0.out.1.belowB HLP.out.1).keepB (fun j hj => hc10.block j ((HE0.out.1.belowB HLP.out.1).ltB j hj) (fun hS => ?_)), ?_⟩
                · rcases hS with h | h
                  · have h1 := HE0.out.1.ltB j hj
                    have h2 := HNB.out.1
                    omega
                  · exact HE0.out.2.2.1 j hj (HTB.out j h)
                · have hrw := owns_below HRT.out.2 HLP.out.1
                  refine cell_n (owns_same hrw (fun k hk => hc10.block k (row_block hrw k hk).2 (fun hS => ?_))) HE0.out.2.2.2
                  obtain ⟨cu, hcu⟩ := owns_kind hrw hk
                  rcases hS with h | ⟨i, v, hv', hvb⟩ | ⟨i, v, hv', hvb⟩
                  · rw [h, HLP.out.2.box] at hcu; cases hcu
                  · obtain ⟨l9, _, hr9⟩ := HLP.out.2.fu.get hv'
                    obtain ⟨cu2, hcu2⟩ := owns_kind hr9 hvb
                    rw [hcu] at hcu2; cases hcu2
                  · obtain ⟨l9, _, hr9⟩ := HLP.out.2.fm.get hv'
                    obtain ⟨cu2, hcu2⟩ := owns_kind hr9 hvb
                    rw [hcu] at hcu2; cases hcu2
              clear hGd hc10 hn1 hn2
              go_wp2_with fail
              refine Calls.mono (all_anyN (some ⟨b, 0, none⟩) R w10 (HRP.out w10 HB10.out)) ?_
              rintro e w11 ⟨v, P, rfl, hP, hE11, hN11, hb11⟩
              obtain ⟨xa, xc, hxv, _⟩ := owns_form hE11.row
              obtain ⟨xn, hxn⟩ : ∃ z, P.length = z := ⟨_, rfl⟩
              rw [hxn] at hxv
              subst hxv
              have HSA : Hid (Calls Try.prog 11 #[.slice xa xn xc, .slice za zn zc] w11 fun e w'' => e = .returned (.bool true) ∧ Below w11.heap.size w11 w'') := by
                have hops : ∀ (Q : List PEnt), Q.map (·.e) = R.l → (∀ p ∈ Q, p.e.ops.length ≤ maxLen) ∧ Q.length ≤ maxLen := fun Q hQ => by
                  refine ⟨fun p hp => ?_, ?_⟩
                  · have := HOPS.out p.e (by rw [← hQ]; exact List.mem_map_of_mem hp)
                    unfold maxLen
                    omega
                  · have h9 := congrArg List.length hQ
                    rw [List.length_map, HLN.out] at h9
                    unfold maxLen
                    omega
                obtain ⟨a1, c1, h1, f1⟩ := ents_form hE11 (hops P hP).1
                obtain ⟨a2, c2, h2, f2⟩ := ents_form (HW10.out.1.belowB hb11) (hops C0 HE0.out.2.1).1
                rw [h1, h2]
                exact sameAll_yes a1 a2 c1 c2 P.length C0.length P C0 w11 f1 f2 rfl rfl (hops P hP).2 ((hP.trans HE0.out.2.1.symm))
              have HB11 : Hid (Below w10.heap.size w10 w11) := hb11
              have k0 : w11.cell? ⟨gw, 0, none⟩ = some (.slice za zn zc) := by
                have hlt : gw < w10.heap.size := by
                  have h9 := HW10.out.2
                  rcases Nat.lt_or_ge gw w10.heap.size with h | h
                  · exact h
                  · unfold World.cell? at h9
                    rw [Array.getElem?_eq_none h] at h9
                    cases h9
                rw [hb11.cell (p := ⟨gw, 0, none⟩) hlt]
                exact HW10.out.2
              have hT0i : (0 : Int) < (t : Int) := by omega
              clear hP hE11 hN11 hb11 hxn
              go_wp2_with fail
              refine Calls.mono HSA.out ?_
              rintro e w12 ⟨rfl, hb12⟩
              have HB12 : Hid (Below w10.heap.size w10 w12) := trans2 HB11.out hb12
              clear hb12 k0
              go_wp2_with fail
              refine Calls.mono (last_any (some ⟨b, 0, none⟩) R w12 (HRP.out w12 (trans2 HB10.out HB12.out))) ?_
              rintro e w13 ⟨rfl, hb13⟩
              have HB13 : Hid (Below w10.heap.size w10 w13) := trans2 HB12.out hb13
              clear hb13
              obtain ⟨la, hla⟩ : ∃ z, R.last = z := ⟨_, rfl⟩
              have hlam : la ≤ 2147483647 := by rw [← hla]; exact HRA.out.ok.max
              have HRL13 : Hid (R.last = la) := hla
              obtain ⟨tp, htp⟩ : ∃ z, R.top = z := ⟨_, rfl⟩
              rw [hla, htp]
              clear hla htp
              have hwl : IntKind.i64.wrap ((la : Int) + 1) = (la : Int) + 1 := by unfold IntKind.wrap; simp [IntKind.bits, IntKind.signed]; omega
              go_wp2_with fail
              refine Calls.mono (app_one b R ((la : Int) + 1) tp w13 (HRP.out w13 (trans2 HB10.out HB13.out))) ?_
              rintro e w14 ⟨c14, R14, rfl, hp14, hc14⟩
              have HP14 : Hid (RP w14 (some ⟨b, 0, none⟩) R14) := hp14
              have HC14 : Hid (Chg w13 w14 (fun k => k = b)) := hc14
              clear hp14 hc14
              go_wp2_with fail
              refine Calls.mono (cut_one b R14 (la : Int) w14 HP14.out) ?_
              rintro e w15 ⟨c15, rfl, hc15⟩
              have HC15 : Hid (Chg w10 w15 (fun k => k = b)) := (Chg.of_below HB13.out _).trans (HC14.out.trans hc15)
              clear hc15
              have HST : Hid (Calls Try.prog 17 #[.pointer (some ⟨B, 0, none⟩)] w15 fun e w' => e = .returned (.bool true) ∧ Below w15.heap.size w15 w') :=
                (HGD.out.keep (Kp.of_chg HC15.out (fun j _ hj e => by have h1 := HGB.out j hj; have h2 := HRA.out.lt; omega))).stands
              go_wp2_with fail
              refine Calls.mono HST.out ?_
              rintro e w16 ⟨rfl, hb16⟩
              have HB16 : Hid (Below w.heap.size w w16) := by
                have h1 := HW1B.out w10 HB10.out
                have h2 : Below w.heap.size w w15 := h1.trans (HC15.out.below h1.size (fun k _ e => by rw [e]; exact HB0.out))
                exact trans2 h2 hb16
              clear hb16
              go_wp2_with fail
              go_ret
              exact ⟨rfl, HB16.out⟩
end Go.Proofs.Ytnmengoefpdaiaa.I
