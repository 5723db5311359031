/-
  heraldlaw9: TrieForgetsOrder.
-/
import Derived.Test.YtcoicoijllpgnaaGreatDoorXTurnd
namespace Go.Proofs.YtcoicoijllpgnaaGreatDoor
open Go.RowKit Go.Maps
set_option linter.unusedVariables false
set_option linter.unusedSimpArgs false

theorem del_ins {L : List On} {x : On} (h : hasO L x.s x.i = false) (ho : OrdO (insO x L)) (hL : OrdO L) : delO (insO x L) x.s x.i = L := by
  refine ord_same (List.Pairwise.filter _ ho) hL ?_
  have h1 : (delO (insO x L) x.s x.i).Perm (delO (L ++ [x]) x.s x.i) := (insO_perm x L).filter _
  refine h1.trans ?_
  unfold delO
  rw [List.filter_append]
  have h2 : L.filter (fun y => !(decide (y.s = x.s) && decide (y.i = x.i))) = L := delO_none h
  rw [h2]
  simp
theorem ins_has (L : List On) (x : On) : dropC (insO x L) x.s x.i = 0 := by
  unfold dropC
  rw [if_pos (hasO_iff.2 ⟨x, (insO_perm x L).mem_iff.2 (by simp), rfl, rfl⟩)]
theorem rem_neg {k : Int} (h : k < 0) : ∃ r : Nat, (-(k + 1)).tmod 1000 = (r : Int) ∧ r ≤ 1000 :=
  ⟨((-(k + 1)).tmod 1000).toNat, by rw [Int.tmod_eq_emod_of_nonneg (by omega)]; omega, by rw [Int.tmod_eq_emod_of_nonneg (by omega)]; omega⟩
theorem rem_pos {k : Int} (h : ¬ k < 0) : ∃ r : Nat, k.tmod 1000 = (r : Int) ∧ r ≤ 1000 :=
  ⟨(k.tmod 1000).toNat, by rw [Int.tmod_eq_emod_of_nonneg (by omega)]; omega, by rw [Int.tmod_eq_emod_of_nonneg (by omega)]; omega⟩
theorem Own9.gl {w wr : World} {K : Nat → Prop} {B : Nat} {L : List On} (h : Own9 w wr K B L) (hg : Ground w) : Ground wr := hg.below h.bel
set_option maxHeartbeats 64000000 in
set_option maxRecDepth 100000 in
theorem TrieForgetsOrder_walk (a : Option Addr) (c : Nat) (L : List On) (oa : Option Addr) (oc : Nat) (O : List On) (k stamp : Int) (pa : Option Addr) (pc : Nat) (ps : List ByteArray) (w : World) (hL : OsAt w a L) (hlen : (L.length : Int) ≤ 9223372036854775807) (hwf : ∀ o ∈ L, wfI o.s) (hO : OsAt w oa O) (hOl : (O.length : Int) ≤ 9223372036854775807) (hOw : ∀ o ∈ O, wfI o.s) (hk1 : -9223372036854775808 ≤ k) (hk2 : k ≤ 9223372036854775807) (hP : PsAt w pa ps) (hPl : (ps.length : Int) ≤ 9223372036854775807) (hg : Ground w) :
    Calls Tryz.prog 5 #[.slice a L.length c, .slice oa O.length oc, .int .i64 k, .int .i64 stamp, .slice pa ps.length pc] w fun e w' => e = .returned (.bool true) ∧ Below w.heap.size w w' := by
  have HL : Hid (OsAt w a L) := hL
  have HG : Hid (Ground w) := hg
  have HWF : Hid (∀ o ∈ L, wfI o.s) := hwf
  have HO : Hid (OsAt w oa O) := hO
  have HOW : Hid (∀ o ∈ O, wfI o.s) := hOw
  have HP : Hid (PsAt w pa ps) := hP
  have HPL : Hid ((ps.length : Int) ≤ 9223372036854775807) := hPl
  obtain ⟨Tr9, Tk, hT⟩ : ∃ A B, laidR L = (A, B) := ⟨_, _, rfl⟩
  have HT : Hid (laidR L = (Tr9, Tk)) := hT
  have HPM : Hid (Tr9.Perm Tk) := by have := laid_perm L; rw [hT] at this; exact this
  have HFT : Hid (Fit Tk) := by have := laid_fit L; rw [hT] at this; exact this.perm HPM.out
  have HTW : Hid (∀ o ∈ Tk, wfI o.s) := fun o ho => hwf o (laid_sub L o (by rw [hT]; exact ho))
  have htl : Tk.length ≤ 60 := by
    have := laidJ_len L 60
    have e : laidJ L 60 = laidR L := rfl
    rw [e, hT] at this
    exact this.2
  obtain ⟨n, hn⟩ : ∃ n, O.length = n := ⟨_, rfl⟩
  have HN : Hid (O.length = n) := hn
  obtain ⟨np, hnp⟩ : ∃ np, ps.length = np := ⟨_, rfl⟩
  have HNP : Hid (ps.length = np) := hnp
  rw [hn] at hOl ⊢
  rw [hnp]
  clear hL hg hwf hT hO hOw hP hPl hn hnp
  go_enter Tryz.func5, Tryz.ntmps5
  go_wp2_with fail
  refine (begins_any w HG.out).mono ?_
  rintro e w1 ⟨rfl, hb1⟩
  have HB1 : Hid (Below w.heap.size w w1) := hb1
  clear hb1
  go_wp2_with fail
  refine (laid_any a c L w1 (HL.out.below HB1.out) hlen HWF.out (HG.out.below HB1.out)).mono ?_
  rintro e w2 ⟨K, vt, rfl, hla⟩
  rw [HT.out] at hla
  obtain ⟨ta, tc, hvt⟩ := owns_shape hla.row
  subst hvt
  have HLA : Hid (La w1 w2 K w1.heap.size (.slice ta Tk.length tc) (Tr9, Tk)) := hla
  obtain ⟨m, hm⟩ : ∃ m, Tk.length = m := ⟨_, rfl⟩
  have HM : Hid (Tk.length = m) := hm
  simp only [hm] at HLA htl ⊢
  obtain ⟨B, hB⟩ : ∃ B, w1.heap.size = B := ⟨_, rfl⟩
  rw [hB] at HLA ⊢
  have HB2 : Hid (Below w.heap.size w w2) := xtrans2 HB1.out HLA.out.own.bel
  have HG2 : Hid (Ground w2) := HG.out.below HB2.out
  clear hla hm hB
  rcases Classical.em (k < 0) with hk | hk
  all_goals
    first
      | obtain ⟨r, hr, hr2⟩ := rem_neg hk
      | obtain ⟨r, hr, hr2⟩ := rem_pos hk
    have HTU : Hid (Calls Tryz.prog 19 #[.slice ta m tc, .int .i64 r] w2 fun e w' => ∃ v, e = .returned v ∧ w'.ownsRow w2.heap.size 42 5 v m (onCs (turnL Tk r m)) ∧ Below w2.heap.size w2 w') := by
      have h1 := turn_any ta tc Tk r w2 HLA.out.os (by have := HM.out; omega) hr2
      rw [HM.out] at h1
      exact h1
    obtain ⟨Mm, hMm⟩ : ∃ Mm, turnL Tk r m = Mm := ⟨_, rfl⟩
    have HMP : Hid (Mm.Perm Tk) := by have h1 := turn_perm HFT.out r; rw [HM.out, hMm] at h1; exact h1
    have HML : Hid (Mm.length = m) := by show _ = _; rw [HMP.out.length_eq]; exact HM.out
    have HMF : Hid (Fit Mm) := HFT.out.perm HMP.out.symm
    rw [hMm] at HTU
    clear hMm
    go_wp2_with fail
    refine Calls.mono HTU.out ?_
    rintro e w3 ⟨v3, rfl, ho3, hb3⟩
    have HB3 : Hid (Below w.heap.size w w3) := xtrans2 HB2.out hb3
    have HG3 : Hid (Ground w3) := HG2.out.below hb3
    have HA3 : Hid (At w3 K B Tr9) := HLA.out.own.at'.below hb3
    have HT3 : Hid (OsAt w3 ta Tk) := HLA.out.os.below hb3
    rw [← HML.out] at ho3
    obtain ⟨ma, mc, hv3, hom⟩ := os_of_row ho3
    rw [HML.out] at hv3
    subst hv3
    have HOM : Hid (OsAt w3 ma Mm) := hom
    clear ho3 hb3 hom
    go_wp2_with fail
    refine (newA w3).mono ?_
    rintro e w4 ⟨rfl, hw4⟩
    obtain ⟨Bu, hBu⟩ : ∃ Bu, w3.heap.size = Bu := ⟨_, rfl⟩
    have HO4 : Hid (Own9 w3 w4 (fun k => k = Bu) Bu []) := by
      subst hBu
      subst hw4
      exact ⟨At.zero (heap_alloc_new _ _), fun k hk => by rw [hk]; exact Nat.le_refl _, (Below.refl _ _).alloc (Nat.le_refl _) _⟩
    rw [hBu]
    clear hw4 hBu
    go_wp2_with fail
    go_loopw [16] (fun vi wr => ∃ (i : Nat) (Ku : Nat → Prop) (Lu : List On), vi = .int .i64 i ∧ i ≤ m ∧ Hid (Lu.Perm (Mm.take i)) ∧ Hid (Own9 w3 wr Ku Bu Lu)) (fun vi _ => m - (intOf vi).toNat)
    case atStart => exact ⟨0, _, [], rfl, Nat.zero_le _, List.Perm.refl _, HO4.out⟩
    case round =>
      obtain ⟨i, Ku, Lu, rfl, hi, HPU, HOU⟩ := hrel
      have hLu : Lu.length ≤ 60 := by
        have h1 := HPU.out.length_eq
        rw [List.length_take] at h1
        omega
      by_cases hlt : i < m
      · have hlt' : (i : Int) < (m : Int) := by omega
        have HORD : Hid (OrdO Lu) := HOU.out.at'.ord
        go_wp2_with fail
        go_loopw [17] (fun vi wr => ∃ (j : Nat) (Ku : Nat → Prop), vi = .int .i64 j ∧ j ≤ n ∧ j ≤ 5 ∧ Hid (Own9 w3 wr Ku Bu Lu)) (fun vi _ => 5 - (intOf vi).toNat)
        case atStart => exact ⟨0, Ku, rfl, Nat.zero_le _, Nat.zero_le _, HOU.out⟩
        case round =>
          obtain ⟨j, Ku, rfl, hj, hj5, HOV⟩ := hrel
          by_cases hjn : j < n ∧ j < 5
          · have hj1 : (j : Int) < (n : Int) := by omega
            have hj2 : (j : Int) < 5 := by omega
            obtain ⟨x, hx⟩ : ∃ x, O[(i + j) % n]? = some x := ⟨O[(i + j) % n]'(by rw [HN.out]; exact Nat.mod_lt _ (by omega)), List.getElem?_eq_getElem _⟩
            obtain ⟨b, o, rfl, x0, x1, x2, x3, x4⟩ := ((HO.out.below HB3.out).below HOV.out.bel).at hx
            have hxw := HOW.out x (List.mem_of_getElem? hx)
            have hmo : ((i : Int) + (j : Int)).tmod (n : Int) = (((i + j) % n : Nat) : Int) := by
              rw [Int.tmod_eq_emod_of_nonneg (by omega)]
              push_cast
              rfl
            have hn0 : ¬ ((n : Int) = 0) := by omega
            have hn1 : ((n : Int) == 0) = false := by simpa using hn0
            have hml : (i + j) % n < n := Nat.mod_lt _ (by omega)
            obtain ⟨q, hq⟩ : ∃ q, (i + j) % n = q := ⟨_, rfl⟩
            rw [hq] at hmo hml x0 x1 x2 x3 x4
            clear hx hq
            go_upto_region 16 with fail
            obtain ⟨W6, hW6⟩ : ∃ z, wr.alloc (.cells #[.int .i64 x.s, .int .i64 x.i, .string x.p, .int .i64 x.k, .int .i64 x.f] 42) = z := ⟨_, rfl⟩
            have HO6 : Hid (Own9 w3 W6 Ku Bu Lu) := by
              have hb : Below wr.heap.size wr W6 := by rw [← hW6]; exact (Below.refl _ _).alloc (Nat.le_refl _) _
              exact ⟨HOV.out.at'.below hb, HOV.out.low, xtrans2 HOV.out.bel hb⟩
            have HX6 : Hid (W6.heap[wr.heap.size]? = some (.cells #[.int .i64 x.s, .int .i64 x.i, .string x.p, .int .i64 x.k, .int .i64 x.f] 42 (0, 0))) := by show _ = _; rw [← hW6]; exact heap_alloc_new _ _
            have HNK : Hid (¬ Ku wr.heap.size) := fun e => by have := HOV.out.at'.lt _ e; omega
            rw [hW6]
            obtain ⟨q6, hq6⟩ : ∃ q6, wr.heap.size = q6 := ⟨_, rfl⟩
            rw [hq6] at HX6 HNK ⊢
            clear hW6 hq6 x0 x1 x2 x3 x4
            obtain ⟨d0, d1, d2, d3, d4⟩ := cells_5 HX6.out
            obtain ⟨code, hcode⟩ : ∃ code, addC Lu x = code := ⟨_, rfl⟩
            have HCODE : Hid (addC Lu x = code) := hcode
            have HAD : Hid _ := addA W6 Ku Bu Lu x HO6.out.at' (HO6.out.gl HG3.out) (by omega) hxw
            rw [hcode] at HAD
            clear hcode
            go_wp2_with fail
            refine Calls.mono HAD.out ?_
            rintro e w7 ⟨rfl, K7, hA7, hE7⟩
            have HO7 : Hid _ := HO6.out.add hA7 hE7
            have HX7 : Hid (w7.heap[q6]? = some (.cells #[.int .i64 x.s, .int .i64 x.i, .string x.p, .int .i64 x.k, .int .i64 x.f] 42 (0, 0))) := by
              show _ = _
              rw [hE7.chg.block _ (lt_of_blk HX6.out) HNK.out]
              exact HX6.out
            clear hA7 hE7 d0 d1 d2 d3 d4
            obtain ⟨d0, d1, d2, d3, d4⟩ := cells_5 HX7.out
            by_cases h0 : code = 0
            · subst h0
              have HO7' : Hid (Own9 w3 w7 K7 Bu (insO x Lu)) := HO7.out
              have hno := (add_zero.1 HCODE.out).2.1
              have HDI : Hid (delO (insO x Lu) x.s x.i = Lu) := del_ins hno HO7'.out.at'.ord HORD.out
              have HDR : Hid _ := dropA w7 K7 Bu (insO x Lu) x.s x.i HO7'.out.at' (HO7'.out.gl HG3.out) (by rw [insO_len]; omega) hxw
              rw [ins_has, HDI.out] at HDR
              clear HO7 hno
              go_wp2_with fail
              refine Calls.mono HDR.out ?_
              rintro e w8 ⟨rfl, K8, hA8, hE8⟩
              have HO8 : Hid (Own9 w3 w8 K8 Bu Lu) := HO7'.out.add hA8 hE8
              clear hA8 hE8 d0 d1 d2 d3 d4
              go_wp2_with fail
              go_roundw
              case rel => exact ⟨j + 1, K8, by go_num, by omega, by omega, HO8.out⟩
              case measure => simp [intOf]; omega
            · have h0' : (code == 0) = false := by simpa using h0
              have HO7' : Hid (Own9 w3 w7 K7 Bu Lu) := by
                have h1 := HO7.out
                rw [if_neg h0] at h1
                exact h1
              clear HO7 d0 d1 d2 d3 d4
              go_wp2_with fail
              go_roundw
              case rel => exact ⟨j + 1, K7, by go_num, by omega, by omega, HO7'.out⟩
              case measure => simp [intOf]; omega
          · rcases Classical.em (j < n) with hj1 | hj1
            all_goals
              first
                | (have hj1' : (j : Int) < (n : Int) := by omega
                   have hj2' : ¬ ((j : Int) < 5) := by omega)
                | (have hj1' : ¬ ((j : Int) < (n : Int)) := by omega)
              obtain ⟨x, hx⟩ : ∃ x, Mm[i]? = some x := ⟨Mm[i]'(by rw [HML.out]; exact hlt), List.getElem?_eq_getElem _⟩
              obtain ⟨b, o, rfl, x0, x1, x2, x3, x4⟩ := (HOM.out.below HOV.out.bel).at hx
              have hxw := HTW.out x (HMP.out.mem_iff.1 (List.mem_of_getElem? hx))
              have HX : Hid (Mm[i]? = some x) := hx
              have HAC : Hid (addC Lu x = 0) := fit_add HMF.out HPU.out hx
              have HAD : Hid _ := fun m' => addA (wr.drewN m') Ku Bu Lu x (HOV.out.at'.below (below_drewN (Below.refl _ _) m')) ((HOV.out.gl HG3.out).below (below_drewN (Below.refl _ _) m')) (by omega) hxw
              rw [HAC.out] at HAD
              clear hx
              go_wp2_with fail
              go_region_held3 (fun w' => w'.cell? ⟨b, o + i * 5, none⟩ = some (.int .i64 x.s) ∧ w'.cell? ⟨b, o + i * 5 + 1, none⟩ = some (.int .i64 x.i) ∧ w'.cell? ⟨b, o + i * 5 + 2, none⟩ = some (.string x.p) ∧ w'.cell? ⟨b, o + i * 5 + 3, none⟩ = some (.int .i64 x.k) ∧ w'.cell? ⟨b, o + i * 5 + 4, none⟩ = some (.int .i64 x.f)) (first | go_keep | exact ⟨x0, x1, x2, x3, x4⟩)
                (first
                  | (go_at_call 15; refine (HAD.out 1).mono ?_; rintro e w7 ⟨rfl, K7, hA7, hE7⟩
                     have HO7 : Hid (Own9 w3 w7 K7 Bu (insO x Lu)) := (⟨HOV.out.at'.below (below_drewN (Below.refl _ _) 1), HOV.out.low, below_drewN HOV.out.bel 1⟩ : Own9 w3 (wr.drewN 1) Ku Bu Lu).add hA7 hE7
                     clear x0 x1 x2 x3 x4 hA7 hE7
                     obtain ⟨b', o', e', x0, x1, x2, x3, x4⟩ := (HOM.out.below HO7.out.bel).at HX.out
                     cases e'))
              go_wp2_with fail
              go_roundw
              case rel =>
                refine ⟨i + 1, K7, insO x Lu, by go_num, by omega, ?_, HO7.out⟩
                show List.Perm _ _
                rw [take_atX HX.out]
                exact (insO_perm x Lu).trans (HPU.out.append (List.Perm.refl _))
              case measure => simp [intOf]; omega
      · have hge : ¬ ((i : Int) < (m : Int)) := by omega
        have hLT : Lu = Tr9 := by
          refine ord_same HOU.out.at'.ord HA3.out.ord ?_
          have h1 := HPU.out
          rw [List.take_of_length_le (by have := HML.out; omega)] at h1
          exact (h1.trans HMP.out).trans HPM.out.symm
        subst hLT
        have HAL : Hid _ := alikeA wr K Ku B Bu Lu ta tc Tk stamp pa pc ps (HA3.out.below HOU.out.bel) HOU.out.at' (HOU.out.gl HG3.out) (by omega) (HT3.out.below HOU.out.bel) (by have := HM.out; omega) HTW.out ((HP.out.below HB3.out).below HOU.out.bel) HPL.out
        rw [HM.out, HNP.out] at HAL
        go_wp2_with fail
        refine Calls.mono HAL.out ?_
        rintro e w9 ⟨rfl, hb9⟩
        have HB9 : Hid (Below w.heap.size w w9) := xtrans2 (xtrans2 HB3.out HOU.out.bel) hb9
        clear hb9
        go_wp2_with fail
        go_ret
        exact ⟨rfl, HB9.out⟩
end Go.Proofs.YtcoicoijllpgnaaGreatDoor
