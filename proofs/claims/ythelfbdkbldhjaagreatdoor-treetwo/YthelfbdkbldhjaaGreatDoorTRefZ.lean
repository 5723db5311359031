/-
  tree: the document's Play, op by op.
-/
import Derived.Test.YthelfbdkbldhjaaGreatDoorTRefF
namespace Go.Proofs.YthelfbdkbldhjaaGreatDoor
open Go.RowKit Go.Maps Go.WideShapes
set_option linter.unusedVariables false
set_option linter.unusedSimpArgs false
attribute [local go_sem ↓] Go.wp_at_zero Go.wp_at_succ

set_option maxHeartbeats 16000000 in
set_option maxRecDepth 100000 in
theorem refPlay_ok (a : Option Addr) (c : Nat) (T : List Nd) (s st : Int) (oa : Option Addr) (oc : Nat) (os : List OpT) (w : World) (h : NdsAt w a T) (hi : Inv T) (hne : T ≠ []) (ho : OpsAt w w.heap.size oa os) (hm : mayC s st os.length = 0) :
    Calls Tryz.prog 17 #[rtV a T.length c, .int .i64 s, .int .i64 st, .slice oa os.length oc] w (PlayD w st (playL T s st os 0 T [] [])) := by
  obtain ⟨i0, hi0, hz0, hz1, hz2⟩ := info_parts Tryz.infoR
  obtain ⟨j0, hj0, hy0, hy1, hy2⟩ := info_parts Tryz.infoC
  have H : Hid (NdsAt w a T) := h
  have HI : Hid (Inv T) := hi
  have HO : Hid (OpsAt w w.heap.size oa os) := ho
  have hl : T.length ≠ 0 := fun e => hne (List.length_eq_zero_iff.1 e)
  obtain ⟨hc1, hc2, hc3, hc4, hc5, hc6⟩ : os.length ≤ 4 ∧ 1 ≤ os.length ∧ ¬ s < 0 ∧ ¬ 2147483647 < s ∧ ¬ st < 1 ∧ ¬ 2147483647 < st := by
    unfold mayC at hm
    by_cases h4 : 4 < os.length
    · rw [if_pos h4] at hm
      exact absurd hm (by decide)
    · by_cases hb : s < 0 ∨ 2147483647 < s ∨ st < 1 ∨ 2147483647 < st
      · rw [if_neg h4, if_pos hb] at hm
        exact absurd hm (by decide)
      · by_cases h0 : os.length = 0
        · rw [if_neg h4, if_neg hb, if_pos h0] at hm
          exact absurd hm (by decide)
        · exact ⟨by omega, by omega, by omega, by omega, by omega, by omega⟩
  obtain ⟨N, hN⟩ : ∃ N, T.length = N := ⟨_, rfl⟩
  have HN : Hid (T.length = N) := hN
  obtain ⟨K, hK⟩ : ∃ K, os.length = K := ⟨_, rfl⟩
  have HK : Hid (os.length = K) := hK
  obtain ⟨M, hM⟩ : ∃ M, playL T s st os 0 T [] [] = M := ⟨_, rfl⟩
  have HM : Hid (playL T s st os 0 T [] [] = M) := hM
  rw [hN] at hl ⊢
  rw [hK] at hc1 hc2 ⊢
  rw [hM]
  have hn0 : ((N : Int) == 0) = false := by have : ¬ (N : Int) = 0 := by omega
                                            simpa using this
  have hk0 : ((K : Int) == 0) = false := by have : ¬ (K : Int) = 0 := by omega
                                            simpa using this
  have hk4 : ¬ (4 : Int) < (K : Int) := by omega
  clear h hne hN hl hi ho hK hM hm
  go_enter Tryz.func17, Tryz.ntmps17
  go_upto_region 1 with fail
  obtain ⟨w1, hw1⟩ : ∃ y, ((w.alloc (.cells #[.slice a N c] 27)).alloc (.cells #[.slice none 0 0] 27)).alloc (.cells #[.int .i64 0, .int .i64 0, .int .i64 0, .slice none 0 0] 54) = y := ⟨_, rfl⟩
  obtain ⟨tb, htb⟩ : ∃ y, w.heap.size = y := ⟨_, rfl⟩
  have HB1 : Hid (Below w.heap.size w w1) := by rw [← hw1]; exact (((Below.refl _ _).alloc (Nat.le_refl _) _).alloc (by simp) _).alloc (by simp; omega) _
  have HX1 : Hid (w1.heap[tb]? = some (.cells #[.slice a N c] 27 (0, 0))) := by rw [← hw1, ← htb]; exact heap_alloc_old (heap_alloc_old (heap_alloc_new _ _))
  have HY1 : Hid (w1.heap[tb + 1]? = some (.cells #[.slice none 0 0] 27 (0, 0))) := by rw [← hw1, ← htb]; exact heap_alloc_old (heap_alloc_new' (by simp))
  have HZ1 : Hid (w1.heap[tb + 1 + 1]? = some (.cells #[.int .i64 0, .int .i64 0, .int .i64 0, .slice none 0 0] 54 (0, 0))) := by rw [← hw1, ← htb]; exact heap_alloc_new' (by simp)
  have HTB : Hid (w.heap.size = tb) := htb
  rw [hw1, htb]
  clear hw1 htb
  have t0 := cells_1 HX1.out
  go_upto_region 11 with fail
  obtain ⟨w2, hw2⟩ : ∃ y, w1.alloc (.cells #[.int .i64 st, .int .i64 0, .int .i64 0, .slice none 0 0] 54) = y := ⟨_, rfl⟩
  obtain ⟨rb, hrb⟩ : ∃ y, w1.heap.size = y := ⟨_, rfl⟩
  have HP2 : Hid (PlS w1 w2 w2.heap.size rb st a T (.slice none 0 0) [] (.slice none 0 0) []) := by
    have hb : Below w1.heap.size w1 w2 := by rw [← hw2]; exact (Below.refl _ _).alloc (Nat.le_refl _) _
    exact ⟨(H.out.below HB1.out).below hb, World.ownsRow_nil _ _ _ _, by rw [← hw2, ← hrb]; exact heap_alloc_new _ _, RsD.nil _ _, hb, by rw [hrb]; exact Nat.le_refl _, by rw [← hw2, ← hrb]; simp, Nat.le_refl _⟩
  have HRB : Hid (w1.heap.size = rb) := hrb
  rw [hw2, hrb]
  clear hw2 hrb t0
  go_wp2_with fail
  go_loopw [11, 13, 14] (fun lv cv i wr => ∃ (q : Nat) (Tq : List Nd) (L : List RsT) (Cq : List ChT) (la : Option Addr) (lc : Nat) (rv : Value), lv = .slice la Tq.length lc ∧ i = .int .i64 q ∧ q ≤ K ∧ Hid (playL T s st (os.drop q) q Tq (L.map RsT.r) Cq = M) ∧ Hid (Inv Tq ∧ Cq.length ≤ q ∧ L.length = q) ∧ Hid (PlS w1 wr w2.heap.size rb st la Tq cv Cq rv L)) (fun _ _ i _ => K - (intOf i).toNat)
  case atStart => exact ⟨0, T, [], [], a, c, _, by rw [HN.out], rfl, Nat.zero_le _, HM.out, ⟨HI.out, Nat.le_refl _, rfl⟩, HP2.out⟩
  case round =>
    obtain ⟨q, Tq, L, Cq, la, lc, rv, rfl, rfl, hq, HML, HQ, HP⟩ := hrel
    have HXr : Hid _ := kept_block HP.out.low HX1.out
    have HYr : Hid _ := kept_block HP.out.low HY1.out
    have HZr : Hid _ := kept_block HP.out.low HZ1.out
    by_cases hlt : q < K
    · have hqi : (q : Int) < (K : Int) := by omega
      obtain ⟨o, hoq⟩ : ∃ o, os[q]? = some o := ⟨os[q]'(by rw [HK.out]; exact hlt), List.getElem?_eq_getElem _⟩
      obtain ⟨b, fo, rfl, hb, hcs⟩ := HO.out q o hoq
      have HDR : Hid (os.drop q = o :: os.drop (q + 1)) := by show _ = _; rw [List.drop_eq_getElem_cons (by rw [HK.out]; exact hlt)]; congr 1; have := List.getElem?_eq_some_iff.1 hoq; exact this.2
      have hbw : Below w.heap.size w wr := trans2 HB1.out HP.out.low
      have hcell : ∀ j x, o.cells[j]? = some x → wr.cell? ⟨b, fo + q * 5 + j, none⟩ = some x := fun j x hx => by
        rw [hbw.cell (p := ⟨b, fo + q * 5 + j, none⟩) hb]
        exact hcs j x hx
      have o0 := hcell 0 _ rfl
      have o1 := hcell 1 _ rfl
      have o2 := hcell 2 _ rfl
      have o3 := hcell 3 _ rfl
      have o4 := hcell 4 _ rfl
      rw [Nat.add_zero] at o0
      have HBW : Hid (Below w.heap.size w wr) := hbw
      clear hoq hcs hcell hbw
      have HON : Hid _ := refOne_any la lc Tq s st o wr HP.out.nds HQ.out.1
      have HPE : Hid (playL T s st (o :: os.drop (q + 1)) q Tq (L.map RsT.r) Cq = M) := by rw [← HDR.out]; exact HML.out
      have hmc := oneM_ch Tq s st o
      have hmi := oneM_inv HQ.out.1 s st o
      obtain ⟨MO, hMO⟩ : ∃ MO, oneM Tq s st o = MO := ⟨_, rfl⟩
      rw [hMO] at HON hmc hmi
      have HMO : Hid (oneM Tq s st o = MO) := hMO
      have HMI : Hid (Inv MO.2.1) := hmi
      clear hMO hmi
      obtain ⟨mc, MT, ⟨mp, md, mv, mm, mmc, mo, mkids⟩, Mch⟩ := MO
      obtain ⟨TN, hTN⟩ : ∃ n, Tq.length = n := ⟨_, rfl⟩
      rw [hTN] at HON ⊢
      clear hTN
      go_wp2_with fail
      refine Calls.mono HON.out ?_
      rintro e w3 ⟨a3, c3, ka, kc, ca, cc, rfl, hn3, hk3, hc3', hb3⟩
      have HN3 : Hid (NdsAt w3 a3 MT) := hn3
      have HK3 : Hid (w3.ownsRow 0 9 1 (.slice ka mkids.length kc) mkids.length (mkids.map Value.string)) := hk3
      have HC3 : Hid (ChsAt w3 ca Mch) := hc3'
      have HP3 : Hid (PlS w1 w3 w2.heap.size rb st a3 MT u13 Cq rv L) := (HP.out.below hb3).turn hn3
      have HBW3 : Hid (Below w.heap.size w w3) := trans2 HBW.out hb3
      clear hn3 hk3 hc3' hb3 o0 o1 o2 o3 o4 HON
      obtain ⟨KN, hKN⟩ : ∃ n, mkids.length = n := ⟨_, rfl⟩
      have HKN : Hid (mkids.length = KN) := hKN
      obtain ⟨CN, hCN⟩ : ∃ n, Mch.length = n := ⟨_, rfl⟩
      have HCN : Hid (Mch.length = CN) := hCN
      obtain ⟨MN, hMN⟩ : ∃ n, MT.length = n := ⟨_, rfl⟩
      have HMN : Hid (MT.length = MN) := hMN
      have hmc : CN ≤ 1 := by rw [← hCN]; exact hmc
      simp only [hKN, hCN, hMN]
      rw [hKN] at HK3
      clear hKN hCN hMN
      go_upto_region 16 with fail
      obtain ⟨w4, hw4⟩ : ∃ y, w3.alloc (.cells #[.string mp, .string md, .int .i64 mv, .int .i64 mm, .int .i64 mmc, .int .i64 mo, .slice ka KN kc] 87) = y := ⟨_, rfl⟩
      obtain ⟨yb, hyb⟩ : ∃ y, w3.heap.size = y := ⟨_, rfl⟩
      have hb4 : Below w3.heap.size w3 w4 := by rw [← hw4]; exact (Below.refl _ _).alloc (Nat.le_refl _) _
      have HYB : Hid (w4.heap[yb]? = some (.cells #[.string mp, .string md, .int .i64 mv, .int .i64 mm, .int .i64 mmc, .int .i64 mo, .slice ka KN kc] 87 (0, 0))) := by rw [← hw4, ← hyb]; exact heap_alloc_new _ _
      have HP4 : Hid (PlS w1 w4 w2.heap.size rb st a3 MT u13 Cq rv L) := HP3.out.below hb4
      have HK4 : Hid (w4.ownsRow 0 9 1 (.slice ka KN kc) KN (mkids.map Value.string)) := owns_chg HK3.out (Chg.of_below hb4 (fun _ => False)) (fun _ _ => id)
      have HC4 : Hid (ChsAt w4 ca Mch) := HC3.out.below hb4
      have HBW4 : Hid (Below w.heap.size w w4) := trans2 HBW3.out hb4
      rw [hw4, hyb]
      clear hw4 hyb hb4
      by_cases hmz : mc = 0
      · subst hmz
        have HPN : Hid (playL T s st (os.drop (q + 1)) (q + 1) MT (L.map RsT.r ++ [⟨mp, md, mv, mm, mmc, mo, mkids⟩]) (Cq ++ Mch) = M) := by
          have h9 := HPE.out
          unfold playL at h9
          rw [HMO.out, if_neg (by simp)] at h9
          exact h9
        obtain ⟨y0, y1, y2, y3, y4, y5, y6⟩ := cells_7 HYB.out
        obtain ⟨r0, r1, r2, r3⟩ := cells_4 HP4.out.box
        have hrl : rb < w4.heap.size := (Array.getElem?_eq_some_iff.1 HP4.out.box).1
        have hB4 : w2.heap.size ≤ w4.heap.size := HP4.out.hB
        have HLQ : Hid (L.length = q) := HQ.out.2.2
        have HCQ : Hid (Cq.length ≤ q) := HQ.out.2.1
        have HRW : Hid (w4.ownsRow w2.heap.size 87 7 rv q (L.flatMap RsT.cs)) := by have := HP4.out.rs.row; rw [HLQ.out] at this; exact this
        go_upto_region 20 with (first
          | (at_builtin; refine wpList_append_lies _ rfl _ _ _ rfl w2.heap.size 87 i0 _ 7 88 Tryz.underlying52 hi0 hz0 hz1 hz2 rfl (by omega) rv q (L.flatMap RsT.cs) rfl (World.ownsRow.alloc HRW.out _) ⟨w4.heap.size, 0, none⟩ 1 1 [.string mp, .string md, .int .i64 mv, .int .i64 mm, .int .i64 mmc, .int .i64 mo, .slice ka KN kc] rfl rfl (World.news_of_block (cs := #[.string mp, .string md, .int .i64 mv, .int .i64 mm, .int .i64 mmc, .int .i64 mo, .slice ka KN kc]) (t := 87) (fr := (0, 0)) (heap_alloc_new w4 _)) (by simp [Value.oneCell']) (by omega) (by unfold maxLen; omega) (by omega) (by simp; omega) (w4.heap.size + 1) (by simp) ?_
             intro g5 cap5 w5 hown5 hgrow5 hat5 hlt5
             have h9 := HP4.out.res ⟨⟨mp, md, mv, mm, mmc, mo, mkids⟩, ka, KN, kc⟩ HLQ.out (by show World.ownsRow _ _ _ _ _ mkids.length _; rw [HKN.out]; exact HK4.out) hown5 hgrow5
             have HR5 : Hid _ := h9.1
             have HP6 : Hid _ := h9.2.1
             have HC6 : Hid _ := h9.2.2
             obtain ⟨r0, r1, r2, r3⟩ := cells_4 h9.1
             have rf := free_4 h9.1
             clear h9 hown5 hgrow5 hat5 hlt5)
          | fail)
        clear y0 y1 y2 y3 y4 y5 y6 r0 r1 r2 r3 rf
        have HCH : Hid (ChsAt (w5.setCell ⟨rb, 3, none⟩ (.slice (some ⟨g5, 0, none⟩) (q + 1) cap5)) ca Mch) := HC4.out.chg HC6.out (fun k e cur hk => by
          rcases e with e | e
          · obtain ⟨cur', h9⟩ := owns_kind HP4.out.rs.row e
            rw [hk] at h9
            simp at h9
          · rw [show k = rb from e, HP4.out.box] at hk
            simp at hk)
        go_wp2_with fail
        go_loopw [13, 19] (fun cv i wk => ∃ (k : Nat) (Ck : List ChT), i = .int .i64 k ∧ k ≤ CN ∧ Hid (Ck = Cq ++ Mch.take k) ∧ Hid (k < CN → ChsAt wk ca Mch) ∧ Hid (PlS w1 wk w2.heap.size rb st a3 MT cv Ck (.slice (some ⟨g5, 0, none⟩) (q + 1) cap5) (L ++ [⟨⟨mp, md, mv, mm, mmc, mo, mkids⟩, ka, KN, kc⟩]))) (fun _ i _ => CN - (intOf i).toNat)
        case atStart => exact ⟨0, Cq, rfl, Nat.zero_le _, (by show _ = _; simp), fun _ => HCH.out, HP6.out⟩
        case round =>
          obtain ⟨k, Ck, rfl, hk, HCk, HCA, HPk⟩ := hrel
          have HCL : Hid (Ck.length ≤ 8) := by
            show _ ≤ _
            rw [HCk.out, List.length_append, List.length_take]
            have := HCQ.out
            omega
          have hBk : w2.heap.size ≤ wr.heap.size := HPk.out.hB
          by_cases hkl : k < CN
          · have hki : (k : Int) < (CN : Int) := by omega
            obtain ⟨y, hy⟩ : ∃ y, Mch[k]? = some y := ⟨Mch[k]'(by rw [HCN.out]; exact hkl), List.getElem?_eq_getElem _⟩
            obtain ⟨b9, f9, rfl, _⟩ := (HCA.out hkl) k y hy
            obtain ⟨hbl, e0, e1, e2, e3⟩ := chs_cells (HCA.out hkl) hy
            have HTK : Hid (Ck ++ [y] = Cq ++ Mch.take (k + 1)) := by show _ = _; rw [HCk.out, List.take_add_one, hy]; simp
            obtain ⟨CL, hCL⟩ : ∃ n, Ck.length = n := ⟨_, rfl⟩
            have HCL2 : Hid (Ck.length = CL) := hCL
            have HRk : Hid (wr.ownsRow w2.heap.size 85 4 u13 CL (chCs Ck)) := by have := HPk.out.ch; rw [hCL] at this; exact this
            have hcl8 : CL ≤ 8 := by rw [← hCL]; exact HCL.out
            clear hy hCL
            go_wp2_with (first
              | (at_builtin; refine wpList_append_lies _ rfl _ _ _ rfl w2.heap.size 85 j0 _ 4 48 Tryz.underlying55 hj0 hy0 hy1 hy2 rfl (by omega) u13 CL (chCs Ck) rfl (World.ownsRow.alloc HRk.out _) ⟨wr.heap.size, 0, none⟩ 1 1 [.int .i64 y.k, .string y.p, .string y.d, .int .i64 y.v] rfl rfl (World.news_of_block (cs := #[.int .i64 y.k, .string y.p, .string y.d, .int .i64 y.v]) (t := 85) (fr := (0, 0)) (heap_alloc_new wr _)) (by simp [Value.oneCell']) (by omega) (by unfold maxLen; omega) (by omega) (by simp; omega) (wr.heap.size + 1) (by simp) ?_
                 intro g7 cap7 w7 hown7 hgrow7 hat7 hlt7
                 have HP7 : Hid _ := HPk.out.chs y HCL2.out hown7 hgrow7
                 clear hown7 hgrow7 hat7 hlt7)
              | fail)
            go_roundw
            case rel => exact ⟨k + 1, Ck ++ [y], by go_num, by omega, HTK.out, (fun h => by omega), HP7.out⟩
            case measure => simp [intOf]; omega
          · obtain rfl : k = CN := by omega
            have hge : ¬ (k : Int) < (k : Int) := by omega
            go_wp2_with fail
            go_roundw
            case rel =>
              have e1 : Ck = Cq ++ Mch := by rw [HCk.out, List.take_of_length_le (by rw [HCN.out]; exact Nat.le_refl _)]
              refine ⟨q + 1, MT, L ++ [⟨⟨mp, md, mv, mm, mmc, mo, mkids⟩, ka, KN, kc⟩], Ck, a3, c3, _, by rw [HMN.out], by go_num, by omega, ?_, ⟨HMI.out, ?_, ?_⟩, HPk⟩
              · show _ = _
                rw [e1, List.map_append]
                exact HPN.out
              · rw [e1, List.length_append, HCN.out]
                have := HCQ.out
                omega
              · rw [List.length_append, HLQ.out]
                rfl
            case measure => simp [intOf]; omega
      · have emc : (mc != 0) = true := by simpa using hmz
        have HPM : Hid ((⟨mc, q, T, [], []⟩ : PlayR) = M) := by
          have h9 := HPE.out
          unfold playL at h9
          rw [HMO.out, if_pos (by simpa using hmz)] at h9
          exact h9
        have HX4 : Hid _ := kept_block HP4.out.low HX1.out
        have HY4 : Hid _ := kept_block HP4.out.low HY1.out
        have HZ4 : Hid _ := kept_block HP4.out.low HZ1.out
        have t0 := cells_1 HX4.out
        have y0 := cells_1 HY4.out
        have yf := free_1 HY4.out
        obtain ⟨z0, z1, z2, z3⟩ := cells_4 HZ4.out
        have zf := free_4 HZ4.out
        clear hmz
        go_wp2_with fail
        refine bodyPost_ret (results_cct rfl _ _ (tb + 1) (tb + 1 + 1) 27 54 #[.slice a N c] #[.int .i64 st, .int .i64 mc, .int .i64 q, .slice none 0 0] (0, 0) (0, 0) _ _ (.slice none 0 0) rfl rfl rfl (fillO_4 (fill_1 HY4.out) (by omega)) (fill_4 (other_blk HZ4.out (by omega))) Tryz.underlying27 rfl (by kernel_rfl) Tryz.underlying54 rfl (by kernel_rfl)) rfl ?_
        rw [← HPM.out]
        exact PlayD.no HN.out c mc H.out (fillB_4 (HBW4.out.setCell (by rw [HTB.out]; show tb ≤ tb + 1; omega) _) (by rw [HTB.out]; omega))
    · obtain rfl : q = K := by omega
      have hge : ¬ (q : Int) < (q : Int) := by omega
      have HME : Hid ((⟨0, 0, Tq, L.map RsT.r, Cq⟩ : PlayR) = M) := by
        have h9 := HML.out
        rw [List.drop_of_length_le (by rw [HK.out]; exact Nat.le_refl _)] at h9
        exact h9
      obtain ⟨ra, rc, rfl⟩ := slice_of' HP.out.rs.row
      obtain ⟨r0, r1, r2, r3⟩ := cells_4 HP.out.box
      have y0 := cells_1 HYr.out
      have yf := free_1 HYr.out
      obtain ⟨z0, z1, z2, z3⟩ := cells_4 HZr.out
      have zf := free_4 HZr.out
      have hrb1 : w1.heap.size ≤ rb := HP.out.base
      have htb1 : tb + 1 + 1 < w1.heap.size := (Array.getElem?_eq_some_iff.1 HZ1.out).1
      have e1 : rb ≠ tb + 1 := by omega
      have e2 : rb ≠ tb + 1 + 1 := by omega
      obtain ⟨ca, cc, ecv⟩ := slice_of' HP.out.ch
      obtain ⟨TN, hTN⟩ : ∃ n, Tq.length = n := ⟨_, rfl⟩
      have HTN : Hid (Tq.length = TN) := hTN
      have HCV : Hid (u13 = .slice ca Cq.length cc) := ecv
      rw [hTN]
      clear hTN ecv
      go_wp2_with fail
      have e3 : tb + 1 ≠ rb := fun e => e1 e.symm
      have e4 : tb + 1 + 1 ≠ rb := fun e => e2 e.symm
      have e5 : tb + 1 + 1 ≠ tb + 1 := by omega
      have e6 : tb + 1 ≠ tb + 1 + 1 := by omega
      have HZs : Hid ((wr.setCell ⟨tb + 1, 0, none⟩ (.slice la TN lc)).heap[tb + 1 + 1]? = some (.cells #[.int .i64 0, .int .i64 0, .int .i64 0, .slice none 0 0] 54 (0, 0))) := other_blk HZr.out e5
      have HZd : Hid ((wr.setCell ⟨tb + 1, 0, none⟩ (.slice la TN lc)).drew.heap[tb + 1 + 1]? = some (.cells #[.int .i64 0, .int .i64 0, .int .i64 0, .slice none 0 0] 54 (0, 0))) := (heap_drew_at _ _).trans HZs.out
      obtain ⟨x0, x1, x2, x3⟩ := cells_4 HZs.out
      have xf := free_4 HZs.out
      obtain ⟨v0, v1, v2, v3⟩ := cells_4 HZd.out
      have vf := free_4 HZd.out
      go_region_held3 (fun w' => w'.cell? ⟨rb, 0, none⟩ = some (.int .i64 st) ∧ w'.cell? ⟨rb, 1, none⟩ = some (.int .i64 0) ∧ w'.cell? ⟨rb, 2, none⟩ = some (.int .i64 0) ∧ w'.cell? ⟨rb, 3, none⟩ = some (.slice ra L.length rc)) (first | go_keep | exact ⟨r0, r1, r2, r3⟩ | (exact ⟨(World.cell?_drew _ _).trans ((cellN e1).trans r0), (World.cell?_drew _ _).trans ((cellN e1).trans r1), (World.cell?_drew _ _).trans ((cellN e1).trans r2), (World.cell?_drew _ _).trans ((cellN e1).trans r3)⟩)) (fail)
      go_wp2_with fail
      have hbA : Below w.heap.size w wr := trans2 HB1.out HP.out.low
      have hcB : Chg wr (put_4 (wr.setCell ⟨tb + 1, 0, none⟩ (.slice la TN lc)) (tb + 1 + 1) (.int .i64 st) (.int .i64 0) (.int .i64 0) (.slice ra L.length rc)) (fun k => k = tb + 1 ∨ k = tb + 1 + 1) := ((Chg.set wr ⟨tb + 1, 0, none⟩ (.slice la TN lc)).mono (fun _ _ e => .inl e)).trans ((((((Chg.set _ ⟨tb + 1 + 1, 0, none⟩ _).trans (Chg.set _ ⟨tb + 1 + 1, 1, none⟩ _)).trans (Chg.set _ ⟨tb + 1 + 1, 2, none⟩ _)).trans (Chg.set _ ⟨tb + 1 + 1, 3, none⟩ _))).mono (fun _ _ e => .inr e))
      have hkd : ∀ k, (k = tb + 1 ∨ k = tb + 1 + 1) → ∃ cur t, t ≠ 50 ∧ t ≠ 85 ∧ t ≠ 87 ∧ t ≠ 9 ∧ wr.heap[k]? = some (.cells cur t (0, 0)) := fun k e => by
        rcases e with rfl | rfl
        · exact ⟨_, 27, by decide, by decide, by decide, by decide, HYr.out⟩
        · exact ⟨_, 54, by decide, by decide, by decide, by decide, HZr.out⟩
      refine bodyPost_ret (results_cct rfl _ _ (tb + 1) (tb + 1 + 1) 27 54 #[.slice la TN lc] #[.int .i64 st, .int .i64 0, .int .i64 0, .slice ra L.length rc] (0, 0) (0, 0) _ _ u13 rfl rfl rfl ((heap_drew_at _ _).trans (fillO_4 (fill_1 HYr.out) (by omega))) ((heap_drew_at _ _).trans (fill_4 (other_blk HZr.out (by omega)))) Tryz.underlying27 rfl (by kernel_rfl) Tryz.underlying54 rfl (by kernel_rfl)) rfl ?_
      rw [← HME.out]
      have hN' := HP.out.nds.chg hcB (fun k e cur hk => by
        obtain ⟨cur', t, h1, _, _, _, h5⟩ := hkd k e
        rw [hk] at h5
        simp at h5
        exact h1 h5.2.symm)
      have hR' := HP.out.rs.chg hcB (fun k e cur => by
        obtain ⟨cur', t, _, _, h3, h4, h5⟩ := hkd k e
        rw [h5]
        constructor
        · intro h9
          simp at h9
          exact h3 h9.2
        · intro h9
          simp at h9
          exact h4 h9.2)
      have hC' := owns_chg HP.out.ch hcB (fun k hk e => by
        obtain ⟨cur', t, _, h2, _, _, h5⟩ := hkd k e
        obtain ⟨cur, h6⟩ := owns_kind HP.out.ch hk
        rw [h6] at h5
        simp at h5
        exact h2 h5.2.symm)
      have hB2 : w.heap.size ≤ w2.heap.size := Nat.le_trans HB1.out.size (Nat.le_of_lt (Nat.lt_of_le_of_lt hrb1 HP.out.lt))
      have hd := below_drewR (put_4 (wr.setCell ⟨tb + 1, 0, none⟩ (.slice la TN lc)) (tb + 1 + 1) (.int .i64 st) (.int .i64 0) (.int .i64 0) (.slice ra L.length rc))
      have hCd := owns_low (owns_chg hC' (Chg.of_below hd (fun _ => False)) (fun _ _ => id)) hB2
      rw [HCV.out] at hCd
      have hRd := hR'.below hd
      exact ⟨la, lc, .slice ra L.length rc, ca, cc, L, by rw [HTN.out, HCV.out]; rfl, rfl, ⟨owns_low hRd.row hB2, hRd.kids⟩, hN'.below hd, hCd, below_drew (fillB_4 (hbA.setCell (by rw [HTB.out]; show tb ≤ tb + 1; omega) _) (by rw [HTB.out]; omega))⟩
theorem refPlay_any (a : Option Addr) (c : Nat) (T : List Nd) (s st : Int) (oa : Option Addr) (oc : Nat) (os : List OpT) (w : World) (h : NdsAt w a T) (hi : Inv T) (hne : T ≠ []) (ho : OpsAt w w.heap.size oa os) :
    Calls Tryz.prog 17 #[rtV a T.length c, .int .i64 s, .int .i64 st, .slice oa os.length oc] w (PlayD w st (playM T s st os)) := by
  unfold playM
  by_cases hm : mayC s st os.length = 0
  · rw [if_neg (by simpa using hm)]
    exact refPlay_ok a c T s st oa oc os w h hi hne ho hm
  · rw [if_pos hm]
    exact refPlay_bad a c os.length T s st oa oc w h hne hm
end Go.Proofs.YthelfbdkbldhjaaGreatDoor
