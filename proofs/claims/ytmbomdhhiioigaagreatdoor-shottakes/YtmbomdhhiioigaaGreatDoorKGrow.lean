/-
  tree: the document's Play, op by op.
-/
import Derived.Test.YtmbomdhhiioigaaGreatDoorTRefX
import Derived.Test.YtmbomdhhiioigaaGreatDoorTRefF
import Derived.Test.YtmbomdhhiioigaaGreatDoorTPartL
namespace Go.Proofs.YtmbomdhhiioigaaGreatDoor
open Go.RowKit Go.Maps Go.WideShapes
set_option linter.unusedVariables false
set_option linter.unusedSimpArgs false
attribute [local go_sem ↓] Go.wp_at_zero Go.wp_at_succ

set_option maxHeartbeats 16000000 in
set_option maxRecDepth 100000 in
theorem refPlay_ok (a : Option Addr) (c : Nat) (T : List Nd) (s st : Int) (oa : Option Addr) (oc : Nat) (os : List OpT) (w : World) (h : NdsAt w a T) (hi : Inv T) (hne : T ≠ []) (ho : OpsAt w w.heap.size oa os) (hm : mayC s st os.length = 0) :
    Calls Tryz.prog 14 #[rtV a T.length c, .int .i64 s, .int .i64 st, .slice oa os.length oc] w (PlayD w st (playL T s st os 0 T [] [])) := by
  obtain ⟨i0, hi0, hz0, hz1, hz2⟩ := info_parts Tryz.infoR
  obtain ⟨j0, hj0, hy0, hy1, hy2⟩ := info_parts Tryz.infoC
  have H : Hid (NdsAt w a T) := h
  have HI : Hid (Inv T) := hi
  have HO : Hid (OpsAt w w.heap.size oa os) := ho
  have hl : T.length ≠ 0 := fun e => hne (List.length_eq_zero_iff.1 e)
  obtain ⟨hc1, hc2, hc3, hc4, hc5, hc6⟩ : os.length ≤ 4 ∧ 1 ≤ os.length ∧ ¬ s < 0 ∧ ¬ 2147483647 < s ∧ ¬ st < 1 ∧ ¬ 2147483647 < st := by
    unfold mayC at hm
    by_cases h4 : 4 < os.length
    · rw [if_pos h4] at hm
      exact absurd hm (by decide)
    · by_cases hb : s < 0 ∨ 2147483647 < s ∨ st < 1 ∨ 2147483647 < st
      · rw [if_neg h4, if_pos hb] at hm
        exact absurd hm (by decide)
      · by_cases h0 : os.length = 0
        · rw [if_neg h4, if_neg hb, if_pos h0] at hm
          exact absurd hm (by decide)
        · exact ⟨by omega, by omega, by omega, by omega, by omega, by omega⟩
  obtain ⟨N, hN⟩ : ∃ N, T.length = N := ⟨_, rfl⟩
  have HN : Hid (T.length = N) := hN
  obtain ⟨K, hK⟩ : ∃ K, os.length = K := ⟨_, rfl⟩
  have HK : Hid (os.length = K) := hK
  obtain ⟨M, hM⟩ : ∃ M, playL T s st os 0 T [] [] = M := ⟨_, rfl⟩
  have HM : Hid (playL T s st os 0 T [] [] = M) := hM
  rw [hN] at hl ⊢
  rw [hK] at hc1 hc2 ⊢
  rw [hM]
  have hn0 : ((N : Int) == 0) = false := by have : ¬ (N : Int) = 0 := by omega
                                            simpa using this
  have hk0 : ((K : Int) == 0) = false := by have : ¬ (K : Int) = 0 := by omega
                                            simpa using this
  have hk4 : ¬ (4 : Int) < (K : Int) := by omega
  clear h hne hN hl hi ho hK hM hm
  go_enter Tryz.func14, Tryz.ntmps14
  go_upto_region 1 with fail
  obtain ⟨w1, hw1⟩ : ∃ y, ((w.alloc (.cells #[.slice a N c] 26)).alloc (.cells #[.slice none 0 0] 26)).alloc (.cells #[.int .i64 0, .int .i64 0, .int .i64 0, .slice none 0 0] 51) = y := ⟨_, rfl⟩
  obtain ⟨tb, htb⟩ : ∃ y, w.heap.size = y := ⟨_, rfl⟩
  have HB1 : Hid (Below w.heap.size w w1) := by rw [← hw1]; exact (((Below.refl _ _).alloc (Nat.le_refl _) _).alloc (by simp) _).alloc (by simp; omega) _
  have HX1 : Hid (w1.heap[tb]? = some (.cells #[.slice a N c] 26 (0, 0))) := by rw [← hw1, ← htb]; exact heap_alloc_old (heap_alloc_old (heap_alloc_new _ _))
  have HY1 : Hid (w1.heap[tb + 1]? = some (.cells #[.slice none 0 0] 26 (0, 0))) := by rw [← hw1, ← htb]; exact heap_alloc_old (heap_alloc_new' (by simp))
  have HZ1 : Hid (w1.heap[tb + 1 + 1]? = some (.cells #[.int .i64 0, .int .i64 0, .int .i64 0, .slice none 0 0] 51 (0, 0))) := by rw [← hw1, ← htb]; exact heap_alloc_new' (by simp)
  have HTB : Hid (w.heap.size = tb) := htb
  rw [hw1, htb]
  clear hw1 htb
  have t0 := cells_1 HX1.out
  go_upto_region 11 with fail
  obtain ⟨w2, hw2⟩ : ∃ y, w1.alloc (.cells #[.int .i64 st, .int .i64 0, .int .i64 0, .slice none 0 0] 51) = y := ⟨_, rfl⟩
  obtain ⟨rb, hrb⟩ : ∃ y, w1.heap.size = y := ⟨_, rfl⟩
  have HP2 : Hid (PlS w1 w2 w2.heap.size rb st a T (.slice none 0 0) [] (.slice none 0 0) []) := by
    have hb : Below w1.heap.size w1 w2 := by rw [← hw2]; exact (Below.refl _ _).alloc (Nat.le_refl _) _
    exact ⟨(H.out.below HB1.out).below hb, World.ownsRow_nil _ _ _ _, by rw [← hw2, ← hrb]; exact heap_alloc_new _ _, RsD.nil _ _, hb, by rw [hrb]; exact Nat.le_refl _, by rw [← hw2, ← hrb]; simp, Nat.le_refl _⟩
  have HRB : Hid (w1.heap.size = rb) := hrb
  rw [hw2, hrb]
  clear hw2 hrb t0
  go_wp2_with fail
  go_loopw [11, 13, 14] (fun lv cv i wr => ∃ (q : Nat) (Tq : List Nd) (L : List RsT) (Cq : List ChT) (la : Option Addr) (lc : Nat) (rv : Value), lv = .slice la Tq.length lc ∧ i = .int .i64 q ∧ q ≤ K ∧ Hid (playL T s st (os.drop q) q Tq (L.map RsT.r) Cq = M) ∧ Hid (Inv Tq ∧ Cq.length ≤ q ∧ L.length = q) ∧ Hid (PlS w1 wr w2.heap.size rb st la Tq cv Cq rv L)) (fun _ _ i _ => K - (intOf i).toNat)
  case atStart => exact ⟨0, T, [], [], a, c, _, by rw [HN.out], rfl, Nat.zero_le _, HM.out, ⟨HI.out, Nat.le_refl _, rfl⟩, HP2.out⟩
  case round =>
    obtain ⟨q, Tq, L, Cq, la, lc, rv, rfl, rfl, hq, HML, HQ, HP⟩ := hrel
    have HXr : Hid _ := kept_block HP.out.low HX1.out
    have HYr : Hid _ := kept_block HP.out.low HY1.out
    have HZr : Hid _ := kept_block HP.out.low HZ1.out
    by_cases hlt : q < K
    · have hqi : (q : Int) < (K : Int) := by omega
      obtain ⟨o, hoq⟩ : ∃ o, os[q]? = some o := ⟨os[q]'(by rw [HK.out]; exact hlt), List.getElem?_eq_getElem _⟩
      obtain ⟨b, fo, rfl, hb, hcs⟩ := HO.out q o hoq
      have HDR : Hid (os.drop q = o :: os.drop (q + 1)) := by show _ = _; rw [List.drop_eq_getElem_cons (by rw [HK.out]; exact hlt)]; congr 1; have := List.getElem?_eq_some_iff.1 hoq; exact this.2
      have hbw : Below w.heap.size w wr := trans2 HB1.out HP.out.low
      have hcell : ∀ j x, o.cells[j]? = some x → wr.cell? ⟨b, fo + q * 5 + j, none⟩ = some x := fun j x hx => by
        rw [hbw.cell (p := ⟨b, fo + q * 5 + j, none⟩) hb]
        exact hcs j x hx
      have o0 := hcell 0 _ rfl
      have o1 := hcell 1 _ rfl
      have o2 := hcell 2 _ rfl
      have o3 := hcell 3 _ rfl
      have o4 := hcell 4 _ rfl
      rw [Nat.add_zero] at o0
      have HBW : Hid (Below w.heap.size w wr) := hbw
      clear hoq hcs hcell hbw
      have HON : Hid _ := refOne_any la lc Tq s st o wr HP.out.nds HQ.out.1
      have HPE : Hid (playL T s st (o :: os.drop (q + 1)) q Tq (L.map RsT.r) Cq = M) := by rw [← HDR.out]; exact HML.out
      have hmc := oneM_ch Tq s st o
      have hmi := oneM_inv HQ.out.1 s st o
      obtain ⟨MO, hMO⟩ : ∃ MO, oneM Tq s st o = MO := ⟨_, rfl⟩
      rw [hMO] at HON hmc hmi
      have HMO : Hid (oneM Tq s st o = MO) := hMO
      have HMI : Hid (Inv MO.2.1) := hmi
      clear hMO hmi
      obtain ⟨mc, MT, ⟨mp, md, mv, mm, mmc, mo, mkids⟩, Mch⟩ := MO
      obtain ⟨TN, hTN⟩ : ∃ n, Tq.length = n := ⟨_, rfl⟩
      rw [hTN] at HON ⊢
      clear hTN
      go_wp2_with fail
      refine Calls.mono HON.out ?_
      rintro e w3 ⟨a3, c3, ka, kc, ca, cc, rfl, hn3, hk3, hc3', hb3⟩
      have HN3 : Hid (NdsAt w3 a3 MT) := hn3
      have HK3 : Hid (w3.ownsRow 0 9 1 (.slice ka mkids.length kc) mkids.length (mkids.map Value.string)) := hk3
      have HC3 : Hid (ChsAt w3 ca Mch) := hc3'
      have HP3 : Hid (PlS w1 w3 w2.heap.size rb st a3 MT u13 Cq rv L) := (HP.out.below hb3).turn hn3
      have HBW3 : Hid (Below w.heap.size w w3) := trans2 HBW.out hb3
      clear hn3 hk3 hc3' hb3 o0 o1 o2 o3 o4 HON
      obtain ⟨KN, hKN⟩ : ∃ n, mkids.length = n := ⟨_, rfl⟩
      have HKN : Hid (mkids.length = KN) := hKN
      obtain ⟨CN, hCN⟩ : ∃ n, Mch.length = n := ⟨_, rfl⟩
      have HCN : Hid (Mch.length = CN) := hCN
      obtain ⟨MN, hMN⟩ : ∃ n, MT.length = n := ⟨_, rfl⟩
      have HMN : Hid (MT.length = MN) := hMN
      have hmc : CN ≤ 1 := by rw [← hCN]; exact hmc
      simp only [hKN, hCN, hMN]
      rw [hKN] at HK3
      clear hKN hCN hMN
      go_upto_region 16 with fail
      obtain ⟨w4, hw4⟩ : ∃ y, w3.alloc (.cells #[.string mp, .string md, .int .i64 mv, .int .i64 mm, .int .i64 mmc, .int .i64 mo, .slice ka KN kc] 77) = y := ⟨_, rfl⟩
      obtain ⟨yb, hyb⟩ : ∃ y, w3.heap.size = y := ⟨_, rfl⟩
      have hb4 : Below w3.heap.size w3 w4 := by rw [← hw4]; exact (Below.refl _ _).alloc (Nat.le_refl _) _
      have HYB : Hid (w4.heap[yb]? = some (.cells #[.string mp, .string md, .int .i64 mv, .int .i64 mm, .int .i64 mmc, .int .i64 mo, .slice ka KN kc] 77 (0, 0))) := by rw [← hw4, ← hyb]; exact heap_alloc_new _ _
      have HP4 : Hid (PlS w1 w4 w2.heap.size rb st a3 MT u13 Cq rv L) := HP3.out.below hb4
      have HK4 : Hid (w4.ownsRow 0 9 1 (.slice ka KN kc) KN (mkids.map Value.string)) := owns_chg HK3.out (Chg.of_below hb4 (fun _ => False)) (fun _ _ => id)
      have HC4 : Hid (ChsAt w4 ca Mch) := HC3.out.below hb4
      have HBW4 : Hid (Below w.heap.size w w4) := trans2 HBW3.out hb4
      rw [hw4, hyb]
      clear hw4 hyb hb4
      by_cases hmz : mc = 0
      · subst hmz
        have HPN : Hid (playL T s st (os.drop (q + 1)) (q + 1) MT (L.map RsT.r ++ [⟨mp, md, mv, mm, mmc, mo, mkids⟩]) (Cq ++ Mch) = M) := by
          have h9 := HPE.out
          unfold playL at h9
          rw [HMO.out, if_neg (by simp)] at h9
          exact h9
        obtain ⟨y0, y1, y2, y3, y4, y5, y6⟩ := cells_7 HYB.out
        obtain ⟨r0, r1, r2, r3⟩ := cells_4 HP4.out.box
        have hrl : rb < w4.heap.size := (Array.getElem?_eq_some_iff.1 HP4.out.box).1
        have hB4 : w2.heap.size ≤ w4.heap.size := HP4.out.hB
        have HLQ : Hid (L.length = q) := HQ.out.2.2
        have HCQ : Hid (Cq.length ≤ q) := HQ.out.2.1
        have HRW : Hid (w4.ownsRow w2.heap.size 77 7 rv q (L.flatMap RsT.cs)) := by have := HP4.out.rs.row; rw [HLQ.out] at this; exact this
        go_upto_region 20 with (first
          | (at_builtin; refine wpList_append_lies _ rfl _ _ _ rfl w2.heap.size 77 i0 _ 7 88 Tryz.underlying49 hi0 hz0 hz1 hz2 rfl (by omega) rv q (L.flatMap RsT.cs) rfl (World.ownsRow.alloc HRW.out _) ⟨w4.heap.size, 0, none⟩ 1 1 [.string mp, .string md, .int .i64 mv, .int .i64 mm, .int .i64 mmc, .int .i64 mo, .slice ka KN kc] rfl rfl (World.news_of_block (cs := #[.string mp, .string md, .int .i64 mv, .int .i64 mm, .int .i64 mmc, .int .i64 mo, .slice ka KN kc]) (t := 77) (fr := (0, 0)) (heap_alloc_new w4 _)) (by simp [Value.oneCell']) (by omega) (by unfold maxLen; omega) (by omega) (by simp; omega) (w4.heap.size + 1) (by simp) ?_
             intro g5 cap5 w5 hown5 hgrow5 hat5 hlt5
             have h9 := HP4.out.res ⟨⟨mp, md, mv, mm, mmc, mo, mkids⟩, ka, KN, kc⟩ HLQ.out (by show World.ownsRow _ _ _ _ _ mkids.length _; rw [HKN.out]; exact HK4.out) hown5 hgrow5
             have HR5 : Hid _ := h9.1
             have HP6 : Hid _ := h9.2.1
             have HC6 : Hid _ := h9.2.2
             obtain ⟨r0, r1, r2, r3⟩ := cells_4 h9.1
             have rf := free_4 h9.1
             clear h9 hown5 hgrow5 hat5 hlt5)
          | fail)
        clear y0 y1 y2 y3 y4 y5 y6 r0 r1 r2 r3 rf
        have HCH : Hid (ChsAt (w5.setCell ⟨rb, 3, none⟩ (.slice (some ⟨g5, 0, none⟩) (q + 1) cap5)) ca Mch) := HC4.out.chg HC6.out (fun k e cur hk => by
          rcases e with e | e
          · obtain ⟨cur', h9⟩ := owns_kind HP4.out.rs.row e
            rw [hk] at h9
            simp at h9
          · rw [show k = rb from e, HP4.out.box] at hk
            simp at hk)
        go_wp2_with fail
        go_loopw [13, 19] (fun cv i wk => ∃ (k : Nat) (Ck : List ChT), i = .int .i64 k ∧ k ≤ CN ∧ Hid (Ck = Cq ++ Mch.take k) ∧ Hid (k < CN → ChsAt wk ca Mch) ∧ Hid (PlS w1 wk w2.heap.size rb st a3 MT cv Ck (.slice (some ⟨g5, 0, none⟩) (q + 1) cap5) (L ++ [⟨⟨mp, md, mv, mm, mmc, mo, mkids⟩, ka, KN, kc⟩]))) (fun _ i _ => CN - (intOf i).toNat)
        case atStart => exact ⟨0, Cq, rfl, Nat.zero_le _, (by show _ = _; simp), fun _ => HCH.out, HP6.out⟩
        case round =>
          obtain ⟨k, Ck, rfl, hk, HCk, HCA, HPk⟩ := hrel
          have HCL : Hid (Ck.length ≤ 8) := by
            show _ ≤ _
            rw [HCk.out, List.length_append, List.length_take]
            have := HCQ.out
            omega
          have hBk : w2.heap.size ≤ wr.heap.size := HPk.out.hB
          by_cases hkl : k < CN
          · have hki : (k : Int) < (CN : Int) := by omega
            obtain ⟨y, hy⟩ : ∃ y, Mch[k]? = some y := ⟨Mch[k]'(by rw [HCN.out]; exact hkl), List.getElem?_eq_getElem _⟩
            obtain ⟨b9, f9, rfl, _⟩ := (HCA.out hkl) k y hy
            obtain ⟨hbl, e0, e1, e2, e3⟩ := chs_cells (HCA.out hkl) hy
            have HTK : Hid (Ck ++ [y] = Cq ++ Mch.take (k + 1)) := by show _ = _; rw [HCk.out, List.take_add_one, hy]; simp
            obtain ⟨CL, hCL⟩ : ∃ n, Ck.length = n := ⟨_, rfl⟩
            have HCL2 : Hid (Ck.length = CL) := hCL
            have HRk : Hid (wr.ownsRow w2.heap.size 80 4 u13 CL (chCs Ck)) := by have := HPk.out.ch; rw [hCL] at this; exact this
            have hcl8 : CL ≤ 8 := by rw [← hCL]; exact HCL.out
            clear hy hCL
            go_wp2_with (first
              | (at_builtin; refine wpList_append_lies _ rfl _ _ _ rfl w2.heap.size 80 j0 _ 4 48 Tryz.underlying45 hj0 hy0 hy1 hy2 rfl (by omega) u13 CL (chCs Ck) rfl (World.ownsRow.alloc HRk.out _) ⟨wr.heap.size, 0, none⟩ 1 1 [.int .i64 y.k, .string y.p, .string y.d, .int .i64 y.v] rfl rfl (World.news_of_block (cs := #[.int .i64 y.k, .string y.p, .string y.d, .int .i64 y.v]) (t := 80) (fr := (0, 0)) (heap_alloc_new wr _)) (by simp [Value.oneCell']) (by omega) (by unfold maxLen; omega) (by omega) (by simp; omega) (wr.heap.size + 1) (by simp) ?_
                 intro g7 cap7 w7 hown7 hgrow7 hat7 hlt7
                 have HP7 : Hid _ := HPk.out.chs y HCL2.out hown7 hgrow7
                 clear hown7 hgrow7 hat7 hlt7)
              | fail)
            go_roundw
            case rel => exact ⟨k + 1, Ck ++ [y], by go_num, by omega, HTK.out, (fun h => by omega), HP7.out⟩
            case measure => simp [intOf]; omega
          · obtain rfl : k = CN := by omega
            have hge : ¬ (k : Int) < (k : Int) := by omega
            go_wp2_with fail
            go_roundw
            case rel =>
              have e1 : Ck = Cq ++ Mch := by rw [HCk.out, List.take_of_length_le (by rw [HCN.out]; exact Nat.le_refl _)]
              refine ⟨q + 1, MT, L ++ [⟨⟨mp, md, mv, mm, mmc, mo, mkids⟩, ka, KN, kc⟩], Ck, a3, c3, _, by rw [HMN.out], by go_num, by omega, ?_, ⟨HMI.out, ?_, ?_⟩, HPk⟩
              · show _ = _
                rw [e1, List.map_append]
                exact HPN.out
              · rw [e1, List.length_append, HCN.out]
                have := HCQ.out
                omega
              · rw [List.length_append, HLQ.out]
                rfl
            case measure => simp [intOf]; omega
      · have emc : (mc != 0) = true := by simpa using hmz
        have HPM : Hid ((⟨mc, q, T, [], []⟩ : PlayR) = M) := by
          have h9 := HPE.out
          unfold playL at h9
          rw [HMO.out, if_pos (by simpa using hmz)] at h9
          exact h9
        have HX4 : Hid _ := kept_block HP4.out.low HX1.out
        have HY4 : Hid _ := kept_block HP4.out.low HY1.out
        have HZ4 : Hid _ := kept_block HP4.out.low HZ1.out
        have t0 := cells_1 HX4.out
        have y0 := cells_1 HY4.out
        have yf := free_1 HY4.out
        obtain ⟨z0, z1, z2, z3⟩ := cells_4 HZ4.out
        have zf := free_4 HZ4.out
        clear hmz
        go_wp2_with fail
        refine bodyPost_ret (results_cct rfl _ _ (tb + 1) (tb + 1 + 1) 26 51 #[.slice a N c] #[.int .i64 st, .int .i64 mc, .int .i64 q, .slice none 0 0] (0, 0) (0, 0) _ _ (.slice none 0 0) rfl rfl rfl (fillO_4 (fill_1 HY4.out) (by omega)) (fill_4 (other_blk HZ4.out (by omega))) Tryz.underlying26 rfl (by kernel_rfl) Tryz.underlying51 rfl (by kernel_rfl)) rfl ?_
        rw [← HPM.out]
        exact PlayD.no HN.out c mc H.out (fillB_4 (HBW4.out.setCell (by rw [HTB.out]; show tb ≤ tb + 1; omega) _) (by rw [HTB.out]; omega))
    · obtain rfl : q = K := by omega
      have hge : ¬ (q : Int) < (q : Int) := by omega
      have HME : Hid ((⟨0, 0, Tq, L.map RsT.r, Cq⟩ : PlayR) = M) := by
        have h9 := HML.out
        rw [List.drop_of_length_le (by rw [HK.out]; exact Nat.le_refl _)] at h9
        exact h9
      obtain ⟨ra, rc, rfl⟩ := slice_of' HP.out.rs.row
      obtain ⟨r0, r1, r2, r3⟩ := cells_4 HP.out.box
      have y0 := cells_1 HYr.out
      have yf := free_1 HYr.out
      obtain ⟨z0, z1, z2, z3⟩ := cells_4 HZr.out
      have zf := free_4 HZr.out
      have hrb1 : w1.heap.size ≤ rb := HP.out.base
      have htb1 : tb + 1 + 1 < w1.heap.size := (Array.getElem?_eq_some_iff.1 HZ1.out).1
      have e1 : rb ≠ tb + 1 := by omega
      have e2 : rb ≠ tb + 1 + 1 := by omega
      obtain ⟨ca, cc, ecv⟩ := slice_of' HP.out.ch
      obtain ⟨TN, hTN⟩ : ∃ n, Tq.length = n := ⟨_, rfl⟩
      have HTN : Hid (Tq.length = TN) := hTN
      have HCV : Hid (u13 = .slice ca Cq.length cc) := ecv
      rw [hTN]
      clear hTN ecv
      go_wp2_with fail
      have e3 : tb + 1 ≠ rb := fun e => e1 e.symm
      have e4 : tb + 1 + 1 ≠ rb := fun e => e2 e.symm
      have e5 : tb + 1 + 1 ≠ tb + 1 := by omega
      have e6 : tb + 1 ≠ tb + 1 + 1 := by omega
      have HZs : Hid ((wr.setCell ⟨tb + 1, 0, none⟩ (.slice la TN lc)).heap[tb + 1 + 1]? = some (.cells #[.int .i64 0, .int .i64 0, .int .i64 0, .slice none 0 0] 51 (0, 0))) := other_blk HZr.out e5
      have HZd : Hid ((wr.setCell ⟨tb + 1, 0, none⟩ (.slice la TN lc)).drew.heap[tb + 1 + 1]? = some (.cells #[.int .i64 0, .int .i64 0, .int .i64 0, .slice none 0 0] 51 (0, 0))) := (heap_drew_at _ _).trans HZs.out
      obtain ⟨x0, x1, x2, x3⟩ := cells_4 HZs.out
      have xf := free_4 HZs.out
      obtain ⟨v0, v1, v2, v3⟩ := cells_4 HZd.out
      have vf := free_4 HZd.out
      go_region_held3 (fun w' => w'.cell? ⟨rb, 0, none⟩ = some (.int .i64 st) ∧ w'.cell? ⟨rb, 1, none⟩ = some (.int .i64 0) ∧ w'.cell? ⟨rb, 2, none⟩ = some (.int .i64 0) ∧ w'.cell? ⟨rb, 3, none⟩ = some (.slice ra L.length rc)) (first | go_keep | exact ⟨r0, r1, r2, r3⟩ | (exact ⟨(World.cell?_drew _ _).trans ((cellN e1).trans r0), (World.cell?_drew _ _).trans ((cellN e1).trans r1), (World.cell?_drew _ _).trans ((cellN e1).trans r2), (World.cell?_drew _ _).trans ((cellN e1).trans r3)⟩)) (fail)
      go_wp2_with fail
      have hbA : Below w.heap.size w wr := trans2 HB1.out HP.out.low
      have hcB : Chg wr (put_4 (wr.setCell ⟨tb + 1, 0, none⟩ (.slice la TN lc)) (tb + 1 + 1) (.int .i64 st) (.int .i64 0) (.int .i64 0) (.slice ra L.length rc)) (fun k => k = tb + 1 ∨ k = tb + 1 + 1) := ((Chg.set wr ⟨tb + 1, 0, none⟩ (.slice la TN lc)).mono (fun _ _ e => .inl e)).trans ((((((Chg.set _ ⟨tb + 1 + 1, 0, none⟩ _).trans (Chg.set _ ⟨tb + 1 + 1, 1, none⟩ _)).trans (Chg.set _ ⟨tb + 1 + 1, 2, none⟩ _)).trans (Chg.set _ ⟨tb + 1 + 1, 3, none⟩ _))).mono (fun _ _ e => .inr e))
      have hkd : ∀ k, (k = tb + 1 ∨ k = tb + 1 + 1) → ∃ cur t, t ≠ 69 ∧ t ≠ 80 ∧ t ≠ 77 ∧ t ≠ 9 ∧ wr.heap[k]? = some (.cells cur t (0, 0)) := fun k e => by
        rcases e with rfl | rfl
        · exact ⟨_, 26, by decide, by decide, by decide, by decide, HYr.out⟩
        · exact ⟨_, 51, by decide, by decide, by decide, by decide, HZr.out⟩
      refine bodyPost_ret (results_cct rfl _ _ (tb + 1) (tb + 1 + 1) 26 51 #[.slice la TN lc] #[.int .i64 st, .int .i64 0, .int .i64 0, .slice ra L.length rc] (0, 0) (0, 0) _ _ u13 rfl rfl rfl ((heap_drew_at _ _).trans (fillO_4 (fill_1 HYr.out) (by omega))) ((heap_drew_at _ _).trans (fill_4 (other_blk HZr.out (by omega)))) Tryz.underlying26 rfl (by kernel_rfl) Tryz.underlying51 rfl (by kernel_rfl)) rfl ?_
      rw [← HME.out]
      have hN' := HP.out.nds.chg hcB (fun k e cur hk => by
        obtain ⟨cur', t, h1, _, _, _, h5⟩ := hkd k e
        rw [hk] at h5
        simp at h5
        exact h1 h5.2.symm)
      have hR' := HP.out.rs.chg hcB (fun k e cur => by
        obtain ⟨cur', t, _, _, h3, h4, h5⟩ := hkd k e
        rw [h5]
        constructor
        · intro h9
          simp at h9
          exact h3 h9.2
        · intro h9
          simp at h9
          exact h4 h9.2)
      have hC' := owns_chg HP.out.ch hcB (fun k hk e => by
        obtain ⟨cur', t, _, h2, _, _, h5⟩ := hkd k e
        obtain ⟨cur, h6⟩ := owns_kind HP.out.ch hk
        rw [h6] at h5
        simp at h5
        exact h2 h5.2.symm)
      have hB2 : w.heap.size ≤ w2.heap.size := Nat.le_trans HB1.out.size (Nat.le_of_lt (Nat.lt_of_le_of_lt hrb1 HP.out.lt))
      have hd := below_drewR (put_4 (wr.setCell ⟨tb + 1, 0, none⟩ (.slice la TN lc)) (tb + 1 + 1) (.int .i64 st) (.int .i64 0) (.int .i64 0) (.slice ra L.length rc))
      have hCd := owns_low (owns_chg hC' (Chg.of_below hd (fun _ => False)) (fun _ _ => id)) hB2
      rw [HCV.out] at hCd
      have hRd := hR'.below hd
      exact ⟨la, lc, .slice ra L.length rc, ca, cc, L, by rw [HTN.out, HCV.out]; rfl, rfl, ⟨owns_low hRd.row hB2, hRd.kids⟩, hN'.below hd, hCd, below_drew (fillB_4 (hbA.setCell (by rw [HTB.out]; show tb ≤ tb + 1; omega) _) (by rw [HTB.out]; omega))⟩
theorem refPlay_any (a : Option Addr) (c : Nat) (T : List Nd) (s st : Int) (oa : Option Addr) (oc : Nat) (os : List OpT) (w : World) (h : NdsAt w a T) (hi : Inv T) (hne : T ≠ []) (ho : OpsAt w w.heap.size oa os) :
    Calls Tryz.prog 14 #[rtV a T.length c, .int .i64 s, .int .i64 st, .slice oa os.length oc] w (PlayD w st (playM T s st os)) := by
  unfold playM
  by_cases hm : mayC s st os.length = 0
  · rw [if_neg (by simpa using hm)]
    exact refPlay_ok a c T s st oa oc os w h hi hne ho hm
  · rw [if_pos hm]
    exact refPlay_bad a c os.length T s st oa oc w h hne hm
end Go.Proofs.YtmbomdhhiioigaaGreatDoor
namespace Go.Proofs.YtmbomdhhiioigaaGreatDoor
open Go.RowKit Go.Maps Go.WideShapes
set_option linter.unusedVariables false
set_option linter.unusedSimpArgs false
attribute [local go_sem ↓] Go.wp_at_zero Go.wp_at_succ

set_option maxHeartbeats 4000000 in
set_option maxRecDepth 100000 in
theorem refEnd_low (a : Option Addr) (c n : Nat) (s : Int) (w : World) (hs : s < 1) :
    Calls Tryz.prog 12 #[rtV a n c, .int .i64 s] w fun e w' => e = .returned (.tuple #[rtV a n c, .slice none 0 0]) ∧ Below w.heap.size w w' := by
  go_enter Tryz.func12, Tryz.ntmps12
  go_upto_region 1 with fail
  obtain ⟨w1, hw1⟩ : ∃ y, (w.alloc (.cells #[.slice a n c] 26)).alloc (.cells #[.slice none 0 0] 26) = y := ⟨_, rfl⟩
  obtain ⟨tb, htb⟩ : ∃ y, w.heap.size = y := ⟨_, rfl⟩
  have HB1 : Hid (Below w.heap.size w w1) := by rw [← hw1]; exact ((Below.refl _ _).alloc (Nat.le_refl _) _).alloc (by simp) _
  have HX1 : Hid (w1.heap[tb]? = some (.cells #[.slice a n c] 26 (0, 0))) := by rw [← hw1, ← htb]; exact heap_alloc2_old _ _ _
  have HY1 : Hid (w1.heap[tb + 1]? = some (.cells #[.slice none 0 0] 26 (0, 0))) := by rw [← hw1, ← htb]; exact heap_alloc2_new _ _ _
  have HTB : Hid (w.heap.size = tb) := htb
  rw [hw1, htb]
  clear hw1 htb
  have x0 := cells_1 HX1.out
  have y0 := cells_1 HY1.out
  have yf := free_1 HY1.out
  have hyl : tb + 1 < w1.heap.size := (Array.getElem?_eq_some_iff.1 HY1.out).1
  go_wp2_with fail
  exact bodyPost_ret (results_cell_tmp rfl _ _ (tb + 1) 26 _ (0, 0) _ (.slice none 0 0) rfl rfl (fill_1 HY1.out) Tryz.underlying26 rfl (by kernel_rfl)) rfl ⟨rfl, HB1.out.setCell (by rw [HTB.out]; show tb ≤ tb + 1; omega) _⟩

theorem nds_one {w : World} {g : Nat} {x : Nd} (h : w.heap[g]? = some (.cells #[.string x.p, .string x.d, .int .i64 x.v, .int .i64 x.m, .int .i64 x.c, .int .i64 x.o, .int .i64 x.k] 69 (0, 0))) : NdsAt w (some ⟨g, 0, none⟩) [x] := fun i y hy => by
  match i, hy with
  | 0, hy =>
    obtain rfl : x = y := by simpa using hy
    refine ⟨g, 0, rfl, (Array.getElem?_eq_some_iff.1 h).1, ⟨_, h⟩, fun j v hv => ?_⟩
    obtain ⟨c0, c1, c2, c3, c4, c5, c6⟩ := cells_7 h
    match j, hv with
    | 0, hv => rw [← Option.some.inj hv]; exact c0
    | 1, hv => rw [← Option.some.inj hv]; exact c1
    | 2, hv => rw [← Option.some.inj hv]; exact c2
    | 3, hv => rw [← Option.some.inj hv]; exact c3
    | 4, hv => rw [← Option.some.inj hv]; exact c4
    | 5, hv => rw [← Option.some.inj hv]; exact c5
    | 6, hv => rw [← Option.some.inj hv]; exact c6
    | _ + 7, hv => exact absurd hv (by simp [Nd.cs])
  | _ + 1, hy => simp at hy
set_option maxHeartbeats 4000000 in
set_option maxRecDepth 100000 in
theorem refNew_any (w : World) :
    Calls Tryz.prog 10 #[] w fun e w' => ∃ g, e = .returned (rtV (some ⟨g, 0, none⟩) 1 1) ∧ NdsAt w' (some ⟨g, 0, none⟩) [⟨⟨#[47]⟩, ⟨#[]⟩, 0, 0, 0, 0, 0⟩] ∧ Below w.heap.size w w' := by
  go_enter Tryz.func10, Tryz.ntmps10
  go_wp2_with fail
  refine bodyPost_ret (results_cell1 rfl _ _ w.heap.size 26 _ (0, 0) _ rfl (heap_alloc2_old _ _ _) Tryz.underlying26 rfl (by kernel_rfl)) rfl ⟨w.heap.size + 1, rfl, ?_, ((Below.refl _ _).alloc (Nat.le_refl _) _).alloc (by simp) _⟩
  exact nds_one (heap_alloc2_new _ _ _)
end Go.Proofs.YtmbomdhhiioigaaGreatDoor
namespace Go.Proofs.YtmbomdhhiioigaaGreatDoor
open Go.RowKit Go.Maps Go.WideShapes
set_option linter.unusedVariables false
set_option linter.unusedSimpArgs false
attribute [local go_sem ↓] Go.wp_at_zero Go.wp_at_succ

theorem refEnd_allK (a : Option Addr) (c : Nat) (T : List Nd) (s : Int) (w : World) (h : NdsAt w a T) (hT : T.length ≤ 64) :
    Calls Tryz.prog 12 #[rtV a T.length c, .int .i64 s] w fun e w' => ∃ la lc v, e = .returned (.tuple #[rtV la (finT T s).length lc, v]) ∧ NdsAt w' la (finT T s) ∧ Below w.heap.size w w' := by
  unfold finT
  by_cases hs : s < 1
  · rw [if_pos hs]
    refine Calls.mono (refEnd_low a c T.length s w hs) ?_
    rintro e w' ⟨rfl, hb⟩
    exact ⟨a, c, _, rfl, h.below hb, hb⟩
  · rw [if_neg hs]
    refine Calls.mono (refEnd_any a c T s w h hT hs) ?_
    rintro e w' ⟨la, lc, ca, cc, rfl, h1, h2, h3, h4⟩
    exact ⟨la, lc, _, rfl, h1, h4⟩
theorem results_tmp_cell {P : Program} {fn : Func} {p r : Tmp} {ty : TypeId} (h : fn.results = #[.tmp r, .cell p ty]) (tmps : Array Value) (w : World) (g : Nat) (t : TypeId) (cs : Array Value) (fr : Nat × Nat) (d : TypeDesc) (u : Value)
    (hr : tmps.getD r undef = u) (hp : tmps.getD p undef = .pointer (some ⟨g, 0, none⟩)) (hg : w.heap[g]? = some (.cells cs t fr))
    (hu : P.underlying ty = some d) (hd : (match d with | .struct _ | .array _ _ => true | _ => false) = true) (hi : (P.info? ty).map (·.size) = some cs.size) :
    (results fn tmps).run P w = .ok (.tuple #[u, .agg cs]) w := by
  have hp' : tmps[p]?.getD undef = .pointer (some ⟨g, 0, none⟩) := by simpa using hp
  have hr' : tmps[r]?.getD undef = u := by simpa using hr
  simp [results, h, hp', hr', asAddr, run_loadVar_row w g t ty cs fr d hg hu hd hi]
/-- Both trees. -/
structure Gr (W w : World) (tb q : Nat) (a : Option Addr) (T : List Nd) : Prop where
  low : Below W.heap.size W w
  tr : TrAt w W.heap.size tb q T
  nds : NdsAt w a T
theorem Gr.below {W w w' : World} {tb q : Nat} {a : Option Addr} {T : List Nd} (h : Gr W w tb q a T) (hb : Below w.heap.size w w') : Gr W w' tb q a T := ⟨trans2 h.low hb, h.tr.below hb, h.nds.below hb⟩
theorem trK {w w' : World} {B tb q : Nat} {T : List Nd} {S : Nat → Prop} (h : TrAt w B tb q T) (hc : Chg w w' S) (hs : ∀ k, S k → ∃ cur t, t ≠ 68 ∧ w.heap[k]? = some (.cells cur t (0, 0))) : TrAt w' B tb q T := by
  obtain ⟨mb, n, D, h1, h2, h3⟩ := h.at'
  refine ⟨⟨mb, n, D, ⟨kept_chg hc h1.box (fun e => ?_), map_chg h1.map hc (fun e => ?_), h1.lo, h1.lom⟩, h2, h3⟩, h.snd⟩
  · obtain ⟨cur, t, ht, hk⟩ := hs tb e
    rw [h1.box] at hk
    simp at hk
    exact ht hk.2.symm
  · obtain ⟨es, clock, hb, _⟩ := h1.map
    obtain ⟨cur, t, ht, hk⟩ := hs mb e
    rw [hb] at hk
    cases hk
theorem Gr.set {W w : World} {tb q b : Nat} {v : Value} {a : Option Addr} {T : List Nd} {cs : Array Value} (h : Gr W w tb q a T) (hb : w.heap[b]? = some (.cells cs 26 (0, 0))) (hW : W.heap.size ≤ b) : Gr W (w.setCell ⟨b, 0, none⟩ v) tb q a T :=
  ⟨h.low.setCell hW _, trK h.tr (Chg.set _ _ _) (fun k e => ⟨cs, 26, by decide, by rw [show k = b from e]; exact hb⟩), h.nds.chg (Chg.set _ _ _) (fun k e cur hk => by
    rw [show k = b from e, hb] at hk
    simp at hk)⟩
/-- The program's tree turns; the document's stays. -/
theorem nds_tree {w w' : World} {B tb q : Nat} {T U : List Nd} {a : Option Addr} (h : TrAt w B tb q T) (hn : NdsAt w a U) (hc : Chg w w' (fun k => k = tb)) : NdsAt w' a U := hn.chg hc (fun k e cur hk => by
  obtain ⟨v, hb⟩ := h.box
  rw [show k = tb from e, hb] at hk
  simp at hk)
theorem blk_tree {w w' : World} {B tb q b : Nat} {T : List Nd} {cs : Array Value} {t : TypeId} (h : TrAt w B tb q T) (hb : w.heap[b]? = some (.cells cs t (0, 0))) (ht : t ≠ 68) (hc : Chg w w' (fun k => k = tb)) : w'.heap[b]? = some (.cells cs t (0, 0)) := kept_chg hc hb (fun e => by
  obtain ⟨v, hv⟩ := h.box
  rw [show b = tb from e, hv] at hb
  simp at hb
  exact ht hb.2.symm)
set_option maxHeartbeats 16000000 in
set_option maxRecDepth 100000 in
theorem grown_any (W : World) (a : Option Addr) (c : Nat) (l : List TuT) (hl : l.length ≤ maxLen) (hs : Turns W a l) (hg : GroundT W) (hgc : GroundC W) :
    Calls Tryz.prog 4 #[.slice a l.length c] W fun e w' => ∃ tb q a' c' T, e = .returned (.tuple #[.pointer (some ⟨tb, 0, none⟩), rtV a' T.length c']) ∧ Gr W w' tb q a' T := by
  unfold maxLen at hl
  have HS : Hid (Turns W a l) := hs
  have HG : Hid (GroundT W) := hg
  have HGC : Hid (GroundC W) := hgc
  obtain ⟨N, hN⟩ : ∃ N, l.length = N := ⟨_, rfl⟩
  have HN : Hid (l.length = N) := hN
  rw [hN] at hl ⊢
  clear hs hg hgc hN
  go_enter Tryz.func4, Tryz.ntmps4
  go_upto_region 1 with fail
  obtain ⟨w0, hw0⟩ : ∃ y, W.alloc (.cells #[.slice none 0 0] 26) = y := ⟨_, rfl⟩
  obtain ⟨rb, hrb⟩ : ∃ y, W.heap.size = y := ⟨_, rfl⟩
  have HB0 : Hid (Below W.heap.size W w0) := by rw [← hw0]; exact (Below.refl _ _).alloc (Nat.le_refl _) _
  have HR0 : Hid (w0.heap[rb]? = some (.cells #[.slice none 0 0] 26 (0, 0))) := by rw [← hw0, ← hrb]; exact heap_alloc_new _ _
  have HRB : Hid (W.heap.size = rb) := hrb
  rw [hw0, hrb]
  clear hw0 hrb
  go_wp2_with fail
  refine Calls.mono (new_tr w0) ?_
  rintro e w1 ⟨tb0, rfl, ht1, hb1⟩
  have HT1 : Hid (TrAt w1 W.heap.size tb0 0 [rootN]) := by
    obtain ⟨mb, n, D, h1, h2, h3⟩ := ht1.at'
    exact ⟨⟨mb, n, D, ⟨h1.box, h1.map, Nat.le_trans HB0.out.size h1.lo, Nat.le_trans HB0.out.size h1.lom⟩, h2, h3⟩, ht1.snd⟩
  have HB1 : Hid (Below W.heap.size W w1) := trans2 HB0.out hb1
  have HR1 : Hid _ := kept_block hb1 HR0.out
  clear ht1 hb1
  go_wp2_with fail
  refine Calls.mono (refNew_any w1) ?_
  rintro e w2 ⟨g2, rfl, hn2, hb2⟩
  have HG2 : Hid (Gr W w2 tb0 0 (some ⟨g2, 0, none⟩) [rootN]) := ⟨trans2 HB1.out hb2, HT1.out.below hb2, hn2⟩
  have HR2 : Hid _ := kept_block hb2 HR1.out
  clear hn2 hb2
  go_upto_region 3 with fail
  obtain ⟨w3, hw3⟩ : ∃ y, w2.alloc (.cells #[.slice (some ⟨g2, 0, none⟩) 1 1] 26) = y := ⟨_, rfl⟩
  obtain ⟨vb, hvb⟩ : ∃ y, w2.heap.size = y := ⟨_, rfl⟩
  have hb3 : Below w2.heap.size w2 w3 := by rw [← hw3]; exact (Below.refl _ _).alloc (Nat.le_refl _) _
  have HV3 : Hid (w3.heap[vb]? = some (.cells #[.slice (some ⟨g2, 0, none⟩) [rootN].length 1] 26 (0, 0))) := by rw [← hw3, ← hvb]; exact heap_alloc_new _ _
  have HG3 : Hid (Gr W w3 tb0 0 (some ⟨g2, 0, none⟩) [rootN]) := HG2.out.below hb3
  have HR3 : Hid _ := kept_block hb3 HR2.out
  have HVW : Hid (W.heap.size ≤ vb ∧ rb < vb) := by rw [← hvb]; exact ⟨HG2.out.low.size, (Array.getElem?_eq_some_iff.1 HR2.out).1⟩
  rw [hw3, hvb]
  clear hw3 hvb hb3
  go_wp2_with fail
  go_loopw [6] (fun i wr => ∃ (p tb q : Nat) (a' : Option Addr) (c' : Nat) (T : List Nd), i = .int .i64 p ∧ p ≤ N ∧ p ≤ 40 ∧ q ≤ p ∧ tb = tb0 ∧ Hid (Gr W wr tb q a' T) ∧ Hid (wr.heap[vb]? = some (.cells #[.slice a' T.length c'] 26 (0, 0))) ∧ Hid (wr.heap[rb]? = some (.cells #[.slice none 0 0] 26 (0, 0)))) (fun i _ => N - (intOf i).toNat)
  case atStart => exact ⟨0, tb0, 0, _, 1, [rootN], rfl, Nat.zero_le _, Nat.zero_le _, Nat.le_refl _, rfl, HG3.out, HV3.out, HR3.out⟩
  case round =>
    obtain ⟨p, tb, q, a', c', T, rfl, hp, hp40, hq, rfl, HGr, HVr, HRr⟩ := hrel
    have HBr : Hid (Below W.heap.size W wr) := HGr.out.low
    have hvw := HVW.out
    by_cases hlt : p < N
    · have hlt' : (p : Int) < (N : Int) := by omega
      by_cases h40 : (p : Int) < 40
      · obtain ⟨x, hx⟩ : ∃ x, l[p]? = some x := ⟨l[p]'(by rw [HN.out]; exact hlt), List.getElem?_eq_getElem _⟩
        obtain ⟨b, f, rfl, hbl, hcs, ho, hok⟩ := HS.out p x hx
        have hcell : ∀ w', Below W.heap.size W w' → ∀ j v, x.cells[j]? = some v → w'.cell? ⟨b, f + p * 3 + j, none⟩ = some v := fun w' hb j v hv => by rw [hb.cell (p := ⟨b, f + p * 3 + j, none⟩) hbl]; exact hcs j v hv
        have k0 : wr.cell? ⟨b, f + p * 3, none⟩ = some (.int .i64 x.s) := hcell wr HBr.out 0 _ rfl
        have k1 := hcell wr HBr.out 1 _ rfl
        have k2 := hcell wr HBr.out 2 _ rfl
        have HOO : Hid (OpsAt W W.heap.size x.a x.os ∧ (∀ o ∈ x.os, o.Ok)) := ⟨ho, hok⟩
        clear hcell hcs hx ho hok
        go_upto_region 7 with fail
        obtain ⟨w4, hw4⟩ : ∃ y, wr.alloc (.cells #[.int .i64 x.s, .bool x.en, .slice x.a x.os.length x.c] 44) = y := ⟨_, rfl⟩
        obtain ⟨sb, hsb⟩ : ∃ y, wr.heap.size = y := ⟨_, rfl⟩
        have hb4 : Below wr.heap.size wr w4 := by rw [← hw4]; exact (Below.refl _ _).alloc (Nat.le_refl _) _
        have HG4 : Hid (Gr W w4 tb q a' T) := HGr.out.below hb4
        have HV4 : Hid (w4.heap[vb]? = some (.cells #[.slice a' T.length c'] 26 (0, 0))) := kept_block hb4 HVr.out
        have HR4 : Hid (w4.heap[rb]? = some (.cells #[.slice none 0 0] 26 (0, 0))) := kept_block hb4 HRr.out
        have HX4 : Hid (w4.heap[sb]? = some (.cells #[.int .i64 x.s, .bool x.en, .slice x.a x.os.length x.c] 44 (0, 0))) := by rw [← hw4, ← hsb]; exact heap_alloc_new _ _
        rw [hw4, hsb]
        clear hw4 hsb hb4 k0 k1 k2
        obtain ⟨s0, s1, s2⟩ := cells_3 HX4.out
        cases hen : x.en with
        | true =>
          rw [hen] at s1
          go_wp2_with fail
          refine Calls.mono (end_tr W.heap.size tb q T x.s w4 HG4.out.tr (by omega)) ?_
          rintro e w5 ⟨chV, rfl, _, ht5, hc5⟩
          have HT5 : Hid (TrAt w5 W.heap.size tb q (finT T x.s)) := ht5
          have HN5 : Hid (NdsAt w5 a' T) := nds_tree HG4.out.tr HG4.out.nds hc5
          have HB5 : Hid (Below W.heap.size W w5) := HG4.out.low.trans (chg_lo hc5 HG4.out.tr.lo HG4.out.low.size)
          have HV5 : Hid _ := blk_tree HG4.out.tr HV4.out (by decide) hc5
          have HR5 : Hid _ := blk_tree HG4.out.tr HR4.out (by decide) hc5
          have HX5 : Hid _ := blk_tree HG4.out.tr HX4.out (by decide) hc5
          clear ht5 hc5 s0 s1 s2
          obtain ⟨s0, s1, s2⟩ := cells_3 HX5.out
          have v0 := cells_1 HV5.out
          go_wp2_with fail
          refine Calls.mono (refEnd_allK a' c' T x.s w5 HN5.out HG4.out.tr.snd.inv.len) ?_
          rintro e w6 ⟨la, lc, v6, rfl, hn6, hb6⟩
          obtain ⟨F, hF⟩ : ∃ F, finT T x.s = F := ⟨_, rfl⟩
          rw [hF] at hn6 HT5
          simp only [hF]
          have HG6 : Hid (Gr W w6 tb q la F) := ⟨trans2 HB5.out hb6, HT5.out.below hb6, hn6⟩
          have HV6 : Hid _ := kept_block hb6 HV5.out
          have HR6 : Hid _ := kept_block hb6 HR5.out
          obtain ⟨FN, hFN⟩ : ∃ n, F.length = n := ⟨_, rfl⟩
          have HFN : Hid (F.length = FN) := hFN
          simp only [hFN]
          clear hn6 hb6 hF hFN s0 s1 s2 v0
          go_upto_region 10 with fail
          obtain ⟨w7, hw7⟩ : ∃ y, w6.alloc (.cells #[.slice la FN lc] 26) = y := ⟨_, rfl⟩
          obtain ⟨yb, hyb⟩ : ∃ y, w6.heap.size = y := ⟨_, rfl⟩
          have hb7 : Below w6.heap.size w6 w7 := by rw [← hw7]; exact (Below.refl _ _).alloc (Nat.le_refl _) _
          have HG7 : Hid (Gr W w7 tb q la F) := HG6.out.below hb7
          have HV7 : Hid _ := kept_block hb7 HV6.out
          have HR7 : Hid _ := kept_block hb7 HR6.out
          have HY7 : Hid (w7.heap[yb]? = some (.cells #[.slice la FN lc] 26 (0, 0))) := by rw [← hw7, ← hyb]; exact heap_alloc_new _ _
          rw [hw7, hyb]
          clear hw7 hyb hb7
          have y0 := cells_1 HY7.out
          have v0 := cells_1 HV7.out
          have vf := free_1 HV7.out
          go_wp2_with fail
          go_roundw
          case rel => exact ⟨p + 1, tb, q, la, lc, F, by go_num, by omega, by omega, by omega, rfl, HG7.out.set HV7.out hvw.1, by show _ = _; rw [HFN.out]; exact same_blk HV7.out rfl, other_blk HR7.out (by omega)⟩
          case measure => simp [intOf]; omega
        | false =>
          rw [hen] at s1
          by_cases h6 : x.os.length ≤ 6
          · have h6' : (x.os.length : Int) ≤ 6 := by omega
            have hwi : IntKind.i64.wrap ((p : Int) + 1) = (p : Int) + 1 := by rw [IntKind.wrap_i64]; omega
            go_wp2_with fail
            refine Calls.mono (play_tr W.heap.size tb q T x.s ((p : Int) + 1) x.a x.c x.os w4 (HG.out.below HG4.out.low) (HGC.out.below HG4.out.low) HG4.out.tr (by omega) (opsAt_mono (HOO.out.1.below HG4.out.low) HG4.out.low.size) HOO.out.2) ?_
            rintro e w5 ⟨L5, rv5, chV, rfl, _, _, _, ht5, hc5⟩
            have HT5 : Hid (TrAt w5 W.heap.size tb (q + 1) (playM T x.s ((p : Int) + 1) x.os).T) := ht5
            have HN5 : Hid (NdsAt w5 a' T) := nds_tree HG4.out.tr HG4.out.nds hc5
            have HB5 : Hid (Below W.heap.size W w5) := HG4.out.low.trans (chg_lo hc5 HG4.out.tr.lo HG4.out.low.size)
            have HV5 : Hid _ := blk_tree HG4.out.tr HV4.out (by decide) hc5
            have HR5 : Hid _ := blk_tree HG4.out.tr HR4.out (by decide) hc5
            have HX5 : Hid _ := blk_tree HG4.out.tr HX4.out (by decide) hc5
            clear ht5 hc5 s0 s1 s2
            obtain ⟨s0, s1, s2⟩ := cells_3 HX5.out
            have v0 := cells_1 HV5.out
            go_wp2_with fail
            refine Calls.mono (refPlay_any a' c' T x.s ((p : Int) + 1) x.a x.c x.os w5 HN5.out HG4.out.tr.snd.inv HG4.out.tr.snd.ne (opsAt_mono (HOO.out.1.below HB5.out) HB5.out.size)) ?_
            obtain ⟨M, hM⟩ : ∃ M, playM T x.s ((p : Int) + 1) x.os = M := ⟨_, rfl⟩
            rw [hM] at HT5 ⊢
            obtain ⟨code, at', MT, MR, MC⟩ := M
            rintro e w6 ⟨la, lc, rv6, ca6, cc6, L6, rfl, _, hrs6, hn6, _, hb6⟩
            obtain ⟨ra6, rc6, rfl⟩ := slice_of' hrs6.row
            have HG6 : Hid (Gr W w6 tb (q + 1) la MT) := ⟨trans2 HB5.out hb6, HT5.out.below hb6, hn6⟩
            have HV6 : Hid _ := kept_block hb6 HV5.out
            have HR6 : Hid _ := kept_block hb6 HR5.out
            obtain ⟨FN, hFN⟩ : ∃ n, MT.length = n := ⟨_, rfl⟩
            have HFN : Hid (MT.length = FN) := hFN
            simp only [hFN]
            clear hn6 hb6 hrs6 hM hFN s0 s1 s2 v0
            go_upto_region 14 with fail
            obtain ⟨w7, hw7⟩ : ∃ y, (w6.alloc (.cells #[.slice la FN lc] 26)).alloc (.cells #[.int .i64 ((p : Int) + 1), .int .i64 code, .int .i64 at', .slice ra6 L6.length rc6] 51) = y := ⟨_, rfl⟩
            obtain ⟨yb, hyb⟩ : ∃ y, w6.heap.size = y := ⟨_, rfl⟩
            have hb7 : Below w6.heap.size w6 w7 := by rw [← hw7]; exact ((Below.refl _ _).alloc (Nat.le_refl _) _).alloc (by simp) _
            have HG7 : Hid (Gr W w7 tb (q + 1) la MT) := HG6.out.below hb7
            have HV7 : Hid _ := kept_block hb7 HV6.out
            have HR7 : Hid _ := kept_block hb7 HR6.out
            have HY7 : Hid (w7.heap[yb]? = some (.cells #[.slice la FN lc] 26 (0, 0))) := by rw [← hw7, ← hyb]; exact heap_alloc2_old _ _ _
            rw [hw7, hyb]
            clear hw7 hyb hb7
            have y0 := cells_1 HY7.out
            have v0 := cells_1 HV7.out
            have vf := free_1 HV7.out
            go_wp2_with fail
            go_roundw
            case rel => exact ⟨p + 1, tb, q + 1, la, lc, MT, by go_num, by omega, by omega, by omega, rfl, HG7.out.set HV7.out hvw.1, by show _ = _; rw [HFN.out]; exact same_blk HV7.out rfl, other_blk HR7.out (by omega)⟩
            case measure => simp [intOf]; omega
          · have h6' : ¬ (x.os.length : Int) ≤ 6 := by omega
            go_wp2_with fail
            go_roundw
            case rel => exact ⟨p + 1, tb, q, a', c', T, by go_num, by omega, by omega, by omega, rfl, HG4.out, HV4.out, HR4.out⟩
            case measure => simp [intOf]; omega
      · skip
        have v0 := cells_1 HVr.out
        have r0 := cells_1 HRr.out
        have rf := free_1 HRr.out
        obtain ⟨TN, hTN⟩ : ∃ n, T.length = n := ⟨_, rfl⟩
        have HTN : Hid (T.length = TN) := hTN
        rw [hTN] at v0
        clear hTN
        have n1 : rb ≠ vb := by omega
        have n2 : vb ≠ rb := by omega
        go_wp2_with fail
        go_region_held3 (fun w' => w'.cell? ⟨vb, 0, none⟩ = some (.slice a' TN c')) (first | go_keep | exact v0 | exact (World.cell?_drew _ _).trans ((cellN n2).trans v0)) (fail)
        go_wp2_with fail
        exact bodyPost_ret (results_tmp_cell rfl _ _ rb 26 #[.slice a' TN c'] (0, 0) _ (.pointer (some ⟨tb, 0, none⟩)) rfl rfl ((heap_drew_at _ _).trans (same_blk HRr.out rfl)) Tryz.underlying26 rfl (by kernel_rfl)) rfl ⟨tb, q, a', c', T, by rw [HTN.out], (HGr.out.set HRr.out (by rw [HRB.out]; exact Nat.le_refl _)).below (below_drew0 _)⟩
    · have hge : ¬ (p : Int) < (N : Int) := by omega
      have v0 := cells_1 HVr.out
      have r0 := cells_1 HRr.out
      have rf := free_1 HRr.out
      obtain ⟨TN, hTN⟩ : ∃ n, T.length = n := ⟨_, rfl⟩
      have HTN : Hid (T.length = TN) := hTN
      rw [hTN] at v0
      clear hTN
      have n1 : rb ≠ vb := by omega
      have n2 : vb ≠ rb := by omega
      go_wp2_with fail
      go_region_held3 (fun w' => w'.cell? ⟨vb, 0, none⟩ = some (.slice a' TN c')) (first | go_keep | exact v0 | exact (World.cell?_drew _ _).trans ((cellN n2).trans v0)) (fail)
      go_wp2_with fail
      exact bodyPost_ret (results_tmp_cell rfl _ _ rb 26 #[.slice a' TN c'] (0, 0) _ (.pointer (some ⟨tb, 0, none⟩)) rfl rfl ((heap_drew_at _ _).trans (same_blk HRr.out rfl)) Tryz.underlying26 rfl (by kernel_rfl)) rfl ⟨tb, q, a', c', T, by rw [HTN.out], (HGr.out.set HRr.out (by rw [HRB.out]; exact Nat.le_refl _)).below (below_drew0 _)⟩
end Go.Proofs.YtmbomdhhiioigaaGreatDoor
