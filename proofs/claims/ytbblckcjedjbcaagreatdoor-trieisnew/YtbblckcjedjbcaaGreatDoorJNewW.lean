/-
  own.go: TrieIsNew: the walk.
-/
import Derived.Test.YtbblckcjedjbcaaGreatDoorJNewP
import Derived.Test.YtbblckcjedjbcaaGreatDoorXWalksP
namespace Go.Proofs.YtbblckcjedjbcaaGreatDoor.J
open Go.RowKit Go.Maps
set_option linter.unusedVariables false
set_option linter.unusedSimpArgs false
theorem Tryz.info_was : (Tryz.prog.info? 40).map (fun i => (i.zero, i.size, i.bytes)) = some (some (.agg #[.int .i64 0, .string ⟨#[]⟩, .int .i64 0, .int .i64 0]), 4, 40) := by kernel_rfl
set_option maxHeartbeats 64000000 in
set_option maxRecDepth 100000 in
theorem TrieIsNew_walk (a : Option Addr) (c : Nat) (L : List On) (stamp : Int) (ca : Option Addr) (cc : Nat) (C : List Cg) (w : World) (hL : OsAt w a L) (hlen : (L.length : Int) ≤ 9223372036854775807) (hwf : ∀ o ∈ L, wfI o.s) (hC : CsAt w ca C) (hCl : (C.length : Int) ≤ 9223372036854775807) (hCc : C.length ≤ cc) (hg : Ground w) :
    Calls Tryz.prog 5 #[.slice a L.length c, .int .i64 stamp, .slice ca C.length cc] w fun e w' => e = .returned (.bool true) ∧ Below w.heap.size w w' := by
  have HL : Hid (OsAt w a L) := hL
  have HG : Hid (Ground w) := hg
  have HWF : Hid (∀ o ∈ L, wfI o.s) := hwf
  obtain ⟨Tr9, Tk, hT⟩ : ∃ A B, laidR L = (A, B) := ⟨_, _, rfl⟩
  have HT : Hid (laidR L = (Tr9, Tk)) := hT
  have HPM : Hid (Tr9.Perm Tk) := by have := laid_perm L; rw [hT] at this; exact this
  have HTW : Hid (∀ o ∈ Tk, wfI o.s) := fun o ho => hwf o (laid_sub L o (by rw [hT]; exact ho))
  have HTL : Hid (Tr9.length ≤ 60 ∧ Tk.length ≤ 60) := by
    have := laidJ_len L 60
    have e : laidJ L 60 = laidR L := rfl
    rw [e, hT] at this
    exact this
  have HCA : Hid (CsAt w ca C) := hC
  obtain ⟨m0, hm0⟩ : ∃ m0, C.length = m0 := ⟨_, rfl⟩
  have HM0 : Hid (C.length = m0) := hm0
  rw [hm0] at hCl hCc ⊢
  clear hL hg hwf hT hC hm0
  obtain ⟨C1, hC1⟩ : ∃ C1, C.take 60 = C1 := ⟨_, rfl⟩
  have HC1 : Hid (CsAt w ca C1) := by rw [← hC1]; exact HCA.out.take 60
  have HLC : Hid (C1.length = min 60 m0) := by show _ = _; rw [← hC1, List.length_take, HM0.out]
  clear hC1
  go_enter Tryz.func5, Tryz.ntmps5
  go_upto_if 33 with (first
    | (go_at_call 9; refine (begins_any w HG.out).mono ?_; rintro e w1 ⟨rfl, hb1⟩
       have HB1 : Hid (Below w.heap.size w w1) := hb1
       clear hb1)
    | fail)
  go_cut [2] from 34 to 35 (fun s2 wc => ∃ (n : Nat) (w2 : World), w2 = wc ∧ s2 = .slice ca n cc ∧ n ≤ 60 ∧ Hid (C1.length = n) ∧ Hid (Below w.heap.size w wc))
  case first =>
    rcases Classical.em (60 < m0) with h60 | h60
    · have h60i : (60 : Int) < (m0 : Int) := by omega
      have h60c : (60 : Int) ≤ (cc : Int) := by omega
      have h60d : 60 ≤ cc := by omega
      go_wp2_with fail
      go_meet
      case rel => exact ⟨60, _, rfl, rfl, Nat.le_refl _, by show _ = _; rw [HLC.out]; omega, HB1.out⟩
    · have h60i : ¬ (60 : Int) < (m0 : Int) := by omega
      go_wp2_with fail
      go_meet
      case rel => exact ⟨m0, _, rfl, rfl, by omega, by show _ = _; rw [HLC.out]; omega, HB1.out⟩
  case rest =>
    clear HB1
    obtain ⟨n, w1, rfl, rfl, hn60, HCN, HB1⟩ := hcut
    clear HLC HCA HM0 hCl hCc
    go_upto_region 7 with (first
      | (go_at_call 10; refine (laid_any a c L w1 (HL.out.below HB1.out) hlen HWF.out (HG.out.below HB1.out)).mono ?_; rintro e w2 ⟨K, vt, rfl, hla⟩
         rw [HT.out] at hla
         have HLA : Hid (La w1 w2 K w1.heap.size vt (Tr9, Tk)) := hla
         have HB2 : Hid (Below w.heap.size w w2) := xtrans2 HB1.out hla.own.bel
         clear hla)
      | fail)
    obtain ⟨Bt, hBt⟩ : ∃ Bt, w1.heap.size = Bt := ⟨_, rfl⟩
    have HBt : Hid (w1.heap.size = Bt) := hBt
    have HAT2 : Hid (At w2 K Bt Tr9) := by rw [← hBt]; exact HLA.out.own.at'
    obtain ⟨P, hP⟩ : ∃ P, walkO Tr9 = P := ⟨_, rfl⟩
    obtain ⟨m, hm⟩ : ∃ m, Tk.length = m := ⟨_, rfl⟩
    have HM : Hid (Tk.length = m) := hm
    have HPL : Hid (P.length = m) := by show _ = _; rw [← hP, (walkO_perm HAT2.out).length_eq, HPM.out.length_eq, hm]
    have HPE : Hid (walkO Tr9 = P) := hP
    have HWA : Hid _ := walkA w2 K Bt Tr9 HAT2.out (by have := HTL.out; omega)
    rw [hP, HPL.out] at HWA
    have hm60 : m ≤ 60 := by have := HTL.out; omega
    rw [hBt]
    obtain ⟨ak, ck', hvt⟩ := owns_shape HLA.out.row
    subst hvt
    have e1 : (((Tr9, Tk) : List On × List On).2).length = m := hm
    simp only [e1]
    clear hP hm hBt
    go_upto_region 8 with (first
      | (go_at_call 11; refine Calls.mono HWA.out ?_; rintro e w3 ⟨v3, rfl, ho3, hb3⟩
         have HB3 : Hid (Below w.heap.size w w3) := xtrans2 HB2.out hb3
         have HB23 : Hid (Below w2.heap.size w2 w3) := hb3
         have HR3 : Hid (w3.ownsRow 0 36 3 v3 m (scO P)) := owns_lo ho3 (Nat.zero_le _)
         clear ho3 hb3)
      | fail)
    obtain ⟨sa, sc, hv3⟩ := owns_shape HR3.out
    subst hv3
    have HLA3 : Hid (La w1 w3 K Bt (.slice ak m ck') (Tr9, Tk)) := by
      have h := HLA.out.below HB23.out
      rw [HBt.out] at h
      rw [e1] at h
      exact h
    have HAT : Hid (At w3 K Bt Tr9) := HAT2.out.below HB23.out
    have HOK : Hid (OsAt w3 ak Tk) := HLA3.out.os
    have HCV : Hid (CsAt w3 ca C1) := HC1.out.below (xtrans2 HB1.out (xtrans2 (by have h := HLA.out.own.bel; exact h) HB23.out))
    have HGV : Hid (Ground w3) := HG.out.below HB3.out
    obtain ⟨F, hF⟩ : ∃ F, C1.map (fun x => matO Tr9 stamp x.k x.p) = F := ⟨_, rfl⟩
    obtain ⟨G, hG⟩ : ∃ G, Tk.map (fun o => wasO Tr9 o.s) = G := ⟨_, rfl⟩
    have HF : Hid (C1.map (fun x => matO Tr9 stamp x.k x.p) = F) := hF
    have HGG : Hid (Tk.map (fun o => wasO Tr9 o.s) = G) := hG
    have HFL : Hid (F.length = n) := by show _ = _; rw [← hF, List.length_map, HCN.out]
    have HGL : Hid (G.length = m) := by show _ = _; rw [← hG, List.length_map, HM.out]
    have HFS : Hid (∀ l ∈ F, l.length ≤ 60) := by
      rw [← hF]
      intro l hl
      obtain ⟨x, _, rfl⟩ := List.mem_map.1 hl
      exact Nat.le_trans (matO_len _ _ _ _) HTL.out.1
    have HGS : Hid (∀ l ∈ G, l.length ≤ 60) := by
      rw [← hG]
      intro l hl
      obtain ⟨x, _, rfl⟩ := List.mem_map.1 hl
      exact Nat.le_trans (ofO_len _ _) HTL.out.1
    clear hF hG HLA HAT2 HWA HB23 HC1 e1
    go_wp2_with fail
    obtain ⟨B, hB⟩ : ∃ B, w3.heap.size = B := ⟨_, rfl⟩
    obtain ⟨w4, hw4⟩ : ∃ w4, w3.alloc (.cells #[.slice none 0 0, .slice none 0 0, .slice none 0 0, .slice none 0 0] 60) = w4 := ⟨_, rfl⟩
    have HQ0 : Hid (Qn w3 w4 B (.slice none 0 0) (.slice none 0 0) [] []) := by rw [← hw4, ← hB]; exact Qn.start w3
    rw [hw4, hB]
    obtain ⟨i0, hi, hz0, hz1, hz2⟩ := info_parts Tryz.info_vw
    obtain ⟨i1, hi1, hy0, hy1, hy2⟩ := info_parts Tryz.info_vws
    obtain ⟨i2, hi2, hx0, hx1, hx2⟩ := info_parts Tryz.info_was
    obtain ⟨i3, hi3, hv0, hv1, hv2⟩ := info_parts Tryz.info_nos
    have HBV : Hid (w3.heap.size = B) := hB
    clear hw4 hB
    go_loopw [13, 14, 15] (fun tv wv kv wr => ∃ d : Nat, kv = .int .i64 d ∧ d ≤ 2 ∧ Hid (Qn w3 wr B tv wv (MF F d 0) (MF G d 0))) (fun _ _ kv _ => 2 - (intOf kv).toNat)
    case atStart => exact ⟨0, rfl, by omega, by rw [MF_zero, MF_zero]; exact HQ0⟩
    case round =>
      clear HQ0
      obtain ⟨d, rfl, hd, HQ⟩ := hrel
      by_cases hd2 : d < 2
      · have hdi : (d : Int) < 2 := by omega
        go_wp2_with fail
        go_loopw [13, 16] (fun tv iv wr => ∃ p : Nat, iv = .int .i64 p ∧ p ≤ n ∧ Hid (Qn w3 wr B tv u14 (MF F d p) (MF G d 0))) (fun _ iv _ => n - (intOf iv).toNat)
        case atStart => exact ⟨0, rfl, Nat.zero_le _, HQ⟩
        case round =>
          clear HQ
          obtain ⟨p, rfl, hp, HQ⟩ := hrel
          obtain ⟨hv, hn, us, ms, cs, ds, ha⟩ := HQ.out
          have HA : Hid _ := ha
          by_cases hlp : p < n
          · have hlpi : (p : Int) < (n : Int) := by omega
            obtain ⟨x, hx⟩ : ∃ x, C1[p]? = some x := ⟨C1[p]'(by rw [HCN.out]; exact hlp), List.getElem?_eq_getElem _⟩
            obtain ⟨cb, co, hca, x0, x1, x2, x3⟩ := (HCV.out.below ha.bel).at hx
            obtain ⟨l, hl⟩ : ∃ l, matO Tr9 stamp x.k x.p = l := ⟨_, rfl⟩
            have HFP : Hid (F[p]? = some l) := by show _ = _; rw [← HF.out, List.getElem?_map, hx, ← hl]; rfl
            have HMA : Hid _ := matchA wr K Bt Tr9 stamp x.k x.p x.d x.v (HAT.out.below ha.bel) (HGV.out.below ha.bel) (by have := HTL.out; omega)
            rw [hl] at HMA
            obtain ⟨nl, hnl⟩ : ∃ nl, l.length = nl := ⟨_, rfl⟩
            have HNL : Hid (l.length = nl) := hnl
            have hnl60 : nl ≤ 60 := by have := HFS.out l (List.mem_of_getElem? HFP.out); omega
            rw [hnl] at HMA
            have hml : (MF F d p).length ≤ 180 := by
              rw [MF_len F d p (by rw [HFL.out]; exact hp), HFL.out]
              have : d * n ≤ 1 * 60 := Nat.mul_le_mul (by omega) hn60
              omega
            have husl : us.length ≤ 180 := by have h := ha.bo.fu.len; rw [List.length_map] at h; omega
            have hcsl : cs.length ≤ 180 := by have h := ha.ct.fu.len; rw [List.length_map] at h; omega
            have HUS : Hid (us.length ≤ 180) := husl
            have HCS : Hid (cs.length ≤ 180) := hcsl
            have hca' := hca
            clear hx hl hnl ha hml husl hcsl HQ
            subst hca
            go_upto_region 20 with (first
              | (go_at_call 13; refine Calls.mono HMA.out ?_; rintro e w5 ⟨v5, rfl, ho5, hb5⟩
                 have H5 : Hid _ := HA.out.on hb5
                 have HR5 : Hid (w5.ownsRow wr.heap.size 34 2 v5 nl (fl (l.map elT))) := by rw [fl_elT]; exact ho5
                 clear ho5 hb5 x0 x1 x2 x3)
              | fail)
            obtain ⟨ua, uc, hv5⟩ := owns_shape HR5.out
            subst hv5
            have HNE5 : Hid (∀ b, (Value.slice ua nl uc).ownBlock = some b → ¬ FamB us b ∧ ¬ HfB u13 cs b ∧ w3.heap.size ≤ b) := fun b hb => by
              have h1 := (row_block HR5.out b hb).1
              refine ⟨fun e => ?_, fun e => ?_, Nat.le_trans HA.out.bel.size h1⟩
              · have := HA.out.bo.fu.lt e; omega
              · have := HA.out.ct.lt b e; omega
            obtain ⟨b0, b1, b2, b3⟩ := cells_4 H5.out.bo.box
            have HG5 : Hid ((w5.alloc (.cells #[.slice ua nl uc] 37)).ownsRow 0 37 1 hv us.length us) := owns_below H5.out.bo.hr ((Below.refl _ _).alloc (Nat.le_refl _) _)
            have HB5 : Hid (w5.heap[B]? = _) := H5.out.bo.box
            go_upto_region 21 with (first
              | (at_builtin; refine wpList_append_any _ rfl _ _ 57 rfl 0 37 i1 (.slice none 0 0) 1 24 Tryz.underlying57 hi1 hy0 hy1 hy2 rfl (by decide) hv us.length us rfl HG5.out ⟨w5.heap.size, 0, none⟩ 1 1 [.slice ua nl uc] rfl rfl (fun j v hj => by rw [addr_add, Nat.zero_add, cell_blkD (heap_alloc_new _ _)]; exact (by simpa using hj)) (by simp [Value.oneCell']) (by decide) (by have := HUS.out; unfold maxLen; omega) (by have := HUS.out; omega) (Nat.zero_le _) ?_
                 intro g3 c3 w6 h3 hal
                 have hp9 := H5.out.pushV (l := l.map elT) (by rw [List.length_map, HNL.out]; exact owns_mono HR5.out (Nat.zero_le _)) HNE5.out ((Below.refl _ _).alloc (Nat.le_refl _) _) h3 hal
                 have H7 : Hid _ := hp9.1
                 have hB6 := box_grown HB5.out H5.out.bo.hr (by decide) hal
                 clear b0 b1 b2 b3
                 obtain ⟨d0, d1, d2, d3⟩ := cells_4 hB6
                 have fb := free_of hB6
                 clear hp9 h3 hal hB6)
              | fail)
            obtain ⟨w7, hw7⟩ : ∃ w7, w6.setCell ⟨B, 0, none⟩ (.slice (some ⟨g3, 0, none⟩) (us.length + 1) c3) = w7 := ⟨_, rfl⟩
            rw [hw7] at H7 ⊢
            have HR7 : Hid (w7.ownsRow 0 34 2 (.slice ua nl uc) nl (fl (l.map elT))) := by
              have h9 := H7.out.bo.fu.row us.length _ _ (snoc_at us _) (snoc_len _ (by have := HA.out.bo.fu.len; exact this))
              rw [List.length_map, HNL.out] at h9
              exact h9
            have HE7 : Hid ((w7.alloc (.cells #[] 34)).ownsRow 0 34 2 (.slice (some ⟨w7.heap.size, 0, none⟩) 0 0) 0 []) := owns_empty0 w7 2 _
            have HM7 : Hid ((w7.alloc (.cells #[] 34)).ownsRow 0 34 2 (.slice ua nl uc) nl (fl (l.map elT))) := owns_below HR7.out ((Below.refl _ _).alloc (Nat.le_refl _) _)
            clear hw7 d0 d1 d2 d3 fb HB5 HG5 HNE5 HR5 H5
            go_wp2_with (first
              | (at_builtin; have hgd := HG8.out; clear hgd; refine wpList_appG rfl _ _ 57 37 i1 (.slice none 0 0) 1 24 rfl Tryz.underlying57 hi1 hy0 hy1 hy2 rfl (by decide) u13 cs.length cs rfl HG8.out (some ⟨w8.heap.size, 0, none⟩) 1 1 [.slice va nl vc] rfl HT8.out (by simp [Value.oneCell']) (by have := HCS.out; unfold maxLen; omega) (by have := HCS.out; omega) ?_
                 intro v9 w9 h9 hc9 hn9
                 have H9 : Hid _ := H8.out.copiedT (l := l.map elT) (by rw [List.length_map, HNL.out]; exact HR8.out) HNE8.out ((Below.refl _ _).alloc (Nat.le_refl _) _) h9 hc9 hn9
                 clear h9 hc9 hn9)
              | (at_builtin; refine wpList_appG rfl _ _ 37 34 i0 (.agg #[.int .i64 0, .int .i64 0]) 2 16 rfl Tryz.underlying37 hi hz0 hz1 hz2 rfl (by decide) (.slice (some ⟨w7.heap.size, 0, none⟩) 0 0) 0 [] rfl HE7.out ua uc nl (fl (l.map elT)) rfl HM7.out (fl_one _) (by unfold maxLen; omega) (by omega) ?_
                 intro v8 w8 h8 hc8 hn8
                 obtain ⟨hb8, hne8⟩ := copy_new hc8 hn8
                 simp only [Nat.zero_add, List.nil_append] at h8
                 obtain ⟨va, vc, hv8⟩ := owns_shape h8
                 subst hv8
                 have H8 : Hid _ := H7.out.on hb8
                 have HR8 : Hid (w8.ownsRow 0 34 2 (.slice va nl vc) nl (fl (l.map elT))) := h8
                 have HNE8 : Hid (∀ b, (Value.slice va nl vc).ownBlock = some b → ¬ BkB B (.slice (some ⟨g3, 0, none⟩) (us.length + 1) c3) hn (us ++ [.slice ua nl uc]) ms b ∧ ¬ FamB cs b ∧ w3.heap.size ≤ b) := fun b hb => by
                   have h1 := hne8 b hb
                   refine ⟨fun e => ?_, fun e => ?_, Nat.le_trans H7.out.bel.size h1⟩
                   · have := H7.out.bo.lt b e; omega
                   · have := H7.out.ct.fu.lt e; omega
                 have HG8 : Hid ((w8.alloc (.cells #[.slice va nl vc] 37)).ownsRow 0 37 1 u13 cs.length cs) := owns_below H8.out.ct.hr ((Below.refl _ _).alloc (Nat.le_refl _) _)
                 have HT8 : Hid ((w8.alloc (.cells #[.slice va nl vc] 37)).ownsRow 0 37 1 (.slice (some ⟨w8.heap.size, 0, none⟩) 1 1) 1 [.slice va nl vc]) := owns_one0 w8 _ _
                 clear h8 hc8 hn8 hb8 hne8)
              | fail)
            go_roundw
            case rel =>
              refine ⟨p + 1, by go_num, by omega, ?_⟩
              have e2 := MF_next d HFP.out
              show Qn _ _ _ _ _ _ _
              rw [e2]
              exact Qn.oneT H9.out
            case measure => simp [intOf]; omega
          · obtain rfl : p = n := by omega
            have hlpi : ¬ (p : Int) < (p : Int) := by omega
            have HQ3 : Hid (Qn w3 wr B u13 u14 (MF F (d + 1) 0) (MF G d 0)) := by
              have h := HQ.out
              rw [← MF_end, HFL.out]
              exact h
            clear HQ ha HA
            go_wp2_with fail
            go_loopw [14, 18] (fun wv iv wr => ∃ q : Nat, iv = .int .i64 q ∧ q ≤ m ∧ Hid (Qn w3 wr B u13 wv (MF F (d + 1) 0) (MF G d q))) (fun _ iv _ => m - (intOf iv).toNat)
            case atStart => exact ⟨0, rfl, Nat.zero_le _, HQ3⟩
            case round =>
              clear HQ3
              obtain ⟨q, rfl, hq, HQ⟩ := hrel
              obtain ⟨hv, hn, us, ms, cs, ds, ha⟩ := HQ.out
              have HA : Hid _ := ha
              by_cases hlq : q < m
              · have hlqi : (q : Int) < (m : Int) := by omega
                obtain ⟨x, hx⟩ : ∃ x, Tk[q]? = some x := ⟨Tk[q]'(by rw [HM.out]; exact hlq), List.getElem?_eq_getElem _⟩
                obtain ⟨ob, oo, hak, x0, x1, x2, x3, x4⟩ := (HOK.out.below ha.bel).at hx
                obtain ⟨l, hl⟩ : ∃ l, wasO Tr9 x.s = l := ⟨_, rfl⟩
                have HFP : Hid (G[q]? = some l) := by show _ = _; rw [← HGG.out, List.getElem?_map, hx, ← hl]; rfl
                have HMA : Hid _ := ofA wr K Bt Tr9 x.s (HAT.out.below ha.bel) (by have := HTL.out; omega) (HTW.out x (List.mem_of_getElem? hx))
                rw [hl] at HMA
                obtain ⟨nl, hnl⟩ : ∃ nl, l.length = nl := ⟨_, rfl⟩
                have HNL : Hid (l.length = nl) := hnl
                have hnl60 : nl ≤ 60 := by have := HGS.out l (List.mem_of_getElem? HFP.out); omega
                rw [hnl] at HMA
                have hml : (MF G d q).length ≤ 180 := by
                  rw [MF_len G d q (by rw [HGL.out]; exact hq), HGL.out]
                  have : d * m ≤ 1 * 60 := Nat.mul_le_mul (by omega) hm60
                  omega
                have hmsl : ms.length ≤ 180 := by have h := ha.bo.fm.len; rw [List.length_map] at h; omega
                have hdsl : ds.length ≤ 180 := by have h := ha.cw.fu.len; rw [List.length_map] at h; omega
                have HMS : Hid (ms.length ≤ 180) := hmsl
                have HDS : Hid (ds.length ≤ 180) := hdsl
                clear hx hl hnl ha hml hmsl hdsl HQ
                subst hak
                go_upto_region 26 with (first
                  | (go_at_call 14; refine Calls.mono HMA.out ?_; rintro e w5 ⟨v5, rfl, ho5, hb5⟩
                     have H5 : Hid _ := HA.out.on hb5
                     have HR5 : Hid (w5.ownsRow wr.heap.size 40 4 v5 nl (fl (l.map elW))) := by rw [fl_elW]; exact ho5
                     clear ho5 hb5 x0 x1 x2 x3 x4)
                  | fail)
                obtain ⟨ua, uc, hv5⟩ := owns_shape HR5.out
                subst hv5
                have HNE5 : Hid (∀ b, (Value.slice ua nl uc).ownBlock = some b → ¬ FamB ms b ∧ ¬ HfB u14 ds b ∧ w3.heap.size ≤ b) := fun b hb => by
                  have h1 := (row_block HR5.out b hb).1
                  refine ⟨fun e => ?_, fun e => ?_, Nat.le_trans HA.out.bel.size h1⟩
                  · have := HA.out.bo.fm.lt e; omega
                  · have := HA.out.cw.lt b e; omega
                obtain ⟨b0, b1, b2, b3⟩ := cells_4 H5.out.bo.box
                have HG5 : Hid ((w5.alloc (.cells #[.slice ua nl uc] 43)).ownsRow 0 43 1 hn ms.length ms) := owns_below H5.out.bo.nr ((Below.refl _ _).alloc (Nat.le_refl _) _)
                have HB5 : Hid (w5.heap[B]? = _) := H5.out.bo.box
                go_upto_region 27 with (first
                  | (at_builtin; refine wpList_append_any _ rfl _ _ 58 rfl 0 43 i3 (.slice none 0 0) 1 24 Tryz.underlying58 hi3 hv0 hv1 hv2 rfl (by decide) hn ms.length ms rfl HG5.out ⟨w5.heap.size, 0, none⟩ 1 1 [.slice ua nl uc] rfl rfl (fun j v hj => by rw [addr_add, Nat.zero_add, cell_blkD (heap_alloc_new _ _)]; exact (by simpa using hj)) (by simp [Value.oneCell']) (by decide) (by have := HMS.out; unfold maxLen; omega) (by have := HMS.out; omega) (Nat.zero_le _) ?_
                     intro g3 c3 w6 h3 hal
                     have hp9 := H5.out.pushN (l := l.map elW) (by rw [List.length_map, HNL.out]; exact owns_mono HR5.out (Nat.zero_le _)) HNE5.out ((Below.refl _ _).alloc (Nat.le_refl _) _) h3 hal
                     have H7 : Hid _ := hp9.1
                     have hB6 := box_grown HB5.out H5.out.bo.nr (by decide) hal
                     clear b0 b1 b2 b3
                     obtain ⟨d0, d1, d2, d3⟩ := cells_4 hB6
                     have fb := free_of hB6
                     clear hp9 h3 hal hB6)
                  | fail)
                obtain ⟨w7, hw7⟩ : ∃ w7, w6.setCell ⟨B, 2, none⟩ (.slice (some ⟨g3, 0, none⟩) (ms.length + 1) c3) = w7 := ⟨_, rfl⟩
                rw [hw7] at H7 ⊢
                have HR7 : Hid (w7.ownsRow 0 40 4 (.slice ua nl uc) nl (fl (l.map elW))) := by
                  have h9 := H7.out.bo.fm.row ms.length _ _ (snoc_at ms _) (snoc_len _ (by have := HA.out.bo.fm.len; exact this))
                  rw [List.length_map, HNL.out] at h9
                  exact h9
                have HE7 : Hid ((w7.alloc (.cells #[] 40)).ownsRow 0 40 4 (.slice (some ⟨w7.heap.size, 0, none⟩) 0 0) 0 []) := owns_empty0 w7 4 _
                have HM7 : Hid ((w7.alloc (.cells #[] 40)).ownsRow 0 40 4 (.slice ua nl uc) nl (fl (l.map elW))) := owns_below HR7.out ((Below.refl _ _).alloc (Nat.le_refl _) _)
                clear hw7 d0 d1 d2 d3 fb HB5 HG5 HNE5 HR5 H5
                go_wp2_with (first
                  | (at_builtin; have hgd := HG8.out; clear hgd; refine wpList_appG rfl _ _ 58 43 i3 (.slice none 0 0) 1 24 rfl Tryz.underlying58 hi3 hv0 hv1 hv2 rfl (by decide) u14 ds.length ds rfl HG8.out (some ⟨w8.heap.size, 0, none⟩) 1 1 [.slice va nl vc] rfl HT8.out (by simp [Value.oneCell']) (by have := HDS.out; unfold maxLen; omega) (by have := HDS.out; omega) ?_
                     intro v9 w9 h9 hc9 hn9
                     have H9 : Hid _ := H8.out.copiedW (l := l.map elW) (by rw [List.length_map, HNL.out]; exact HR8.out) HNE8.out ((Below.refl _ _).alloc (Nat.le_refl _) _) h9 hc9 hn9
                     clear h9 hc9 hn9)
                  | (at_builtin; refine wpList_appG rfl _ _ 43 40 i2 (.agg #[.int .i64 0, .string ⟨#[]⟩, .int .i64 0, .int .i64 0]) 4 40 rfl Tryz.underlying43 hi2 hx0 hx1 hx2 rfl (by decide) (.slice (some ⟨w7.heap.size, 0, none⟩) 0 0) 0 [] rfl HE7.out ua uc nl (fl (l.map elW)) rfl HM7.out (fl_one _) (by unfold maxLen; omega) (by omega) ?_
                     intro v8 w8 h8 hc8 hn8
                     obtain ⟨hb8, hne8⟩ := copy_new hc8 hn8
                     simp only [Nat.zero_add, List.nil_append] at h8
                     obtain ⟨va, vc, hv8⟩ := owns_shape h8
                     subst hv8
                     have H8 : Hid _ := H7.out.on hb8
                     have HR8 : Hid (w8.ownsRow 0 40 4 (.slice va nl vc) nl (fl (l.map elW))) := h8
                     have HNE8 : Hid (∀ b, (Value.slice va nl vc).ownBlock = some b → ¬ BkB B hv (.slice (some ⟨g3, 0, none⟩) (ms.length + 1) c3) us (ms ++ [.slice ua nl uc]) b ∧ ¬ FamB ds b ∧ w3.heap.size ≤ b) := fun b hb => by
                       have h1 := hne8 b hb
                       refine ⟨fun e => ?_, fun e => ?_, Nat.le_trans H7.out.bel.size h1⟩
                       · have := H7.out.bo.lt b e; omega
                       · have := H7.out.cw.fu.lt e; omega
                     have HG8 : Hid ((w8.alloc (.cells #[.slice va nl vc] 43)).ownsRow 0 43 1 u14 ds.length ds) := owns_below H8.out.cw.hr ((Below.refl _ _).alloc (Nat.le_refl _) _)
                     have HT8 : Hid ((w8.alloc (.cells #[.slice va nl vc] 43)).ownsRow 0 43 1 (.slice (some ⟨w8.heap.size, 0, none⟩) 1 1) 1 [.slice va nl vc]) := owns_one0 w8 _ _
                     clear h8 hc8 hn8 hb8 hne8)
                  | fail)
                go_roundw
                case rel =>
                  refine ⟨q + 1, by go_num, by omega, ?_⟩
                  have e2 := MF_next d HFP.out
                  show Qn _ _ _ _ _ _ _
                  rw [e2]
                  exact Qn.oneW H9.out
                case measure => simp [intOf]; omega
              · obtain rfl : q = m := by omega
                have hlqi : ¬ (q : Int) < (q : Int) := by omega
                have HQ4 : Hid (Qn w3 wr B u13 u14 (MF F (d + 1) 0) (MF G (d + 1) 0)) := by
                  have h := HQ.out
                  rw [← MF_end G, HGL.out]
                  exact h
                clear HQ ha HA
                go_wp2_with fail
                go_roundw
                case rel => exact ⟨d + 1, by go_num, by omega, HQ4.out⟩
                case measure => simp [intOf]; omega
      · have hdi : ¬ (d : Int) < 2 := by omega
        have HQ2 : Hid (Qn w3 wr B u13 u14 (MF F 2 0) (MF G 2 0)) := by
          have e : d = 2 := by omega
          subst e
          exact HQ
        clear HQ
        obtain ⟨wA, hwA⟩ : ∃ wA, wA = wr := ⟨_, rfl⟩
        subst hwA
        obtain ⟨hv, hn, us, ms, cs, ds, ha⟩ := HQ2.out
        obtain ⟨N, hN⟩ : ∃ N, 2 * n = N := ⟨_, rfl⟩
        obtain ⟨M, hM⟩ : ∃ M, 2 * m = M := ⟨_, rfl⟩
        have HN2 : Hid (2 * n = N) := hN
        have HM2 : Hid (2 * m = M) := hM
        have HNF : Hid ((MF F 2 0).length = N) := by show _ = _; rw [MF_len F 2 0 (Nat.zero_le _), HFL.out]; omega
        have HMG : Hid ((MF G 2 0).length = M) := by show _ = _; rw [MF_len G 2 0 (Nat.zero_le _), HGL.out]; omega
        have HUS : Hid (us.length = N) := by show _ = _; have h := ha.bo.fu.len; rw [List.length_map, HNF.out] at h; exact h
        have HCS : Hid (cs.length = N) := by show _ = _; have h := ha.ct.fu.len; rw [List.length_map, HNF.out] at h; exact h
        have HMS : Hid (ms.length = M) := by show _ = _; have h := ha.bo.fm.len; rw [List.length_map, HMG.out] at h; exact h
        have HDS : Hid (ds.length = M) := by show _ = _; have h := ha.cw.fu.len; rw [List.length_map, HMG.out] at h; exact h
        have hN120 : N ≤ 120 := by omega
        have hM120 : M ≤ 120 := by omega
        have rt := ha.ct.hr
        rw [HCS.out] at rt
        obtain ⟨ta, tc, h13⟩ := owns_shape rt
        subst h13
        have rw' := ha.cw.hr
        rw [HDS.out] at rw'
        obtain ⟨wa, wc, h14⟩ := owns_shape rw'
        subst h14
        have HA : Hid _ := ha
        have HRT : Hid (∀ W, Below wA.heap.size wA W → W.ownsRow 0 37 1 (.slice ta N tc) N cs) := fun W hb => owns_below rt hb
        have HRW : Hid (∀ W, Below wA.heap.size wA W → W.ownsRow 0 43 1 (.slice wa M wc) M ds) := fun W hb => owns_below rw' hb
        clear ha rt rw' HQ2 hN hM
        go_wp2_with fail
        go_loopw [20] (fun iv wq => ∃ q : Nat, iv = .int .i64 q ∧ q ≤ N ∧ Hid (Below wA.heap.size wA wq)) (fun iv _ => N - (intOf iv).toNat)
        case atStart => exact ⟨0, rfl, Nat.zero_le _, Below.refl _ _⟩
        case round =>
          obtain ⟨q, rfl, hq, HBq⟩ := hrel
          by_cases hlq : q < N
          · have hlqi : (q : Int) < (N : Int) := by omega
            have hn0 : 0 < n := by have := HN2.out; omega
            obtain ⟨r, hr⟩ : ∃ r, q % n = r := ⟨_, rfl⟩
            have hrn : r < n := by rw [← hr]; exact Nat.mod_lt _ hn0
            have hrN : r < N := by have := HN2.out; omega
            have hrem : (q : Int).tmod (n : Int) = (r : Int) := by rw [Int.tmod_eq_emod_of_nonneg (by omega), ← hr]; norm_cast
            obtain ⟨l9, hl9⟩ : ∃ l9, F[r]? = some l9 := ⟨F[r]'(by rw [HFL.out]; exact hrn), List.getElem?_eq_getElem _⟩
            have hq9 : (MF F 2 0)[q]? = some l9 := by rw [MF_at (by rw [HFL.out]; have := HN2.out; omega), HFL.out, hr]; exact hl9
            have hr9 : (MF F 2 0)[r]? = some l9 := by rw [MF_at (by rw [HFL.out]; have := HN2.out; omega), HFL.out, Nat.mod_eq_of_lt hrn]; exact hl9
            obtain ⟨u, hu⟩ : ∃ u, us[q]? = some u := ⟨us[q]'(by rw [HUS.out]; exact hlq), List.getElem?_eq_getElem _⟩
            obtain ⟨cq, hcq⟩ : ∃ u, cs[q]? = some u := ⟨cs[q]'(by rw [HCS.out]; exact hlq), List.getElem?_eq_getElem _⟩
            obtain ⟨cr, hcr⟩ : ∃ u, cs[r]? = some u := ⟨cs[r]'(by rw [HCS.out]; exact hrN), List.getElem?_eq_getElem _⟩
            have hq' := HA.out.on HBq.out
            have E1 : Hid (TsAt wr u l9) := hq'.bo.fu.tags hu hq9
            have E2 : Hid (TsAt wr cq l9) := hq'.ct.fu.tags hcq hq9
            have E3 : Hid (TsAt wr cr l9) := hq'.ct.fu.tags hcr hr9
            have hl60 : l9.length ≤ 100000 := by have := HFS.out l9 (List.mem_of_getElem? hl9); omega
            obtain ⟨hg, hc, hhv, hcell⟩ := hq'.bo.cellV hu
            obtain ⟨b0, b1, b2, b3⟩ := cells_4 hq'.bo.box
            rw [HUS.out] at hhv
            have hrt := HRT.out wr HBq.out
            obtain ⟨tg, hta⟩ := row_addr hrt (by omega)
            have HTA : Hid (ta = some ⟨tg, 0, none⟩) := hta
            rw [hta] at hrt
            have t1 : wr.cell? ⟨tg, q, none⟩ = some cq := cell_n hrt hcq
            have t2 : wr.cell? ⟨tg, r, none⟩ = some cr := cell_n hrt hcr
            have HSQ : Hid (∀ (v' u' : Value) (k : Nat), TsAt wr v' l9 → TsAt wr u' l9 → Calls Tryz.prog 17 #[v', u'] (wr.drewN k) fun e w'' => e = .returned (.bool true) ∧ ∃ m, w'' = wr.drewN m) := fun v' u' k h1 h2 => Calls.quiet_of (sameTagsQ v' u' l9 (wr.drewN k) (owns_below h1 (below_drewN (Below.refl _ _) k)) (owns_below h2 (below_drewN (Below.refl _ _) k)) hl60)
            rw [hhv] at b0
            have hn0i : ¬ (n : Int) = 0 := by omega
            have hn0n : ¬ n = 0 := by omega
            have hr0 : (0 : Int) ≤ (r : Int) := by omega
            have hrNi : (r : Int) < (N : Int) := by omega
            subst hta
            clear hl9 hq9 hr9 hu hcq hcr hq' hl60 hhv hrt hr HTA
            go_wp2_with fail
            go_quiet (first
              | (go_at_call 17; exact HSQ.out _ _ _ (by first | exact E1.out | exact E2.out) (by first | exact E2.out | exact E3.out))
              | fail)
            go_wp2_with fail
            go_roundw
            case rel => exact ⟨q + 1, by go_num, by omega, below_drewN HBq.out _⟩
            case measure => simp [intOf]; omega
          · obtain rfl : q = N := by omega
            have hlqi : ¬ (q : Int) < (q : Int) := by omega
            obtain ⟨wB, hwB⟩ : ∃ wB, wB = wr := ⟨_, rfl⟩
            subst hwB
            have HBB : Hid (Below wA.heap.size wA wB) := HBq
            clear HBq
            go_wp2_with fail
            go_loopw [21] (fun iv wq => ∃ q : Nat, iv = .int .i64 q ∧ q ≤ M ∧ Hid (Below wA.heap.size wA wq)) (fun iv _ => M - (intOf iv).toNat)
            case atStart => exact ⟨0, rfl, Nat.zero_le _, HBB⟩
            case round =>
              obtain ⟨q2, rfl, hq2, HBq⟩ := hrel
              by_cases hlq : q2 < M
              · have hlqi2 : (q2 : Int) < (M : Int) := by omega
                have hm0 : 0 < m := by have := HM2.out; omega
                obtain ⟨r, hr⟩ : ∃ r, q2 % m = r := ⟨_, rfl⟩
                have hrm : r < m := by rw [← hr]; exact Nat.mod_lt _ hm0
                have hrM : r < M := by have := HM2.out; omega
                have hrem : (q2 : Int).tmod (m : Int) = (r : Int) := by rw [Int.tmod_eq_emod_of_nonneg (by omega), ← hr]; norm_cast
                obtain ⟨l9, hl9⟩ : ∃ l9, G[r]? = some l9 := ⟨G[r]'(by rw [HGL.out]; exact hrm), List.getElem?_eq_getElem _⟩
                have hq9 : (MF G 2 0)[q2]? = some l9 := by rw [MF_at (by rw [HGL.out]; have := HM2.out; omega), HGL.out, hr]; exact hl9
                have hr9 : (MF G 2 0)[r]? = some l9 := by rw [MF_at (by rw [HGL.out]; have := HM2.out; omega), HGL.out, Nat.mod_eq_of_lt hrm]; exact hl9
                obtain ⟨u, hu⟩ : ∃ u, ms[q2]? = some u := ⟨ms[q2]'(by rw [HMS.out]; exact hlq), List.getElem?_eq_getElem _⟩
                obtain ⟨cq, hcq⟩ : ∃ u, ds[q2]? = some u := ⟨ds[q2]'(by rw [HDS.out]; exact hlq), List.getElem?_eq_getElem _⟩
                obtain ⟨cr, hcr⟩ : ∃ u, ds[r]? = some u := ⟨ds[r]'(by rw [HDS.out]; exact hrM), List.getElem?_eq_getElem _⟩
                have hq' := HA.out.on HBq.out
                have E1 : Hid (wr.ownsRow 0 40 4 u l9.length (waCs l9)) := hq'.bo.fm.was hu hq9
                have E2 : Hid (wr.ownsRow 0 40 4 cq l9.length (waCs l9)) := hq'.cw.fu.was hcq hq9
                have E3 : Hid (wr.ownsRow 0 40 4 cr l9.length (waCs l9)) := hq'.cw.fu.was hcr hr9
                have hl60 : l9.length ≤ 100000 := by have := HGS.out l9 (List.mem_of_getElem? hl9); omega
                obtain ⟨hg, hc, hhv, hcell⟩ := hq'.bo.cellN hu
                obtain ⟨b0, b1, b2, b3⟩ := cells_4 hq'.bo.box
                rw [HMS.out] at hhv
                have hrt := HRW.out wr HBq.out
                obtain ⟨tg, hta⟩ := row_addr hrt (by omega)
                rw [hta] at hrt
                have t1 : wr.cell? ⟨tg, q2, none⟩ = some cq := cell_n hrt hcq
                have t2 : wr.cell? ⟨tg, r, none⟩ = some cr := cell_n hrt hcr
                have HSQ : Hid (∀ (v' u' : Value) (k : Nat), wr.ownsRow 0 40 4 v' l9.length (waCs l9) → wr.ownsRow 0 40 4 u' l9.length (waCs l9) → Calls Tryz.prog 20 #[v', u'] (wr.drewN k) fun e w'' => e = .returned (.bool true) ∧ ∃ m, w'' = wr.drewN m) := fun v' u' k h1 h2 => Calls.quiet_of (sameWatchesQ v' u' l9 (wr.drewN k) (owns_below h1 (below_drewN (Below.refl _ _) k)) (owns_below h2 (below_drewN (Below.refl _ _) k)) hl60)
                rw [hhv] at b2
                have hn0i : ¬ (m : Int) = 0 := by omega
                have hn0n : ¬ m = 0 := by omega
                have hr0 : (0 : Int) ≤ (r : Int) := by omega
                have hrNi : (r : Int) < (M : Int) := by omega
                subst hta
                clear hl9 hq9 hr9 hu hcq hcr hq' hl60 hhv hrt hr
                go_wp2_with fail
                go_quiet (first
                  | (go_at_call 20; exact HSQ.out _ _ _ (by first | exact E1.out | exact E2.out) (by first | exact E2.out | exact E3.out))
                  | fail)
                go_wp2_with fail
                go_roundw
                case rel => exact ⟨q2 + 1, by go_num, by omega, below_drewN HBq.out _⟩
                case measure => simp [intOf]; omega
              · obtain rfl : q2 = M := by omega
                have hlqi2 : ¬ (q2 : Int) < (q2 : Int) := by omega
                obtain ⟨wC, hwC⟩ : ∃ wC, wC = wr := ⟨_, rfl⟩
                subst hwC
                have HAE : Hid _ := HA.out.on HBq.out
                have HAP : Hid _ := apart_any B hv hn us ms (TL (MF F 2 0)) (WL (MF G 2 0)) wC HAE.out.bo (by rw [HUS.out]; omega) (by rw [HMS.out]; omega) (fun l hl => by
                  obtain ⟨x, hx, rfl⟩ := List.mem_map.1 hl
                  rw [List.length_map]
                  have := MF_mem (P := fun l => l.length ≤ 60) HFS.out x hx
                  omega) (fun l hl => by
                  obtain ⟨x, hx, rfl⟩ := List.mem_map.1 hl
                  rw [List.length_map]
                  have := MF_mem (P := fun l => l.length ≤ 60) HGS.out x hx
                  omega)
                clear HBq HBB
                go_upto_region 39 with (first
                  | (go_at_call 21; refine Calls.mono HAP.out ?_; rintro e w6 ⟨rfl, gv, gn, gs, gm, ls', ns', L1, L2, hgd, hc6, hr1, hr2⟩
                     have HGD : Hid (Gd w6 B hv hn gv gn us ms gs gm ls' ns' L1 L2) := hgd
                     have HC6 : Hid (Chg wC w6 (BkB B hv hn us ms)) := hc6.mono (fun j _ e => e.elim .inl (fun e => e.elim (fun e => .inr (.inr (.inr (.inl e)))) (fun e => .inr (.inr (.inr (.inr e))))))
                     have HGN : Hid (∀ j, GdB B hv hn gv gn us ms gs gm j → w3.heap.size ≤ j) := by
                       have hV := HAE.out.bel.size
                       rintro j (hj | hj | hj | hj | hj | hj | hj)
                       · exact HAE.out.nb j (.inl hj)
                       · exact HAE.out.nb j (.inr (.inl hj))
                       · exact HAE.out.nb j (.inr (.inr (.inl hj)))
                       · exact HAE.out.nb j (.inr (.inr (.inr (.inl hj))))
                       · exact HAE.out.nb j (.inr (.inr (.inr (.inr hj))))
                       · exact (hr1 j hj).elim (fun e => HAE.out.nb j (.inr (.inr (.inr (.inl e))))) (fun e => Nat.le_trans hV e)
                       · exact (hr2 j hj).elim (fun e => HAE.out.nb j (.inr (.inr (.inr (.inr e))))) (fun e => Nat.le_trans hV e)
                     clear hgd hc6 hr1 hr2)
                  | fail)
                have HB6 : Hid (Below w3.heap.size w3 w6) := HAE.out.bel.trans (HC6.out.below HAE.out.bel.size (fun j _ e => HAE.out.nb j e))
                have HCT : Hid (Hf w6 37 34 2 (.slice ta q tc) cs (TL (MF F 2 0))) := HAE.out.ct.keep (Kp.of_chg HC6.out (fun b _ hb e => HAE.out.bt b e hb))
                have HWA : Hid _ := walkA w6 K Bt Tr9 (HAT.out.below HB6.out) (by have := HTL.out; omega)
                rw [HPE.out, HPL.out] at HWA
                go_upto_region 42 with (first
                  | (go_at_call 11; refine Calls.mono HWA.out ?_; rintro e w7 ⟨v7, rfl, ho7, hb7⟩
                     have HR7 : Hid (w7.ownsRow 0 36 3 v7 m (scO P)) := owns_lo ho7 (Nat.zero_le _)
                     have HB67 : Hid (Below w6.heap.size w6 w7) := hb7
                     have HB7 : Hid (Below w3.heap.size w3 w7) := HB6.out.trans (hb7.mono HB6.out.size)
                     clear ho7 hb7)
                  | fail)
                have HSS : Hid _ := sameSeatsE v7 (.slice sa m sc) P w7 (by rw [HPL.out]; exact HR7.out) (by rw [HPL.out]; exact owns_below HR3.out HB7.out) (by rw [HPL.out]; omega)
                obtain ⟨va7, vc7, hv7⟩ := owns_shape HR7.out
                subst hv7
                go_upto_region 44 with (first
                  | (go_at_call 22; refine Calls.mono HSS.out ?_; rintro e w8 ⟨rfl, hb8⟩
                     have HB68 : Hid (Below w6.heap.size w6 w8) := xtrans2 HB67.out hb8
                     clear hb8)
                  | fail)
                clear HSS HWA
                go_wp2_with fail
                go_loopw [25] (fun iv wq => ∃ q9 : Nat, iv = .int .i64 q9 ∧ q9 ≤ n ∧ Hid (Below w6.heap.size w6 wq)) (fun iv _ => n - (intOf iv).toNat)
                case atStart => exact ⟨0, rfl, Nat.zero_le _, HB68⟩
                case round =>
                  obtain ⟨q9, rfl, hq9, HBq⟩ := hrel
                  by_cases hlq9 : q9 < n
                  · have hlq9i : (q9 : Int) < (n : Int) := by omega
                    have HBV9 : Hid (Below w3.heap.size w3 wr) := HB6.out.trans (HBq.out.mono HB6.out.size)
                    obtain ⟨x, hx⟩ : ∃ x, C1[q9]? = some x := ⟨C1[q9]'(by rw [HCN.out]; exact hlq9), List.getElem?_eq_getElem _⟩
                    obtain ⟨cb, co, hca, x0, x1, x2, x3⟩ := (HCV.out.below HBV9.out).at hx
                    obtain ⟨l, hl⟩ : ∃ l, matO Tr9 stamp x.k x.p = l := ⟨_, rfl⟩
                    have hFP : F[q9]? = some l := by rw [← HF.out, List.getElem?_map, hx, ← hl]; rfl
                    have hM9 : (MF F 2 0)[q9]? = some l := by rw [MF_at (by rw [HFL.out]; omega), HFL.out, Nat.mod_eq_of_lt hlq9]; exact hFP
                    have hl60 : l.length ≤ 60 := HFS.out l (List.mem_of_getElem? hFP)
                    have HMA : Hid _ := matchA wr K Bt Tr9 stamp x.k x.p x.d x.v (HAT.out.below HBV9.out) (HGV.out.below HBV9.out) (by have := HTL.out; omega)
                    rw [hl] at HMA
                    obtain ⟨nl, hnl⟩ : ∃ nl, l.length = nl := ⟨_, rfl⟩
                    have HNL : Hid (l.length = nl) := hnl
                    rw [hnl] at HMA
                    have hq9N : q9 < q := by have := HN2.out; omega
                    obtain ⟨cq, hcq⟩ : ∃ u, cs[q9]? = some u := ⟨cs[q9]'(by rw [HCS.out]; exact hq9N), List.getElem?_eq_getElem _⟩
                    have HCQ : Hid (cs[q9]? = some cq) := hcq
                    have HM9 : Hid ((MF F 2 0)[q9]? = some l) := hM9
                    have hq9Ni : (q9 : Int) < (q : Int) := by omega
                    have hcth : (HCT.out.hr) = HCT.out.hr := rfl
                    obtain ⟨tg, hta⟩ : ∃ tg, ta = some ⟨tg, 0, none⟩ := by
                      have h := HCT.out.hr
                      rw [HCS.out] at h
                      exact row_addr h (by omega)
                    have HTC : Hid (∀ W, Below w6.heap.size w6 W → W.cell? ⟨tg, q9, none⟩ = some cq) := fun W hb => by
                      have h := HCT.out.hr
                      rw [HCS.out, hta] at h
                      exact cell_n (owns_below h hb) hcq
                    subst hca
                    subst hta
                    clear hx hl hFP hM9 hnl hcq hcth
                    go_upto_region 48 with (first
                      | (go_at_call 13; refine Calls.mono HMA.out ?_; rintro e w9 ⟨v9, rfl, ho9, hb9⟩
                         have HB9 : Hid (Below w6.heap.size w6 w9) := xtrans2 HBq.out hb9
                         have HR9 : Hid (TsAt w9 v9 l) := by show World.ownsRow _ _ _ _ _ _ _; rw [HNL.out]; exact owns_lo ho9 (Nat.zero_le _)
                         clear ho9 hb9 x0 x1 x2 x3)
                      | fail)
                    have hcq9 := HTC.out w9 HB9.out
                    have HST : Hid _ := sameTagsQ v9 cq l w9 HR9.out (Fam.tags (HCT.out.fu.keep (Kp.of_below HB9.out _)) HCQ.out HM9.out) (by omega)
                    obtain ⟨va9, vc9, hv9⟩ := owns_shape HR9.out
                    subst hv9
                    go_wp2_with (first
                      | (go_at_call 17; refine Calls.mono HST.out ?_; rintro e wz ⟨rfl, z, rfl⟩)
                      | fail)
                    go_roundw
                    case rel => exact ⟨q9 + 1, by go_num, by omega, below_drewN HB9.out _⟩
                    case measure => simp [intOf]; omega
                  · obtain rfl : q9 = n := by omega
                    have hlq9i : ¬ (q9 : Int) < (q9 : Int) := by omega
                    obtain ⟨w9, hw9⟩ : ∃ w9, w9 = wr := ⟨_, rfl⟩
                    subst hw9
                    have HBV9 : Hid (Below w3.heap.size w3 w9) := HB6.out.trans (HBq.out.mono HB6.out.size)
                    have HL9 : Hid (La w1 w9 K Bt (.slice ak m ck') (Tr9, Tk)) := HLA3.out.below HBV9.out
                    have HG9 : Hid (Gd w9 B hv hn gv gn us ms gs gm ls' ns' L1 L2) := HGD.out.keep (Kp.of_below HBq.out _)
                    have HD9 : Hid (∀ j, K j → ¬ GdB B hv hn gv gn us ms gs gm j) := fun j hj e => by
                      have h1 := HAT.out.lt j hj
                      have h2 := HGN.out j e
                      omega
                    go_wp2_with fail
                    go_loopw [27] (fun iv wq => ∃ (q8 : Nat) (K8 : Nat → Prop) (L8 : List On), iv = .int .i64 q8 ∧ q8 ≤ m ∧ L8.length ≤ 60 ∧ Hid (La w1 wq K8 Bt (.slice ak m ck') (L8, Tk)) ∧ Hid (Gd wq B hv hn gv gn us ms gs gm ls' ns' L1 L2) ∧ Hid (∀ j, K8 j → ¬ GdB B hv hn gv gn us ms gs gm j)) (fun iv _ => m - (intOf iv).toNat)
                    case atStart => exact ⟨0, K, Tr9, rfl, Nat.zero_le _, HTL.out.1, HL9, HG9, HD9⟩
                    case round =>
                      obtain ⟨q8, K8, L8, rfl, hq8, hL8, HL8, HG8, HD8⟩ := hrel
                      by_cases hlq8 : q8 < m
                      · have hlq8i : (q8 : Int) < (m : Int) := by omega
                        obtain ⟨x, hx⟩ : ∃ x, Tk[q8]? = some x := ⟨Tk[q8]'(by rw [HM.out]; exact hlq8), List.getElem?_eq_getElem _⟩
                        obtain ⟨ob, oo, hak, x0, x1, x2, x3, x4⟩ := (HL8.out.os).at hx
                        have hgr8 : Ground wr := (HG.out.below HB1.out).below HL8.out.own.bel
                        have hgl8 : Gl K8 := by
                          have g := (HG.out.below HB1.out).lt
                          exact ⟨fun e => by have := HL8.out.own.low _ e; omega, fun e => by have := HL8.out.own.low _ e; omega⟩
                        have HFG : Hid _ := forgetA wr K8 Bt L8 x.s HL8.out.own.at' hgr8 hgl8 (by omega) (HTW.out x (List.mem_of_getElem? hx))
                        subst hak
                        clear hx hgr8 hgl8
                        go_wp2_with (first
                          | (go_at_call 23; refine Calls.mono HFG.out ?_; rintro e w8' ⟨rfl, K9, hA9, hE9⟩
                             have HL9' : Hid _ := HL8.out.added hA9 hE9
                             have HG9' : Hid _ := HG8.out.keep (Kp.of_chg hE9.chg (fun b _ hb e => HD8.out b e hb))
                             have HD9' : Hid (∀ j, K9 j → ¬ GdB B hv hn gv gn us ms gs gm j) := fun j hj e => (hE9.new j hj).elim (fun h => HD8.out j h e) (fun h => by have := HG8.out.lt j e; omega)
                             clear hA9 hE9)
                          | fail)
                        go_roundw
                        case rel => exact ⟨q8 + 1, K9, forO L8 x.s, by go_num, by omega, Nat.le_trans (List.length_filter_le _ _) hL8, HL9'.out, HG9'.out, HD9'.out⟩
                        case measure => simp [intOf]; omega
                      · obtain rfl : q8 = m := by omega
                        have hlq8i : ¬ (q8 : Int) < (q8 : Int) := by omega
                        have HST : Hid _ := HG8.out.stands
                        have HFN : Hid (Below w.heap.size w wr) := xtrans2 HB1.out HL8.out.own.bel
                        go_wp2_with (first
                          | (go_at_call 24; refine Calls.mono HST.out ?_; rintro e wz ⟨rfl, hbz⟩
                             have HBZ : Hid (Below w.heap.size w wz) := xtrans2 HFN.out hbz
                             clear hbz)
                          | fail)
                        go_ret
                        exact ⟨rfl, HBZ.out⟩
end Go.Proofs.YtbblckcjedjbcaaGreatDoor.J
