/-
  tree: Play.
-/
import Derived.Test.YthelfbdkbldhjaaGreatDoorTPlayM
namespace Go.Proofs.YthelfbdkbldhjaaGreatDoor
open Go.RowKit Go.Maps Go.WideShapes
set_option linter.unusedVariables false
set_option linter.unusedSimpArgs false
attribute [local go_sem ↓] Go.wp_at_zero Go.wp_at_succ

abbrev rpZ : Obj := .cells #[.int .i64 0, .int .i64 0, .int .i64 0, .slice none 0 0] 54
/-- What a request leaves: the reply's results, the changes, the tree. -/
structure PlayE (w : World) (base tb mb n : Nat) (M : PlayR) (L : List RsT) (rv chV : Value) (w' : World) : Prop where
  res : L.map RsT.r = M.R
  row : RsAt w' w.heap.size rv L.length L
  ch : w'.ownsRow w.heap.size 85 4 chV M.C.length (chCs M.C)
  tree : ∃ mb' n' D', (mb' = mb ∨ w.heap.size ≤ mb') ∧ n' ≤ n + 8 ∧ TreeAt w' base tb mb' n' D' ∧ Rep D' M.T
  chg : Chg w w' (fun k => k = tb)
theorem PlayE.none {w w' : World} {base tb mb n : Nat} {D : DataW Value} {T : List Nd} {c : Int} {i : Nat} (hT : TreeAt w base tb mb n D) (hr : Rep D T) (hb : Below w.heap.size w w') : PlayE w base tb mb n ⟨c, i, T, [], []⟩ [] (.slice none 0 0) (.slice none 0 0) w' :=
  ⟨rfl, ⟨World.ownsRow_nil _ _ _ _, Nat.le_refl _, fun x hx => by cases hx⟩, World.ownsRow_nil _ _ _ _, ⟨mb, n, D, .inl rfl, by omega, hT.below hb, hr⟩, Chg.of_below hb _⟩
set_option maxHeartbeats 8000000 in
set_option maxRecDepth 100000 in
/-- A request that may not be. -/
theorem playT_no (base tb mb n : Nat) (D : DataW Value) (T : List Nd) (s st : Int) (a : Option Addr) (N c : Nat) (w : World) (hT : TreeAt w base tb mb n D) (hr : Rep D T) (hc : mayC s st N ≠ 0) :
    Calls Tryz.prog 19 #[.pointer (some ⟨tb, 0, none⟩), .int .i64 s, .int .i64 st, .slice a N c] w fun e w' => e = .returned (.tuple #[.agg #[.int .i64 st, .int .i64 (mayC s st N), .int .i64 0, .slice none 0 0], .slice none 0 0]) ∧ Below w.heap.size w w' := by
  have HT : Hid _ := hT
  have HMP : Hid (∀ W : World, W.cell? ⟨tb, 0, none⟩ = some (.map (some mb)) → Calls Tryz.prog 35 #[.pointer (some ⟨tb, 0, none⟩), .int .i64 s, .int .i64 st, .int .i64 (N : Int)] W fun e w' => e = .returned (.int .i64 (mayC s st N)) ∧ w' = W) := fun W hW => mayPlay_any hW s st N
  obtain ⟨cc, hcc⟩ : ∃ cc, mayC s st N = cc := ⟨_, rfl⟩
  rw [hcc] at HMP hc ⊢
  have hcb : (cc == 0) = false := by simp [hc]
  have hcn : (cc != 0) = true := by simp [hc]
  clear hT hr hcc hc
  go_enter Tryz.func19, Tryz.ntmps19
  have HW0 : Hid (Below w.heap.size w (w.alloc rpZ)) := (Below.refl _ _).alloc (Nat.le_refl _) _
  go_wp2_with (first
    | (go_at_call 35; refine (HMP.out _ (cells_1 (HT.out.below HW0.out).box)).mono ?_; rintro e w1 ⟨rfl, rfl⟩)
    | fail)
  exact bodyPost_ret (results_cell_tmp rfl _ _ w.heap.size 54 _ (0, 0) _ (.slice none 0 0) rfl rfl (heap_alloc_new _ _) Tryz.underlying54 rfl (by kernel_rfl)) rfl ⟨rfl, (Below.refl _ _).alloc (Nat.le_refl _) _⟩
set_option maxHeartbeats 16000000 in
set_option maxRecDepth 100000 in
/-- A request that may be. -/
theorem playT_yes (base tb mb n : Nat) (D : DataW Value) (T : List Nd) (s st : Int) (a : Option Addr) (c : Nat) (os : List OpT) (w : World) (hg : GroundT w) (hgc : GroundC w) (hT : TreeAt w base tb mb n D) (hr : Rep D T) (hi : Inv T) (hn : n ≤ 8000) (ho : OpsAt w w.heap.size a os) (hok : ∀ o ∈ os, o.Ok) (hc : mayC s st os.length = 0) :
    Calls Tryz.prog 19 #[.pointer (some ⟨tb, 0, none⟩), .int .i64 s, .int .i64 st, .slice a os.length c] w fun e w' => ∃ L rv chV, e = .returned (.tuple #[.agg #[.int .i64 st, .int .i64 (playL T s st os 0 T [] []).code, .int .i64 (playL T s st os 0 T [] []).at', rv], chV]) ∧ PlayE w base tb mb n (playL T s st os 0 T [] []) L rv chV w' := by
  obtain ⟨i0, hi0, hz0, hz1, hz2⟩ := info_parts Tryz.infoR
  have hN4 : 1 ≤ os.length ∧ os.length ≤ 4 := by
    unfold mayC at hc
    split at hc
    · cases hc
    split at hc
    · cases hc
    split at hc
    · cases hc
    omega
  obtain ⟨N, hN⟩ : ∃ N, os.length = N := ⟨_, rfl⟩
  rw [hN] at hN4 hc ⊢
  have HMP : Hid (∀ W : World, W.cell? ⟨tb, 0, none⟩ = some (.map (some mb)) → Calls Tryz.prog 35 #[.pointer (some ⟨tb, 0, none⟩), .int .i64 s, .int .i64 st, .int .i64 (N : Int)] W fun e w' => e = .returned (.int .i64 0) ∧ w' = W) := fun W hW => by
    have := mayPlay_any hW s st N
    rw [hc] at this
    exact this
  obtain ⟨M, hM⟩ : ∃ M, playL T s st os 0 T [] [] = M := ⟨_, rfl⟩
  have HM0 : Hid (playL T s st os 0 T [] [] = M) := hM
  rw [hM]
  have HG : Hid _ := hg
  have HGC : Hid _ := hgc
  have HT : Hid _ := hT
  have HRP : Hid _ := hr
  have HI : Hid _ := hi
  have HO : Hid _ := ho
  have HOK : Hid _ := hok
  have HNL : Hid (os.length = N) := hN
  have HNN : Hid (n ≤ 8000) := hn
  have htl : tb < w.heap.size := (Array.getElem?_eq_some_iff.1 hT.box).1
  have htc := cells_1 hT.box
  have hN1 := hN4.1
  have hN4' := hN4.2
  clear hg hgc hT hr hi ho hok hc hN hM hn hN4
  go_enter Tryz.func19, Tryz.ntmps19
  have HW0 : Hid (Below w.heap.size w (w.alloc rpZ)) := (Below.refl _ _).alloc (Nat.le_refl _) _
  have HCL : Hid _ := cloneMap_any mb n D (w.alloc rpZ) (map_below HT.out.map HW0.out)
  go_wp2_with (first
    | (go_at_call 35; refine (HMP.out _ (cells_1 (HT.out.below HW0.out).box)).mono ?_; rintro e w1 ⟨rfl, rfl⟩)
    | (go_at_call 36; refine Calls.mono HCL.out ?_; rintro e w1 ⟨rfl, hm1, hb1⟩
       have HB1 : Hid (Below w.heap.size w w1) := trans2 HW0.out hb1
       rw [World.size_alloc] at hm1
       have HM1 : Hid (MapAt w1 (w.heap.size + 1) n D) := hm1
       have HZ1 : Hid (w1.heap[w.heap.size]? = some (.cells #[.int .i64 0, .int .i64 0, .int .i64 0, .slice none 0 0] 54 (0, 0))) := kept_block hb1 (heap_alloc_new _ _)
       have hs1 : w.heap.size + 1 ≤ w1.heap.size := by have := hb1.size; simpa using this
       clear hb1 hm1 htc)
    | (at_make; refine wpList_make_full _ rfl _ _ _ rfl w.heap.size 87 i0 _ 7 Tryz.underlying52 hi0 hz0 hz1 .i64 .i64 N N N rfl rfl rfl rfl (by rw [hz2]; omega) (by unfold maxLen; omega) (by simp; omega) ?_; intro w2 hown2 hgrow2
       have HO2 : Hid _ := hown2
       have HG2 : Hid _ := hgrow2
       clear hown2 hgrow2)
    | fail)
  have hs2 := HG2.out.size
  simp only [World.size_alloc] at hs2
  have HB12 : Hid (Below w1.heap.size w1 w2) := ((Chg.alloc w1 _ (fun _ => False)).trans ((Chg.grown HG2.out).mono (fun _ _ e => by cases e))).below (Nat.le_refl _) (fun _ _ h => h.elim)
  have HB2 : Hid (Below w.heap.size w w2) := trans2 HB1.out HB12.out
  have HR2 : Hid (ReqAt w2 w.heap.size w1.heap.size (w.heap.size + 1) n D s st (.slice none 0 0) 0 []) :=
    ⟨by rw [HG2.out.block w1.heap.size (by simp) (fun e => by cases e)]; exact heap_alloc_new _ _, map_below HM1.out HB12.out, World.ownsRow_nil _ _ _ _, by omega⟩
  have HZ2 : Hid _ := kept_block HB12.out HZ1.out
  have HRS2 : Hid (RsAt w2 w.heap.size (.slice (some ⟨w1.heap.size + 1, 0, none⟩) N N) N []) := by
    have h9 := HO2.out
    have e : (madeCells (Value.agg #[.string ⟨#[]⟩, .string ⟨#[]⟩, .int .i64 0, .int .i64 0, .int .i64 0, .int .i64 0, .slice none 0 0]).cells (N * 7)).toList = Fa.fl ([].map RsT.el ++ List.replicate (N - 0) zEl) := by
      rcases (show N = 1 ∨ N = 2 ∨ N = 3 ∨ N = 4 by omega) with rfl | rfl | rfl | rfl <;> kernel_rfl
    rw [e, World.size_alloc] at h9
    exact ⟨h9, Nat.zero_le _, fun x hx => by cases hx⟩
  obtain ⟨rb, hrb⟩ : ∃ x, w1.heap.size = x := ⟨_, rfl⟩
  obtain ⟨gR, hgR⟩ : ∃ x, w1.heap.size + 1 = x := ⟨_, rfl⟩
  have hne : w.heap.size + 1 ≤ rb ∧ rb < gR := by omega
  obtain ⟨hne1, hne2⟩ := hne
  rw [hgR] at HRS2 ⊢
  rw [hrb] at HR2 ⊢
  have HLO : Hid (base ≤ tb) := HT.out.lo
  clear HB12 HO2 HG2 hs2 hgR hrb HM1 HZ1 HB1 HCL HW0 HMP hs1
  go_loopw [41] (fun i wr => ∃ (q : Nat) (Tq : List Nd) (L : List RsT) (Cq : List ChT) (n' : Nat) (D' : DataW Value) (chV' : Value), i = .int .i64 q ∧ q ≤ N ∧ Hid (playL T s st (os.drop q) q Tq (L.map RsT.r) Cq = M) ∧ Hid (Inv Tq ∧ Rep D' Tq ∧ n' ≤ n + 2 * q ∧ Cq.length ≤ q ∧ L.length = q) ∧ Hid (ReqAt wr w.heap.size rb (w.heap.size + 1) n' D' s st chV' Cq.length (chCs Cq)) ∧ Hid (RsAt wr w.heap.size (.slice (some ⟨gR, 0, none⟩) N N) N L) ∧ Hid (Below w.heap.size w wr) ∧ Hid (wr.heap[w.heap.size]? = some (.cells #[.int .i64 0, .int .i64 0, .int .i64 0, .slice none 0 0] 54 (0, 0)))) (fun i _ => N - (intOf i).toNat)
  case atStart => exact ⟨0, T, [], [], n, D, .slice none 0 0, rfl, Nat.zero_le _, HM0.out, ⟨HI.out, HRP.out, by omega, Nat.le_refl _, rfl⟩, HR2.out, HRS2.out, HB2.out, HZ2.out⟩
  case round =>
    clear HR2 HRS2 HB2 HZ2
    obtain ⟨q, Tq, L, Cq, n', D', chV', rfl, hq, HML, HQ, HRq, HRS, HB, HZ⟩ := hrel
    by_cases hlt : q < N
    · have hqi : (q : Int) < (N : Int) := by omega
      obtain ⟨o, hoq⟩ : ∃ o, os[q]? = some o := ⟨os[q]'(by rw [HNL.out]; exact hlt), List.getElem?_eq_getElem _⟩
      obtain ⟨b, fo, rfl, hb, hcs⟩ := HO.out q o hoq
      have HOo : Hid o.Ok := HOK.out o (List.mem_of_getElem? hoq)
      have HDR : Hid (os.drop q = o :: os.drop (q + 1)) := by show _ = _; rw [List.drop_eq_getElem_cons (by rw [HNL.out]; exact hlt)]; congr 1; have := List.getElem?_eq_some_iff.1 hoq; exact this.2
      have hcell : ∀ j x, o.cells[j]? = some x → wr.cell? ⟨b, fo + q * 5 + j, none⟩ = some x := fun j x hx => by
        rw [HB.out.cell (p := ⟨b, fo + q * 5 + j, none⟩) hb]
        exact hcs j x hx
      have o0 := hcell 0 _ rfl
      have o1 := hcell 1 _ rfl
      have o2 := hcell 2 _ rfl
      have o3 := hcell 3 _ rfl
      have o4 := hcell 4 _ rfl
      rw [Nat.add_zero] at o0
      clear hoq hcs hcell
      go_upto_region 9 with fail
      obtain ⟨w4, hw4⟩ : ∃ x, wr.alloc (.cells #[.int .i64 o.k, .string o.p, .string o.d, .int .i64 o.v, .int .i64 o.f] 63) = x := ⟨_, rfl⟩
      obtain ⟨ob, hob⟩ : ∃ x, wr.heap.size = x := ⟨_, rfl⟩
      rw [hw4, hob]
      have hb4 : Below wr.heap.size wr w4 := by rw [← hw4]; exact (Below.refl _ _).alloc (Nat.le_refl _) _
      have HB4 : Hid (Below w.heap.size w w4) := trans2 HB.out hb4
      have HR4 : Hid _ := HRq.out.below hb4
      have HRS4 : Hid _ := HRS.out.below hb4
      have HZ4 : Hid _ := kept_block hb4 HZ.out
      have HO4 : Hid (w4.heap[ob]? = some (.cells #[.int .i64 o.k, .string o.p, .string o.d, .int .i64 o.v, .int .i64 o.f] 63 (0, 0))) := by rw [← hw4, ← hob]; exact heap_alloc_new _ _
      clear hw4 hob hb4 o0 o1 o2 o3 o4
      obtain ⟨o0, o1, o2, o3, o4⟩ := cells_5 HO4.out
      have HPL : Hid _ := play_any w.heap.size rb (w.heap.size + 1) n' D' Tq s st chV' Cq.length (chCs Cq) o HOo.out w4 (HG.out.below HB4.out) (HGC.out.below HB4.out) HR4.out HQ.out.2.1 HQ.out.1 (by have := HQ.out.2.2.1; have := HNN.out; omega) (by have := HQ.out.2.2.2.1; omega)
      have HPE : Hid (playL T s st (o :: os.drop (q + 1)) q Tq (L.map RsT.r) Cq = M) := by rw [← HDR.out]; exact HML.out
      have hmc := oneM_ch Tq s st o
      have hmi := oneM_inv HQ.out.1 s st o
      obtain ⟨MO, hMO⟩ : ∃ MO, oneM Tq s st o = MO := ⟨_, rfl⟩
      rw [hMO] at HPL hmc hmi
      have HMO : Hid (oneM Tq s st o = MO) := hMO
      have HMC : Hid (MO.2.2.2.length ≤ 1 ∧ Inv MO.2.1) := ⟨hmc, hmi⟩
      clear hMO hmc hmi
      obtain ⟨mc, MT, ⟨mp, md, mv, mm, mmc, mo, mkids⟩, Mch⟩ := MO
      go_wp2_with fail
      refine Calls.mono HPL.out ?_
      rintro e w5 ⟨ka, kn, kc, rfl, hE⟩
      have HE : Hid (ReqE w4 w.heap.size rb (w.heap.size + 1) n' s st chV' Cq.length (chCs Cq) ⟨mp, md, mv, mm, mmc, mo, mkids⟩ MT Mch ka kn kc w5) := hE
      have HB5 : Hid (Below w.heap.size w w5) := HB4.out.trans (hE.chg.below HB4.out.size (fun k _ e => by
        rcases e with e | e | e
        · omega
        · omega
        · exact (HR4.out.row.lt k e).1))
      have HRS5 : Hid _ := HRS4.out.keeps HR4.out hE.chg
      have HZ5 : Hid _ := hE.box (w := w) HR4.out HZ4.out (by decide) (by omega) (by omega)
      clear hE o0 o1 o2 o3 o4 HPL
      by_cases hmc : mc = 0
      · subst hmc
        go_upto_region 12 with fail
        obtain ⟨w6, hw6⟩ : ∃ x, w5.alloc (.cells #[.string mp, .string md, .int .i64 mv, .int .i64 mm, .int .i64 mmc, .int .i64 mo, .slice ka kn kc] 87) = x := ⟨_, rfl⟩
        obtain ⟨yb, hyb⟩ : ∃ x, w5.heap.size = x := ⟨_, rfl⟩
        rw [hw6, hyb]
        have hb6 : Below w5.heap.size w5 w6 := by rw [← hw6]; exact (Below.refl _ _).alloc (Nat.le_refl _) _
        have HB6 : Hid (Below w.heap.size w w6) := trans2 HB5.out hb6
        have HRS6 : Hid _ := HRS5.out.below hb6
        have HZ6 : Hid _ := kept_block hb6 HZ5.out
        have HY6 : Hid (w6.heap[yb]? = some (.cells #[.string mp, .string md, .int .i64 mv, .int .i64 mm, .int .i64 mmc, .int .i64 mo, .slice ka kn kc] 87 (0, 0))) := by rw [← hw6, ← hyb]; exact heap_alloc_new _ _
        obtain ⟨n2, D2, chV2, hn2, hr2, hR2, hc2⟩ := HE.out.req
        have HR6 : Hid _ := hR2.below hb6
        have HRP2 : Hid (n2 ≤ n' + 2 ∧ Rep D2 MT) := ⟨hn2, hr2⟩
        have HK6 : Hid (w6.ownsRow w.heap.size 9 1 (.slice ka kn kc) mkids.length (mkids.map Value.string)) := by
          have h9 := HE.out.kids
          have h8 : w6.ownsRow w4.heap.size 9 1 (.slice ka kn kc) mkids.length (mkids.map Value.string) := owns_chg h9 (Chg.of_below hb6 (fun _ => False)) (fun _ _ => id)
          exact ⟨h8.1, h8.2.imp id (fun ⟨g, cap, cur, h1, h2, r⟩ => ⟨g, cap, cur, h1, Nat.le_trans HB4.out.size h2, r⟩)⟩
        clear hw6 hyb hb6 hn2 hr2 hR2 hc2
        obtain ⟨y0, y1, y2, y3, y4, y5, y6⟩ := cells_7 HY6.out
        have HLQ : Hid (L.length = q) := HQ.out.2.2.2.2
        have HTH : Hid (w6.there gR (q * 7) 7) := Fa.there_row HRS6.out.row hlt
        obtain ⟨xs, hxs⟩ : ∃ xs, (⟨⟨mp, md, mv, mm, mmc, mo, mkids⟩, ka, kn, kc⟩ : RsT) = xs := ⟨_, rfl⟩
        obtain ⟨w7, hw7⟩ : ∃ x, w6.setCells gR (q * 7) (RsT.cs xs) = x := ⟨_, rfl⟩
        have HW7 : Hid (w6.setCells gR (q * 7) (RsT.cs xs) = w7) := hw7
        have HXS : Hid ((⟨⟨mp, md, mv, mm, mmc, mo, mkids⟩, ka, kn, kc⟩ : RsT) = xs) := hxs
        have hgl : gR < w6.heap.size := (HRS6.out.row.lt gR rfl).2
        have HC7 : Hid (Chg w6 w7 (fun k => k = gR)) := by rw [← hw7]; exact Fa.chg_setCells gR _ _ w6
        have HRS7 : Hid (RsAt w7 w.heap.size (.slice (some ⟨gR, 0, none⟩) N N) N (L ++ [xs])) := by
          have h9 := HRS6.out.set (by rw [HLQ.out]; exact hlt) xs (by rw [← hxs]; exact HK6.out)
          rw [HLQ.out, hw7] at h9
          exact h9
        have hgk : ∀ k, chV2.ownBlock = some k → ¬ k = gR := fun k hk e => by
          obtain ⟨cur, hcur⟩ := owns_kind HR6.out.row hk
          obtain ⟨cur', hcur'⟩ := owns_kind HRS6.out.row (k := gR) rfl
          rw [e, hcur'] at hcur
          simp at hcur
        have HR7 : Hid _ := HR6.out.chg HC7.out (by omega) (by omega) hgk
        have HB7 : Hid (Below w.heap.size w w7) := HB6.out.trans (HC7.out.below HB6.out.size (fun k _ e => by omega))
        have HZ7 : Hid _ := kept_chg HC7.out HZ6.out (by omega)
        clear hw7 hxs hgk
        go_wp2_with (first
          | (refine wpList_store_mid rfl 87 _ _ rfl gR (q * 7) (RsT.cs (⟨⟨mp, md, mv, mm, mmc, mo, mkids⟩, ka, kn, kc⟩ : RsT)).toArray rfl rfl HTH.out (by kernel_rfl) (all_oneCell_toArray (RsT.el (⟨⟨mp, md, mv, mm, mmc, mo, mkids⟩, ka, kn, kc⟩ : RsT)).2.2) ?_
             rw [HXS.out, show (RsT.cs xs).toArray.toList = RsT.cs xs from rfl, HW7.out])
          | fail)
        go_roundw
        case rel =>
          refine ⟨q + 1, MT, L ++ [xs], Cq ++ Mch, n2, D2, chV2, by go_num, by omega, ?_, ⟨HMC.out.2, HRP2.out.2, ?_, ?_, ?_⟩, ?_, HRS7.out, HB7.out, HZ7.out⟩
          · have h9 := HPE.out
            unfold playL at h9
            rw [HMO.out, if_neg (by simp)] at h9
            rw [List.map_append, ← HXS.out]
            exact h9
          · have h1 := HQ.out.2.2.1; have h2 := HRP2.out.1; omega
          · have h1 := HQ.out.2.2.2.1
            have h2 : Mch.length ≤ 1 := HMC.out.1
            rw [List.length_append]
            omega
          · rw [List.length_append, HLQ.out]; rfl
          · have h9 := HR7.out
            have e : chCs (Cq ++ Mch) = chCs Cq ++ chCs Mch := by simp [chCs]
            rw [List.length_append, e]
            exact h9
        case measure => simp [intOf]; omega
      · have hcb : (mc == 0) = false := by simp [hmc]
        have hcn : (mc != 0) = true := by simp [hmc]
        have HMM : Hid (M = ⟨mc, q, T, [], []⟩) := by
          have h9 := HPE.out
          unfold playL at h9
          rw [HMO.out, if_pos hmc] at h9
          exact h9.symm
        go_upto_region 11 with fail
        obtain ⟨w6, hw6⟩ : ∃ x, w5.alloc (.cells #[.string mp, .string md, .int .i64 mv, .int .i64 mm, .int .i64 mmc, .int .i64 mo, .slice ka kn kc] 87) = x := ⟨_, rfl⟩
        rw [hw6]
        have hb6 : Below w5.heap.size w5 w6 := by rw [← hw6]; exact (Below.refl _ _).alloc (Nat.le_refl _) _
        have HB6 : Hid (Below w.heap.size w w6) := trans2 HB5.out hb6
        have HZ6 : Hid _ := kept_block hb6 HZ5.out
        clear hw6 hb6
        obtain ⟨z0, z1, z2, z3⟩ := cells_4 HZ6.out
        have hfz := free_4 HZ6.out
        go_wp2_with fail
        rw [HMM.out]
        refine bodyPost_ret (results_cell_tmp rfl _ _ w.heap.size 54 _ (0, 0) _ (.slice none 0 0) rfl rfl (fill_4 HZ6.out) Tryz.underlying54 rfl (by kernel_rfl)) rfl ⟨[], .slice none 0 0, .slice none 0 0, rfl, PlayE.none HT.out HRP.out (fillB_4 HB6.out (Nat.le_refl _))⟩
    · obtain rfl : q = N := by omega
      have hge : ¬ (q : Int) < (q : Int) := by omega
      have HMM : Hid (M = ⟨0, 0, Tq, L.map RsT.r, Cq⟩) := by
        have h9 := HML.out
        rw [List.drop_of_length_le (by rw [HNL.out]; exact Nat.le_refl _)] at h9
        exact h9.symm
      go_upto_region 14 with fail
      obtain ⟨r0, r1, r2, r3⟩ := cells_4 HRq.out.box
      have HTB4 : Hid _ := kept_block HB.out HT.out.box
      have t0 := cells_1 HTB4.out
      have hft := free_1 HTB4.out
      go_upto_region 15 with fail
      obtain ⟨w5, hw5⟩ : ∃ x, wr.setCell ⟨tb, 0, none⟩ (.map (some (w.heap.size + 1))) = x := ⟨_, rfl⟩
      rw [hw5]
      have HC45 : Hid (Chg wr w5 (fun k => k = tb)) := by rw [← hw5]; exact Chg.set wr ⟨tb, 0, none⟩ _
      have HTB5 : Hid (w5.heap[tb]? = some (.cells #[.map (some (w.heap.size + 1))] 49 (0, 0))) := by rw [← hw5]; exact same_blk HTB4.out rfl
      have hgb5 : ∀ k, chV'.ownBlock = some k → ¬ k = tb := fun k hk e => by
        obtain ⟨cur, hcur⟩ := owns_kind HRq.out.row hk
        rw [e, HTB4.out] at hcur
        simp at hcur
      have HR5 : Hid _ := HRq.out.chg HC45.out (by omega) (by omega) hgb5
      have HZ5 : Hid _ := kept_chg HC45.out HZ.out (by omega)
      have HRS5 : Hid (RsAt w5 w.heap.size (.slice (some ⟨gR, 0, none⟩) q q) q L) := ⟨owns_chg HRS.out.row HC45.out (fun k hk e => by
          obtain ⟨cur, hcur⟩ := owns_kind HRS.out.row hk
          have e' : k = tb := e
          rw [e', HTB4.out] at hcur
          simp at hcur), HRS.out.le, fun x hx => owns_chg (HRS.out.kids x hx) HC45.out (fun k hk e => by
          obtain ⟨cur, hcur⟩ := owns_kind (HRS.out.kids x hx) hk
          have e' : k = tb := e
          rw [e', HTB4.out] at hcur
          simp at hcur)⟩
      clear hw5 r0 r1 r2 r3 t0 hft
      obtain ⟨r0, r1, r2, r3⟩ := cells_4 HR5.out.box
      obtain ⟨z0, z1, z2, z3⟩ := cells_4 HZ5.out
      have hfz := free_4 HZ5.out
      have hrq : rb ≠ w.heap.size := by omega
      go_region_held3 (fun w' => w'.cell? ⟨rb, 3, none⟩ = some chV') (first | (simp only [World.cell?_drew, cellN hrq, r3]; done) | go_keep) (fail)
      go_wp2_with fail
      have hgb6 : ∀ k, chV'.ownBlock = some k → ¬ k = w.heap.size := fun k hk e => by
        obtain ⟨cur, hcur⟩ := owns_kind HR5.out.row hk
        rw [e, HZ5.out] at hcur
        simp at hcur
      have hlo := HT.out.lo
      have HC56 : Hid (Chg w5 (put_4 w5 w.heap.size (.int .i64 st) (.int .i64 0) (.int .i64 0) (.slice (some ⟨gR, 0, none⟩) q q)).drew (fun k => k = w.heap.size)) := putC_4.trans (chg_drew _ _)
      have HZ6 : Hid ((put_4 w5 w.heap.size (.int .i64 st) (.int .i64 0) (.int .i64 0) (.slice (some ⟨gR, 0, none⟩) q q)).drew.heap[w.heap.size]? = some (.cells #[.int .i64 st, .int .i64 0, .int .i64 0, .slice (some ⟨gR, 0, none⟩) q q] 54 (0, 0))) := (heap_drew_at _ _).trans (fill_4 HZ5.out)
      have hkz : ∀ {T' sz m : Nat} {v : Value} {xs : List Value}, w5.ownsRow w.heap.size T' sz v m xs → T' ≠ 54 → (put_4 w5 w.heap.size (.int .i64 st) (.int .i64 0) (.int .i64 0) (.slice (some ⟨gR, 0, none⟩) q q)).drew.ownsRow w.heap.size T' sz v m xs := fun {T' sz m v xs} hv hT' => owns_chg hv HC56.out (fun k hk e => by
        obtain ⟨cur, hcur⟩ := owns_kind hv hk
        have e' : k = w.heap.size := e
        rw [e', HZ5.out] at hcur
        simp at hcur
        exact hT' hcur.2.symm)
      have hLq := HQ.out.2.2.2.2
      have HRW : Hid _ := owns_chg HR5.out.row HC56.out hgb6
      have HRS6 : Hid (RsAt (put_4 w5 w.heap.size (.int .i64 st) (.int .i64 0) (.int .i64 0) (.slice (some ⟨gR, 0, none⟩) q q)).drew w.heap.size (.slice (some ⟨gR, 0, none⟩) q q) L.length L) := by
        rw [hLq]
        exact ⟨hkz HRS5.out.row (by decide), HRS5.out.le, fun x hx => hkz (HRS5.out.kids x hx) (by decide)⟩
      have hn8 : n' ≤ n + 8 := by have := HQ.out.2.2.1; omega
      have HTA : Hid (TreeAt (put_4 w5 w.heap.size (.int .i64 st) (.int .i64 0) (.int .i64 0) (.slice (some ⟨gR, 0, none⟩) q q)).drew base tb (w.heap.size + 1) n' D') := ⟨kept_chg HC56.out HTB5.out (by omega), map_chg HR5.out.map HC56.out (by omega), hlo, by omega⟩
      have HCA : Hid (Chg w (put_4 w5 w.heap.size (.int .i64 st) (.int .i64 0) (.int .i64 0) (.slice (some ⟨gR, 0, none⟩) q q)).drew (fun k => k = tb)) := (((Chg.of_below HB.out (fun k => k = tb ∨ k = w.heap.size)).trans (HC45.out.mono (fun _ _ e => .inl e))).trans (HC56.out.mono (fun _ _ e => .inr e))).mono (fun k hk e => e.elim id (fun e => absurd hk (by omega)))
      rw [HMM.out]
      exact bodyPost_ret (results_cell_tmp rfl _ _ w.heap.size 54 _ (0, 0) _ chV' rfl rfl HZ6.out Tryz.underlying54 rfl (by kernel_rfl)) rfl ⟨L, .slice (some ⟨gR, 0, none⟩) q q, chV', rfl, rfl, HRS6.out, HRW.out, ⟨w.heap.size + 1, n', D', .inr (by omega), hn8, HTA.out, HQ.out.2.1⟩, HCA.out⟩
end Go.Proofs.YthelfbdkbldhjaaGreatDoor
