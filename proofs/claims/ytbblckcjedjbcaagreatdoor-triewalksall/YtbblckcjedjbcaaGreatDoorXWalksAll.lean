/-
  heraldlaw9: TrieWalksAll.
-/
import Derived.Test.YtbblckcjedjbcaaGreatDoorXWalksP
import Derived.Test.YtbblckcjedjbcaaGreatDoorXForgets
namespace Go.Proofs.YtbblckcjedjbcaaGreatDoor
open Go.RowKit Go.Maps
set_option linter.unusedVariables false
set_option linter.unusedSimpArgs false

theorem any_nextO {M : List On} {j : Nat} {x : On} (hx : M[j]? = some x) (P : On → Bool) : (M.take (j + 1)).any P = ((M.take j).any P || P x) := by
  rw [take_atX hx, List.any_append]
  simp
theorem was_of {L : List On} {s : Int} {k : Nat} {o : On} (h : (ofO L s)[k]? = some o) : (wasO L s)[k]? = some o.wa := by
  unfold wasO
  rw [List.getElem?_map, h]
  rfl
theorem filt_nextT {M : List Tg} {j : Nat} {x : Tg} (hx : M[j]? = some x) (P : Tg → Bool) : (M.take (j + 1)).filter P = (M.take j).filter P ++ (if P x then [x] else []) := by
  rw [take_atX hx, List.filter_append]
  by_cases h : P x
  · simp [h]
  · simp [h]
theorem ordP_code {a b : On} (h : OrdP a b) (ha : a.p.size ≤ 102) (hb : b.p.size ≤ 102) : (ordF a.p b.p (min a.p.size b.p.size + 1) 0 = -1) ∨ (ordF a.p b.p (min a.p.size b.p.size + 1) 0 = 0 ∧ befO a b = true) := by
  have h1 := ordF_list a.p b.p (min a.p.size b.p.size + 1) 0 (Nat.zero_le _) (Nat.zero_le _) (by omega)
  rw [h1, List.drop_zero, List.drop_zero]
  rcases h with h | ⟨h, h2⟩
  · exact .inl h
  · refine .inr ⟨?_, h2⟩
    rw [h]
    exact ordL_self _
set_option maxHeartbeats 64000000 in
set_option maxRecDepth 100000 in
theorem TrieWalksAll_walk (a : Option Addr) (c : Nat) (L : List On) (stamp ck : Int) (cp cd : ByteArray) (cv : Int) (w : World) (hL : OsAt w a L) (hlen : (L.length : Int) ≤ 9223372036854775807) (hwf : ∀ o ∈ L, wfI o.s) (hg : Ground w) :
    Calls Tryz.prog 3 #[.slice a L.length c, .int .i64 stamp, chV ck cp cd cv] w fun e w' => e = .returned (.bool true) ∧ Below w.heap.size w w' := by
  have hb0 : Below w.heap.size w (w.alloc (.cells #[.int .i64 ck, .string cp, .string cd, .int .i64 cv] 24)) := (Below.refl _ _).alloc (Nat.le_refl _) _
  have hx0 : (w.alloc (.cells #[.int .i64 ck, .string cp, .string cd, .int .i64 cv] 24)).heap[w.heap.size]? = some (.cells #[.int .i64 ck, .string cp, .string cd, .int .i64 cv] 24 (0, 0)) := heap_alloc_new _ _
  have HB0 : Hid _ := hb0
  have HX0 : Hid _ := hx0
  have HL : Hid (OsAt w a L) := hL
  have HG : Hid (Ground w) := hg
  have HWF : Hid (∀ o ∈ L, wfI o.s) := hwf
  obtain ⟨Tr9, Tk, hT⟩ : ∃ A B, laidR L = (A, B) := ⟨_, _, rfl⟩
  have HT : Hid (laidR L = (Tr9, Tk)) := hT
  have HPM : Hid (Tr9.Perm Tk) := by have := laid_perm L; rw [hT] at this; exact this
  have HFT : Hid (Fit Tr9) := by have := laid_fit L; rw [hT] at this; exact this
  have HTW : Hid (∀ o ∈ Tk, wfI o.s) := fun o ho => hwf o (laid_sub L o (by rw [hT]; exact ho))
  have HTL : Hid (Tr9.length ≤ 60 ∧ Tk.length ≤ 60) := by
    have := laidJ_len L 60
    have e : laidJ L 60 = laidR L := rfl
    rw [e, hT] at this
    exact this
  clear hL hg hwf hb0 hx0 hT
  go_enter Tryz.func3, Tryz.ntmps3
  go_upto_region 4 with (first
    | (go_at_call 9; refine (begins_any _ (HG.out.below HB0.out)).mono ?_; rintro e w1 ⟨rfl, hb1⟩
       have HB1 : Hid (Below w.heap.size w w1) := xtrans2 HB0.out hb1
       have HX1 : Hid _ := kept_block hb1 HX0.out
       clear hb1)
    | fail)
  go_upto_region 5 with (first
    | (go_at_call 10; refine (laid_any a c L w1 (HL.out.below HB1.out) hlen HWF.out (HG.out.below HB1.out)).mono ?_; rintro e w2 ⟨K, vt, rfl, hla⟩
       rw [HT.out] at hla
       have HLA : Hid (La w1 w2 K w1.heap.size vt (Tr9, Tk)) := hla
       have HB2 : Hid (Below w.heap.size w w2) := xtrans2 HB1.out hla.own.bel
       have HX2 : Hid _ := kept_block hla.own.bel HX1.out
       clear hla)
    | fail)
  obtain ⟨Bt, hBt⟩ : ∃ Bt, w1.heap.size = Bt := ⟨_, rfl⟩
  have HBt : Hid (w1.heap.size = Bt) := hBt
  have HAT : Hid (At w2 K Bt Tr9) := by rw [← hBt]; exact HLA.out.own.at'
  obtain ⟨P, hP⟩ : ∃ P, walkO Tr9 = P := ⟨_, rfl⟩
  obtain ⟨m, hm⟩ : ∃ m, Tk.length = m := ⟨_, rfl⟩
  have HM : Hid (Tk.length = m) := hm
  have hPl : P.length = m := by rw [← hP, (walkO_perm HAT.out).length_eq, HPM.out.length_eq, hm]
  have HPL : Hid (P.length = m) := hPl
  have HPO : Hid (P.Pairwise OrdP) := by rw [← hP]; exact walkO_ord HAT.out
  have HPS : Hid (∀ o ∈ P, o.p.size ≤ 102) := fun o ho => psize (HAT.out.ok o ((walkO_perm HAT.out).mem_iff.1 (by rw [hP]; exact ho)))
  have HWA : Hid _ := walkA w2 K Bt Tr9 HAT.out (by have := HTL.out; omega)
  rw [hP, hPl] at HWA
  have hml : m ≤ 60 := by have := HTL.out; omega
  rw [hBt]
  obtain ⟨ak, ck', hvt⟩ := owns_shape HLA.out.row
  subst hvt
  have HOK2 : Hid (OsAt w2 ak Tk) := HLA.out.os
  have e1 : (((Tr9, Tk) : List On × List On).2).length = m := hm
  simp only [e1]
  clear hP hm hPl hBt e1
  go_upto_region 6 with (first
    | (go_at_call 11; refine Calls.mono HWA.out ?_; rintro e w3 ⟨v3, rfl, ho3, hb3⟩
       have HB3 : Hid (Below w.heap.size w w3) := xtrans2 HB2.out hb3
       have HX3 : Hid _ := kept_block hb3 HX2.out
       have HA3 : Hid (At w3 K Bt Tr9) := HAT.out.below hb3
       have HOK3 : Hid (OsAt w3 ak Tk) := HOK2.out.below hb3
       have HR3 : Hid (w3.ownsRow w2.heap.size 36 3 v3 m (scO P)) := ho3
       clear ho3 hb3)
    | fail)
  obtain ⟨sa, sc, hv3⟩ := owns_shape HR3.out
  subst hv3
  go_upto_region 9 with fail
  go_loopw [12] (fun vi wr => ∃ i : Nat, vi = .int .i64 i ∧ 1 ≤ i ∧ (i ≤ m ∨ i = 1) ∧ Hid (Below w3.heap.size w3 wr)) (fun vi _ => m + 1 - (intOf vi).toNat)
  case atStart => exact ⟨1, rfl, Nat.le_refl _, .inr rfl, Below.refl _ _⟩
  case round =>
    obtain ⟨i, rfl, h1i, him, HB⟩ := hrel
    by_cases hlt : i < m
    · have hlt' : (i : Int) < (m : Int) := by omega
      obtain ⟨q, hq⟩ : ∃ q, q + 1 = i := ⟨i - 1, by omega⟩
      have hqm : q < m := by omega
      obtain ⟨x, hx⟩ : ∃ x, P[i]? = some x := ⟨P[i]'(by rw [HPL.out]; exact hlt), List.getElem?_eq_getElem _⟩
      obtain ⟨y, hy⟩ : ∃ y, P[q]? = some y := ⟨P[q]'(by rw [HPL.out]; exact hqm), List.getElem?_eq_getElem _⟩
      have hop : OrdP y x := by
        have h3 := List.pairwise_iff_getElem.1 HPO.out q i (by rw [HPL.out]; exact hqm) (by rw [HPL.out]; exact hlt) (by omega)
        rw [(List.getElem?_eq_some_iff.1 hx).2, (List.getElem?_eq_some_iff.1 hy).2] at h3
        exact h3
      have hsx := HPS.out x (List.mem_of_getElem? hx)
      have hsy := HPS.out y (List.mem_of_getElem? hy)
      have hoc := ordP_code hop hsy hsx
      have hR := owns_below HR3.out HB.out
      obtain ⟨g, rfl⟩ := row_addr hR (by omega)
      have hgl : g < wr.heap.size := (hR.lt g rfl).2
      have x0 : wr.cell? ⟨g, i * 3, none⟩ = some (.string x.p) := cell_n hR (scO_at P i 0 _ _ hx rfl)
      have x1 : wr.cell? ⟨g, i * 3 + 1, none⟩ = some (.int .i64 x.s) := cell_n hR (scO_at P i 1 _ _ hx rfl)
      have x2 : wr.cell? ⟨g, i * 3 + 2, none⟩ = some (.int .i64 x.i) := cell_n hR (scO_at P i 2 _ _ hx rfl)
      have y0 : wr.cell? ⟨g, q * 3, none⟩ = some (.string y.p) := cell_n hR (scO_at P q 0 _ _ hy rfl)
      have y1 : wr.cell? ⟨g, q * 3 + 1, none⟩ = some (.int .i64 y.s) := cell_n hR (scO_at P q 1 _ _ hy rfl)
      have y2 : wr.cell? ⟨g, q * 3 + 2, none⟩ = some (.int .i64 y.i) := cell_n hR (scO_at P q 2 _ _ hy rfl)
      have hw1 : IntKind.i64.wrap ((i : Int) - 1) = (q : Int) := by rw [IntKind.wrap_i64]; omega
      have hw2 : (0 : Int) ≤ (q : Int) := by omega
      have hw3 : (q : Int) < (m : Int) := by omega
      obtain ⟨ov, hov⟩ : ∃ ov, ordF y.p x.p (min y.p.size x.p.size + 1) 0 = ov := ⟨_, rfl⟩
      have HOR : Hid (∀ W : World, Calls Tryz.prog 12 #[.string y.p, .string x.p] W fun e w' => e = .returned (.int .i64 ov) ∧ ∃ m, w' = W.drewN m) := fun W => by
        have h9 := order_any y.p x.p (by unfold maxLen; omega) (by unfold maxLen; omega) W
        rw [hov] at h9
        exact h9
      rw [hov] at hoc
      have HOC : Hid _ := hoc
      have HQI : Hid (q + 1 = i) := hq
      clear hx hy hop hsx hsy hov hR hoc hq
      go_upto_region 11 with fail
      go_quiet (first | (go_at_call 12; exact Calls.quiet_of (HOR.out _)) | fail)
      have HBd : Hid (Below w3.heap.size w3 (wr.drewN nq)) := below_drewN HB.out nq
      have hgd : g < (wr.drewN nq).heap.size := hgl
      have z1 : (wr.drewN nq).cell? ⟨g, i * 3 + 1, none⟩ = some (.int .i64 x.s) := x1
      have z2 : (wr.drewN nq).cell? ⟨g, i * 3 + 2, none⟩ = some (.int .i64 x.i) := x2
      have z3 : (wr.drewN nq).cell? ⟨g, q * 3 + 1, none⟩ = some (.int .i64 y.s) := y1
      have z4 : (wr.drewN nq).cell? ⟨g, q * 3 + 2, none⟩ = some (.int .i64 y.i) := y2
      obtain ⟨wd, hwd⟩ : ∃ wd, wr.drewN nq = wd := ⟨_, rfl⟩
      rw [hwd] at HBd hgd z1 z2 z3 z4 ⊢
      have HBe : Hid (Below w3.heap.size w3 ((wd.alloc (.cells #[.int .i64 y.s, .int .i64 y.i] 34)).alloc (.cells #[.int .i64 x.s, .int .i64 x.i] 34))) := xtrans2 (xtrans2 HBd.out ((Below.refl _ _).alloc (Nat.le_refl _) _)) ((Below.refl _ _).alloc (Nat.le_refl _) _)
      clear hwd x0 x1 x2 y0 y1 y2
      rcases HOC.out with hoc | ⟨hoc, hbf⟩
      · subst hoc
        go_wp2_with fail
        go_roundw
        case rel => exact ⟨i + 1, by go_num, by omega, by omega, HBe.out⟩
        case measure => simp [intOf]; omega
      · subst hoc
        unfold befO befB at hbf
        simp only [Bool.or_eq_true, Bool.and_eq_true, decide_eq_true_eq] at hbf
        rcases hbf with hb1 | ⟨hb1, hb2⟩
        · have e3 : ¬ x.s < y.s := by omega
          have e4 : ¬ y.s = x.s := by omega
          have e5 : (y.s == x.s) = false := by simpa using e4
          go_wp2_with fail
          go_roundw
          case rel => exact ⟨i + 1, by go_num, by omega, by omega, HBe.out⟩
          case measure => simp [intOf]; omega
        · have e3 : ¬ x.s < y.s := by omega
          have e4 : (y.s == x.s) = true := by simpa using hb1
          have e5 : ¬ x.i ≤ y.i := by omega
          go_wp2_with fail
          go_roundw
          case rel => exact ⟨i + 1, by go_num, by omega, by omega, by have h9 := HBe.out; rw [hb1] at h9; exact h9⟩
          case measure => simp [intOf]; omega
    · have hge : ¬ ((i : Int) < (m : Int)) := by omega
      have HB4 : Hid (Below w.heap.size w wr) := xtrans2 HB3.out HB.out
      have HX4 : Hid (wr.heap[w.heap.size]? = some (.cells #[.int .i64 ck, .string cp, .string cd, .int .i64 cv] 24 (0, 0))) := kept_block HB.out HX3.out
      obtain ⟨b0, b1, b2, b3⟩ := cells_4 HX4.out
      have HMA : Hid _ := matchA wr K Bt Tr9 stamp ck cp cd cv (HA3.out.below HB.out) (HG.out.below HB4.out) (by have := HTL.out; omega)
      obtain ⟨ts, hts⟩ : ∃ ts, matO Tr9 stamp ck cp = ts := ⟨_, rfl⟩
      have HTS : Hid (matO Tr9 stamp ck cp = ts) := hts
      rw [hts] at HMA
      have htl : ts.length ≤ 60 := by
        rw [← hts]
        unfold matO
        rw [List.length_map]
        have h2 : (Tr9.filter (matB stamp ck cp)).length ≤ Tr9.length := List.length_filter_le _ _
        have := HTL.out
        omega
      clear hts
      go_upto_region 18 with (first
        | (go_at_call 13; refine Calls.mono HMA.out ?_; rintro e w5 ⟨v5, rfl, ho5, hb5⟩
           have HB5 : Hid (Below w.heap.size w w5) := xtrans2 HB4.out hb5
           have HX5 : Hid _ := kept_block hb5 HX4.out
           have HA5 : Hid (At w5 K Bt Tr9) := (HA3.out.below HB.out).below hb5
           have HOK5 : Hid (OsAt w5 ak Tk) := (HOK3.out.below HB.out).below hb5
           have HS5 : Hid (TsAt w5 v5 ts) := owns_lo ho5 (Nat.zero_le _)
           clear ho5 hb5 b0 b1 b2 b3)
        | fail)
      obtain ⟨at5, ct5, hv5⟩ := owns_shape HS5.out
      subst hv5
      obtain ⟨nt, hnt⟩ : ∃ nt, ts.length = nt := ⟨_, rfl⟩
      have HNT : Hid (ts.length = nt) := hnt
      simp only [hnt] at htl HS5 ⊢
      clear hnt
      go_loopw [17] (fun vi wr => ∃ i : Nat, vi = .int .i64 i ∧ i ≤ m ∧ Hid (Below w5.heap.size w5 wr)) (fun vi _ => m - (intOf vi).toNat)
      case atStart => exact ⟨0, rfl, Nat.zero_le _, Below.refl _ _⟩
      case round =>
        obtain ⟨j, rfl, hj, HBj⟩ := hrel
        by_cases hlj : j < m
        · have hlj' : (j : Int) < (m : Int) := by omega
          obtain ⟨x, hx⟩ : ∃ x, Tk[j]? = some x := ⟨Tk[j]'(by rw [HM.out]; exact hlj), List.getElem?_eq_getElem _⟩
          obtain ⟨b, o, rfl, x0, x1, x2, x3, x4⟩ := (HOK5.out.below HBj.out).at hx
          have hxw := HTW.out x (List.mem_of_getElem? hx)
          have HXT : Hid (x ∈ Tr9) := HPM.out.mem_iff.2 (List.mem_of_getElem? hx)
          have HX : Hid (Tk[j]? = some x) := hx
          obtain ⟨M, hM⟩ : ∃ M, ofO Tr9 x.s = M := ⟨_, rfl⟩
          have HMM : Hid (ofO Tr9 x.s = M) := hM
          have HMF : Hid (Fit M) := by rw [← hM]; exact HFT.out.sub (ofO_sub _ _)
          have HMO : Hid (OrdO M) := by rw [← hM]; exact List.Pairwise.filter _ HA5.out.ord
          have HMI : Hid (M.Pairwise (fun a b => a.i < b.i)) := by rw [← hM]; exact ofO_ids HA5.out.ord _
          have HMS : Hid (∀ o ∈ M, o ∈ Tr9 ∧ o.s = x.s) := fun o ho => by
            rw [← hM] at ho
            have h1 := List.mem_filter.1 ho
            exact ⟨h1.1, by simpa using h1.2⟩
          obtain ⟨n, hn⟩ : ∃ n, (wasO Tr9 x.s).length = n := ⟨_, rfl⟩
          have hMn : M.length = n := by rw [← hn, ← hM]; unfold wasO; rw [List.length_map]
          have HMN : Hid (M.length = n) := hMn
          have hn4 : n ≤ 4 := by rw [← hMn, ← hM]; exact HFT.out.few x.s
          have HOF : Hid _ := ofA wr K Bt Tr9 x.s (HA5.out.below HBj.out) (by have := HTL.out; omega) hxw
          rw [hn] at HOF
          clear hx hM hn hMn
          go_upto_region 22 with (first
            | (go_at_call 14; refine Calls.mono HOF.out ?_; rintro e w6 ⟨v6, rfl, ho6, hb6⟩
               have HB6 : Hid (Below w5.heap.size w5 w6) := xtrans2 HBj.out hb6
               have HR6 : Hid (w6.ownsRow 0 40 4 v6 n (waCs (wasO Tr9 x.s))) := owns_lo ho6 (Nat.zero_le _)
               clear ho6 hb6 x0 x1 x2 x3 x4)
            | fail)
          obtain ⟨ma, mc, hv6⟩ := owns_shape HR6.out
          subst hv6
          go_wp2_with fail
          refine (newA w6).mono ?_
          rintro e w7 ⟨rfl, hw7⟩
          obtain ⟨Bu, hBu⟩ : ∃ Bu, w6.heap.size = Bu := ⟨_, rfl⟩
          have HO7 : Hid (Own9 w6 w7 (fun k => k = Bu) Bu []) := by
            subst hBu
            subst hw7
            exact ⟨At.zero (heap_alloc_new _ _), fun k hk => by rw [hk]; exact Nat.le_refl _, (Below.refl _ _).alloc (Nat.le_refl _) _⟩
          rw [hBu]
          clear hw7 hBu
          have HG6 : Hid (Ground w6) := (HG.out.below HB5.out).below HB6.out
          go_upto_region 25 with fail
          go_loopw [21, 22] (fun vn vi wr => ∃ (q : Nat) (Ku : Nat → Prop) (Lu : List On), vi = .int .i64 q ∧ q ≤ n ∧ vn = .bool ((M.take q).any (fun o => decide (o.i = x.i))) ∧ Hid (Lu.Perm (M.take q)) ∧ Hid (Own9 w6 wr Ku Bu Lu)) (fun _ vi _ => n - (intOf vi).toNat)
          case atStart => exact ⟨0, _, [], rfl, Nat.zero_le _, rfl, List.Perm.refl _, HO7.out⟩
          case round =>
            obtain ⟨q, Ku, Lu, rfl, hq, rfl, HPU, HOU⟩ := hrel
            have hLu : Lu.length ≤ 4 := by
              have h1 := HPU.out.length_eq
              rw [List.length_take] at h1
              omega
            by_cases hlq : q < n
            · have hlq' : (q : Int) < (n : Int) := by omega
              obtain ⟨y, hy⟩ : ∃ y, M[q]? = some y := ⟨M[q]'(by rw [HMN.out]; exact hlq), List.getElem?_eq_getElem _⟩
              have hyM := List.mem_of_getElem? hy
              have HYS : Hid (y.s = x.s) := (HMS.out y hyM).2
              have HYK : Hid (y.i = x.i → y = x) := fun e => HA5.out.ord.key (HMS.out y hyM).1 HXT.out HYS.out e
              have HAN : Hid _ := any_nextO hy (fun o => decide (o.i = x.i))
              have HTA : Hid (M.take (q + 1) = M.take q ++ [y]) := take_atX hy
              have HAC : Hid (addC Lu y = 0) := fit_add HMF.out HPU.out hy
              have hyw : (wasO Tr9 x.s)[q]? = some y.wa := was_of (by rw [HMM.out]; exact hy)
              have HYW : Hid ((wasO Tr9 x.s)[q]? = some y.wa) := hyw
              have hR := owns_below HR6.out HOU.out.bel
              obtain ⟨g, rfl⟩ := row_addr hR (by omega)
              have HRC : Hid (∀ (w9 : World), Below w6.heap.size w6 w9 → w9.cell? ⟨g, q * 4, none⟩ = some (.int .i64 y.i) ∧ w9.cell? ⟨g, q * 4 + 1, none⟩ = some (.string y.p) ∧ w9.cell? ⟨g, q * 4 + 2, none⟩ = some (.int .i64 y.k) ∧ w9.cell? ⟨g, q * 4 + 3, none⟩ = some (.int .i64 y.f)) := fun w9 hb9 => by
                have hR9 := owns_below HR6.out hb9
                exact ⟨cell_n hR9 (waCs_at _ q 0 _ _ HYW.out rfl), cell_n hR9 (waCs_at _ q 1 _ _ HYW.out rfl), cell_n hR9 (waCs_at _ q 2 _ _ HYW.out rfl), cell_n hR9 (waCs_at _ q 3 _ _ HYW.out rfl)⟩
              obtain ⟨y0, y1, y2, y3⟩ := HRC.out wr HOU.out.bel
              have HAD : Hid _ := addA wr Ku Bu Lu y HOU.out.at' (HOU.out.gl HG6.out) (by omega) (by rw [HYS.out]; exact hxw)
              rw [HAC.out, HYS.out] at HAD
              have HPV : Hid (∀ p, p + 1 = q → ∃ z, z.i < y.i ∧ ∀ (w9 : World), Below w6.heap.size w6 w9 → w9.cell? ⟨g, p * 4, none⟩ = some (.int .i64 (On.i z))) := fun p hp => by
                obtain ⟨z, hz⟩ : ∃ z, M[p]? = some z := ⟨M[p]'(by rw [HMN.out]; omega), List.getElem?_eq_getElem _⟩
                refine ⟨z, ?_, fun w9 hb9 => cell_n (owns_below HR6.out hb9) (waCs_at _ p 0 _ _ (was_of (by rw [HMM.out]; exact hz)) rfl)⟩
                have h3 := List.pairwise_iff_getElem.1 HMI.out p q (by rw [HMN.out]; omega) (by rw [HMN.out]; exact hlq) (by omega)
                rw [(List.getElem?_eq_some_iff.1 hz).2, (List.getElem?_eq_some_iff.1 hy).2] at h3
                exact h3
              obtain ⟨ib, hib⟩ : ∃ ib, (M.take q).any (fun o => decide (o.i = x.i)) = ib := ⟨_, rfl⟩
              rw [hib] at HAN ⊢
              clear hy hyM hyw hR hib
              go_upto_region 27 with fail
              go_wp2_with fail
              refine Calls.mono HAD.out ?_
              rintro e w8 ⟨rfl, K8, hA8, hE8⟩
              have HO8 : Hid (Own9 w6 w8 K8 Bu (insO y Lu)) := HOU.out.add hA8 hE8
              clear hA8 hE8 y0 y1 y2 y3
              obtain ⟨y0, y1, y2, y3⟩ := HRC.out w8 HO8.out.bel
              obtain ⟨b', o', e', x0, x1, x2, x3, x4⟩ := ((HOK5.out.below HB6.out).below HO8.out.bel).at HX.out
              cases e'
              have HPN : Hid ((insO y Lu).Perm (M.take (q + 1))) := by
                show List.Perm _ _
                rw [HTA.out]
                exact (insO_perm y Lu).trans (HPU.out.append (List.Perm.refl _))
              by_cases hq0 : q = 0
              · subst hq0
                go_upto_region 28 with fail
                go_quiet (fail)
                have HO9 : Hid (Own9 w6 (w8.drewN nq) K8 Bu (insO y Lu)) := ⟨HO8.out.at'.below (below_drewN (Below.refl _ _) nq), HO8.out.low, below_drewN HO8.out.bel nq⟩
                obtain ⟨wd, hwd⟩ : ∃ wd, w8.drewN nq = wd := ⟨_, rfl⟩
                rw [hwd] at HO9 ⊢
                clear hwd y0 y1 y2 y3 x0 x1 x2 x3 x4
                obtain ⟨y0, y1, y2, y3⟩ := HRC.out wd HO9.out.bel
                obtain ⟨b', o', e', x0, x1, x2, x3, x4⟩ := ((HOK5.out.below HB6.out).below HO9.out.bel).at HX.out
                cases e'
                go_upto_region 30 with fail
                cases ib with
                | true =>
                  go_quiet (fail)
                  go_wp2_with fail
                  go_roundw
                  case rel =>
                    refine ⟨0 + 1, K8, insO y Lu, by go_num, by omega, ?_, HPN.out, ⟨HO9.out.at'.below (below_drewN (Below.refl _ _) _), HO9.out.low, below_drewN HO9.out.bel _⟩⟩
                    rw [HAN.out]
                    rfl
                  case measure => simp [intOf]; omega
                | false =>
                  by_cases hyx : y.i = x.i
                  · have hyx2 := HYK.out hyx
                    have HDX : Hid (decide (y.i = x.i) = true) := decide_eq_true hyx
                    clear hyx HYK
                    have hs1 : y.s = x.s := HYS.out
                    subst hyx2
                    go_quiet (fail)
                    go_wp2_with fail
                    go_roundw
                    case rel =>
                      refine ⟨0 + 1, K8, insO y Lu, by go_num, by omega, ?_, HPN.out, ⟨HO9.out.at'.below (below_drewN (Below.refl _ _) _), HO9.out.low, below_drewN HO9.out.bel _⟩⟩
                      rw [HAN.out]
                      simp
                    case measure => simp [intOf]; omega
                  · have hyb : (y.i == x.i) = false := by simpa using hyx
                    go_quiet (fail)
                    go_wp2_with fail
                    go_roundw
                    case rel =>
                      refine ⟨0 + 1, K8, insO y Lu, by go_num, by omega, ?_, HPN.out, ⟨HO9.out.at'.below (below_drewN (Below.refl _ _) _), HO9.out.low, below_drewN HO9.out.bel _⟩⟩
                      rw [HAN.out]
                      simp [hyx]
                    case measure => simp [intOf]; omega
              · obtain ⟨p, hp⟩ : ∃ p, p + 1 = q := ⟨q - 1, by omega⟩
                obtain ⟨z, hzy, HZ⟩ := HPV.out p hp
                have z0 := HZ w8 HO8.out.bel
                have hw1 : IntKind.i64.wrap ((q : Int) - 1) = (p : Int) := by rw [IntKind.wrap_i64]; omega
                have hw2 : (0 : Int) ≤ (p : Int) := by omega
                have hw3 : (p : Int) < (n : Int) := by omega
                have hw4 : (0 : Int) < (q : Int) := by omega
                have hw5 : 0 < q := by omega
                have hzn : ¬ y.i ≤ z.i := by omega
                have HP1 : Hid (p + 1 = q) := hp
                clear hp HZ
                go_upto_region 28 with fail
                go_quiet (fail)
                have HO9 : Hid (Own9 w6 (w8.drewN nq) K8 Bu (insO y Lu)) := ⟨HO8.out.at'.below (below_drewN (Below.refl _ _) nq), HO8.out.low, below_drewN HO8.out.bel nq⟩
                obtain ⟨wd, hwd⟩ : ∃ wd, w8.drewN nq = wd := ⟨_, rfl⟩
                rw [hwd] at HO9 ⊢
                clear hwd y0 y1 y2 y3 x0 x1 x2 x3 x4
                obtain ⟨y0, y1, y2, y3⟩ := HRC.out wd HO9.out.bel
                obtain ⟨b', o', e', x0, x1, x2, x3, x4⟩ := ((HOK5.out.below HB6.out).below HO9.out.bel).at HX.out
                cases e'
                go_upto_region 30 with fail
                cases ib with
                | true =>
                  go_quiet (fail)
                  go_wp2_with fail
                  go_roundw
                  case rel =>
                    refine ⟨q + 1, K8, insO y Lu, by go_num, by omega, ?_, HPN.out, ⟨HO9.out.at'.below (below_drewN (Below.refl _ _) _), HO9.out.low, below_drewN HO9.out.bel _⟩⟩
                    rw [HAN.out]
                    rfl
                  case measure => simp [intOf]; omega
                | false =>
                  by_cases hyx : y.i = x.i
                  · have hyx2 := HYK.out hyx
                    have HDX : Hid (decide (y.i = x.i) = true) := decide_eq_true hyx
                    clear hyx HYK
                    have hs1 : y.s = x.s := HYS.out
                    subst hyx2
                    go_quiet (fail)
                    go_wp2_with fail
                    go_roundw
                    case rel =>
                      refine ⟨q + 1, K8, insO y Lu, by go_num, by omega, ?_, HPN.out, ⟨HO9.out.at'.below (below_drewN (Below.refl _ _) _), HO9.out.low, below_drewN HO9.out.bel _⟩⟩
                      rw [HAN.out]
                      simp
                    case measure => simp [intOf]; omega
                  · have hyb : (y.i == x.i) = false := by simpa using hyx
                    go_quiet (fail)
                    go_wp2_with fail
                    go_roundw
                    case rel =>
                      refine ⟨q + 1, K8, insO y Lu, by go_num, by omega, ?_, HPN.out, ⟨HO9.out.at'.below (below_drewN (Below.refl _ _) _), HO9.out.low, below_drewN HO9.out.bel _⟩⟩
                      rw [HAN.out]
                      simp [hyx]
                    case measure => simp [intOf]; omega
            · have hgq : ¬ ((q : Int) < (n : Int)) := by omega
              have HTK : Hid (M.take q = M) := List.take_of_length_le (by have := HMN.out; omega)
              have HIN : Hid ((M.take q).any (fun o => decide (o.i = x.i)) = true) := by
                show _ = _
                rw [HTK.out, List.any_eq_true]
                exact ⟨x, by rw [← HMM.out]; exact List.mem_filter.2 ⟨HXT.out, by simp⟩, by simp⟩
              rw [HIN.out]
              have hLM : Lu = M := ord_same HOU.out.at'.ord HMO.out (by have h1 := HPU.out; rw [HTK.out] at h1; exact h1)
              have HOM : Hid (Own9 w6 wr Ku Bu M) := by rw [← hLM]; exact HOU.out
              clear hLM HOU HPU HIN
              obtain ⟨w9, rfl⟩ : ∃ w9, w9 = wr := ⟨wr, rfl⟩
              go_upto_region 33 with fail
              go_loopw [24, 25] (fun vp vi wq => ∃ k : Nat, vi = .int .i64 k ∧ k ≤ nt ∧ Hid (wq.ownsRow w9.heap.size 34 2 vp ((ts.take k).filter (fun t => decide (t.1 = x.s))).length (tgCs ((ts.take k).filter (fun t => decide (t.1 = x.s))))) ∧ Hid (Below w9.heap.size w9 wq)) (fun _ vi _ => nt - (intOf vi).toNat)
              case atStart => exact ⟨0, rfl, Nat.zero_le _, World.ownsRow_nil _ _ _ _, Below.refl _ _⟩
              case round =>
                obtain ⟨k, rfl, hk, HPR, HBk⟩ := hrel
                have HB9 : Hid (Below w5.heap.size w5 wr) := xtrans2 (xtrans2 HB6.out HOM.out.bel) HBk.out
                by_cases hlk : k < nt
                · have hlk' : (k : Int) < (nt : Int) := by omega
                  obtain ⟨t, ht⟩ : ∃ t, ts[k]? = some t := ⟨ts[k]'(by rw [HNT.out]; exact hlk), List.getElem?_eq_getElem _⟩
                  have hS9 := HS5.out.below HB9.out
                  rw [← HNT.out] at hS9
                  obtain ⟨g5, rfl, t0, t1⟩ := hS9.at ht
                  have HFN : Hid _ := filt_nextT ht (fun t => decide (t.1 = x.s))
                  obtain ⟨tS, tI⟩ := t
                  simp only at t0 t1 HFN
                  clear ht hS9
                  by_cases hts : tS = x.s
                  · subst hts
                    have hts2 : (x.s == x.s) = true := by simp
                    have HLN : Hid (((ts.take k).filter (fun t => decide (t.1 = x.s))).length + 1 ≤ 1000000) := by
                      have h1 : ((ts.take k).filter (fun t => decide (t.1 = x.s))).length ≤ (ts.take k).length := List.length_filter_le _ _
                      rw [List.length_take] at h1
                      show _ ≤ _
                      omega
                    obtain ⟨R, hR⟩ : ∃ R, (ts.take k).filter (fun t => decide (t.1 = x.s)) = R := ⟨_, rfl⟩
                    have HRR : Hid ((ts.take k).filter (fun t => decide (t.1 = x.s)) = R) := hR
                    rw [hR] at HPR HLN HFN
                    clear hR
                    go_wp2_with (first
                      | (at_builtin; refine wpList_appT rfl _ _ rfl w9.heap.size _ R rfl (owns_below HPR.out ((Below.refl _ _).alloc (Nat.le_refl _) _)) wr.heap.size (x.s, tI) rfl (tagBox wr x.s tI) HLN.out (by have := HBk.out.size; simp; omega) ?_
                         intro v8 w8 ho8 hb8
                         have HO8 : Hid _ := ho8
                         have HB8 : Hid (Below w9.heap.size w9 w8) := (HBk.out.alloc HBk.out.size _).trans hb8
                         clear ho8 hb8)
                      | fail)
                    go_roundw
                    case rel =>
                      refine ⟨k + 1, by go_num, by omega, ?_, HB8.out⟩
                      have e := HFN.out
                      simp only [decide_true, if_true] at e
                      show World.ownsRow _ _ _ _ _ _ _
                      rw [e]
                      exact HO8.out
                    case measure => simp [intOf]; omega
                  · have hts2 : (tS == x.s) = false := by simpa using hts
                    go_wp2_with fail
                    go_roundw
                    case rel =>
                      refine ⟨k + 1, by go_num, by omega, ?_, HBk.out⟩
                      have e := HFN.out
                      simp only [hts, decide_false, Bool.false_eq_true, if_false, List.append_nil] at e
                      show World.ownsRow _ _ _ _ _ _ _
                      rw [e]
                      exact HPR.out
                    case measure => simp [intOf]; omega
                · have hgk : ¬ ((k : Int) < (nt : Int)) := by omega
                  have HTT : Hid ((ts.take k).filter (fun t => decide (t.1 = x.s)) = matO M stamp ck cp) := by
                    show _ = _
                    rw [List.take_of_length_le (by have := HNT.out; omega), ← HTS.out, mat_part, HMM.out]
                  rw [HTT.out] at HPR
                  have HBw : Hid (Below w.heap.size w wr) := xtrans2 HB5.out HB9.out
                  obtain ⟨b0, b1, b2, b3⟩ := cells_4 (kept_block HB9.out HX5.out)
                  have HAM : Hid (At wr Ku Bu M) := HOM.out.at'.below HBk.out
                  have hMl : M.length ≤ 4 := by have := HMN.out; omega
                  have HMA2 : Hid _ := matchA wr Ku Bu M stamp ck cp cd cv HAM.out (HG.out.below HBw.out) (by omega)
                  have HML2 : Hid ((matO M stamp ck cp).length ≤ 100000) := by
                    show _ ≤ _
                    unfold matO
                    rw [List.length_map]
                    have h2 : (M.filter (matB stamp ck cp)).length ≤ M.length := List.length_filter_le _ _
                    omega
                  obtain ⟨R, hR⟩ : ∃ R, matO M stamp ck cp = R := ⟨_, rfl⟩
                  rw [hR] at HPR HMA2 HML2
                  clear hR HTT
                  go_wp2_with (first
                    | (go_at_call 13; refine Calls.mono HMA2.out ?_; rintro e w10 ⟨v10, rfl, ho10, hb10⟩
                       have HS10 : Hid (TsAt w10 v10 R) := owns_lo ho10 (Nat.zero_le _)
                       have HP10 : Hid (TsAt w10 _ R) := owns_lo (owns_below HPR.out hb10) (Nat.zero_le _)
                       have HB10 : Hid (Below w5.heap.size w5 w10) := xtrans2 HB9.out hb10
                       clear ho10 hb10 b0 b1 b2 b3)
                    | (go_at_call 17; refine (sameTags_any _ _ R R w10 HS10.out HP10.out HML2.out).mono ?_; rintro e w11 ⟨rfl, hb11⟩
                       have HB11 : Hid (Below w5.heap.size w5 w11) := xtrans2 HB10.out hb11
                       have hdd : decide (R = R) = true := decide_eq_true rfl
                       rw [hdd]
                       clear hb11 hdd)
                    | fail)
                  go_roundw
                  case rel => exact ⟨j + 1, by go_num, by omega, HB11.out⟩
                  case measure => simp [intOf]; omega
        · have hgj : ¬ ((j : Int) < (m : Int)) := by omega
          go_wp2_with fail
          go_ret
          exact ⟨rfl, xtrans2 HB5.out HBj.out⟩
end Go.Proofs.YtbblckcjedjbcaaGreatDoor
