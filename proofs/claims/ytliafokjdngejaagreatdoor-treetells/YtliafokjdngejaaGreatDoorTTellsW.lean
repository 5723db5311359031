import Derived.Test.YtliafokjdngejaaGreatDoorTTellsT
import Derived.Test.YtliafokjdngejaaGreatDoorTKnown
import Derived.Deep.RegionHeld3
namespace Go.Proofs.YtliafokjdngejaaGreatDoor
open Go.RowKit Go.Maps Go.WideShapes
set_option linter.unusedVariables false
set_option linter.unusedSimpArgs false
attribute [local go_sem ↓] Go.wp_at_zero Go.wp_at_succ

set_option maxHeartbeats 3200000 in
set_option maxRecDepth 100000 in
theorem alikeT_any (B1 B2 : Nat) (va vb : Value) (l m : List SnT) (w : World) (h1 : w.ownsRow B1 101 3 va l.length (l.flatMap SnT.cs)) (h2 : w.ownsRow B2 101 3 vb m.length (m.flatMap SnT.cs)) (hp : l.length = m.length) (hm : ∀ x ∈ l, ∃ i : Nat, m[i]? = some x ∧ Fst m i x.p) (hl : l.length ≤ 1000) :
    Calls Tryz.prog 26 #[va, vb] w fun e w' => e = .returned (.bool true) ∧ Below w.heap.size w w' := by
  obtain ⟨a, c, rfl⟩ := slice_of h1
  obtain ⟨b, d, rfl⟩ := slice_of h2
  have H1 : Hid _ := h1
  have H2 : Hid _ := h2
  have HM : Hid _ := hm
  obtain ⟨N, hN⟩ : ∃ N, l.length = N := ⟨_, rfl⟩
  have HN : Hid (l.length = N) := hN
  have HN2 : Hid (m.length = N) := by show _ = _; rw [← hp]; exact hN
  have hmn : m.length = N := HN2.out
  rw [hN] at hl ⊢
  rw [hmn]
  clear h1 h2 hN hp hm hmn
  go_enter Tryz.func26, Tryz.ntmps26
  go_wp2_with fail
  go_loopw [5] (fun i wr => ∃ q : Nat, i = .int .i64 q ∧ q ≤ N ∧ Hid (Below w.heap.size w wr)) (fun i _ => N - (intOf i).toNat)
  case atStart => exact ⟨0, rfl, Nat.zero_le _, Below.refl _ _⟩
  case round =>
    obtain ⟨q, rfl, hq, HB⟩ := hrel
    by_cases hlt : q < N
    · have hlt' : (q : Int) < (N : Int) := by omega
      obtain ⟨x, hx⟩ : ∃ x, l[q]? = some x := ⟨l[q]'(by rw [HN.out]; exact hlt), List.getElem?_eq_getElem _⟩
      obtain ⟨i, hi, hf⟩ := HM.out x (List.mem_of_getElem? hx)
      have r1 : wr.ownsRow B1 101 3 (.slice a l.length c) l.length (l.flatMap SnT.cs) := owns_chg H1.out (Chg.of_below HB.out (fun _ => False)) (fun _ _ => id)
      have r2 : wr.ownsRow B2 101 3 (.slice b m.length d) m.length (m.flatMap SnT.cs) := owns_chg H2.out (Chg.of_below HB.out (fun _ => False)) (fun _ _ => id)
      have HAT : Hid _ := atT_any B2 (.slice b m.length d) m x.p i wr r2 (by rw [HN2.out]; omega) (.inl ⟨i, x, hi, rfl, hf, rfl⟩)
      obtain ⟨g1, c1, e1, _, _, _, k0, k1, k2⟩ := at_row r1 hx
      obtain ⟨g2, c2, e2, _, _, hil, m0, m1, m2⟩ := at_row r2 hi
      obtain ⟨rfl, rfl⟩ : a = some ⟨g1, 0, none⟩ ∧ c = c1 := by simpa using e1
      obtain ⟨rfl, rfl⟩ : b = some ⟨g2, 0, none⟩ ∧ d = c2 := by simpa using e2
      have hiN : i < N := by rw [← HN2.out]; exact hil
      have hi1 : ¬ (i : Int) < 0 := by omega
      have hi2 : (i : Int) < (N : Int) := by omega
      rw [HN2.out] at HAT
      clear hx hi hf r1 r2 e1 e2 hil
      go_wp2_with fail
      refine Calls.mono HAT.out ?_
      rintro e w' ⟨rfl, hw'⟩
      have hw9 := hw'.symm
      subst hw9
      clear hw'
      go_upto_region 7 with fail
      go_quiet (fail)
      go_wp2_with fail
      go_roundw
      case rel => exact ⟨q + 1, by go_num, by omega, below_dN HB.out _⟩
      case measure => simp [intOf]; omega
    · obtain rfl : q = N := by omega
      go_wp2_with fail
      go_ret
      exact ⟨rfl, HB.out⟩
theorem parT_all {T : List Nd} (h : Snd T) : parT T 3 pRt = T.map sn := by
  unfold parT
  have e : T.filter (fun x => covers 3 pRt 1 x.p) = T := by
    rw [List.filter_eq_self]
    intro x hx
    have hxp := (h.inv.nd x hx).1
    have hroot : (parse pRt).1 = 0 := by kernel_rfl
    show covers 3 pRt 1 x.p = true
    by_cases hr : x.p = pRt
    · rw [hr]
      kernel_rfl
    · obtain ⟨xs, k, y, hxs, hl, _, _⟩ := names_of hxp hr
      have hb : belB pRt x.p = true := by
        unfold belB
        rw [hxs, show parse pRt = (0, []) by kernel_rfl]
        exact decide_eq_true ⟨by simp [hl], by simp⟩
      unfold covers cov
      rw [hb]
      simp [isP, okC, hxp, hroot]
  rw [e]
  rfl
theorem like_of {T : List Nd} (h : Inv T) {l : List SnT} (hl : l.Perm (T.map sn)) : l.length = (T.map sn).length ∧ ∀ x ∈ l, ∃ i : Nat, (T.map sn)[i]? = some x ∧ Fst (T.map sn) i x.p := by
  refine ⟨hl.length_eq, fun x hx => ?_⟩
  obtain ⟨y, hy, rfl⟩ := List.mem_map.1 (hl.mem_iff.1 hx)
  exact find_sn h (List.Perm.refl _) hy
/-- A tree stays as what is seen turns. -/
theorem TrAt.turn {w w' : World} {B tb q : Nat} {T : List Nd} (h : TrAt w B tb q T) {B1 n : Nat} {v0 : Value} {xs : List Value} (hr : w.ownsRow B1 101 3 v0 n xs) (hc : Chg w w' (fun k => v0.ownBlock = some k)) : TrAt w' B tb q T := by
  obtain ⟨mb, n, D, h1, h2, h3⟩ := h.at'
  have hk : ∀ {k : Nat}, v0.ownBlock = some k → ∃ cur, w.heap[k]? = some (.cells cur 101 (0, 0)) := fun hk => owns_kind hr hk
  refine ⟨⟨mb, n, D, ⟨?_, map_chg h1.map hc (fun e => ?_), h1.lo, h1.lom⟩, h2, h3⟩, h.snd⟩
  · rw [hc.block tb (Array.getElem?_eq_some_iff.1 h1.box).1 (fun e => ?_)]
    · exact h1.box
    · obtain ⟨cur, hcur⟩ := hk e
      rw [h1.box] at hcur
      simp at hcur
  · obtain ⟨cur, hcur⟩ := hk e
    obtain ⟨es, clock, hb, _⟩ := h1.map
    rw [hb] at hcur
    cases hcur
theorem playC_len (T : List Nd) (s st : Int) (os : List OpT) : (playM T s st os).C.length ≤ os.length := by
  have main : ∀ (os : List OpT) (i : Nat) (T0 T : List Nd) (R : List ResT) (C : List ChT), (playL T0 s st os i T R C).C.length ≤ C.length + os.length := by
    intro os
    induction os with
    | nil => intro i T0 T R C; exact Nat.le_refl _
    | cons o r ih =>
      intro i T0 T R C
      unfold playL
      split
      · exact Nat.zero_le _
      · refine Nat.le_trans (ih _ _ _ _ _) ?_
        have := oneM_ch T s st o
        rw [List.length_append, List.length_cons]
        omega
  unfold playM
  split
  · exact Nat.zero_le _
  · have := main os 0 T T [] []
    simpa using this
theorem playC_64 (T : List Nd) (s st : Int) (os : List OpT) : (playM T s st os).C.length ≤ 64 := by
  by_cases h : 4 < os.length
  · unfold playM
    rw [if_pos (by unfold mayC; rw [if_pos h]; decide)]
    exact Nat.zero_le _
  · have := playC_len T s st os
    omega
end Go.Proofs.YtliafokjdngejaaGreatDoor
namespace Go.Proofs.YtliafokjdngejaaGreatDoor
open Go.RowKit Go.Maps Go.WideShapes
set_option linter.unusedVariables false
set_option linter.unusedSimpArgs false
attribute [local go_sem ↓] Go.wp_at_zero Go.wp_at_succ

theorem row_base {w : World} {B B' t s n : Nat} {v : Value} {xs : List Value} (h : w.ownsRow B t s v n xs) (hB : B' ≤ B) : w.ownsRow B' t s v n xs :=
  ⟨h.1, h.2.imp id (fun ⟨g, cap, cur, h1, h2, r⟩ => ⟨g, cap, cur, h1, Nat.le_trans hB h2, r⟩)⟩
set_option maxHeartbeats 8000000 in
set_option maxRecDepth 100000 in
theorem TreeTells_walk (W : World) (a : Option Addr) (c : Nat) (l : List StT) (hl : l.length ≤ maxLen) (hs : Steps W a l) (hg : GroundT W) (hgc : GroundC W) :
    Calls Tryz.prog 8 #[.slice a l.length c] W fun e w' => e = .returned (.bool true) ∧ Below W.heap.size W w' := by
  unfold maxLen at hl
  have HS : Hid (Steps W a l) := hs
  have HG : Hid (GroundT W) := hg
  have HGC : Hid (GroundC W) := hgc
  have HNW : Hid _ := new_tr W
  have hroot : (parse pRt).1 = 0 := by kernel_rfl
  have HROOT : Hid ((parse pRt).1 = 0) := hroot
  clear hs hg hgc hroot
  have hroot := HROOT.out
  clear hroot
  go_enter Tryz.func8, Tryz.ntmps8
  go_wp2_with (first
    | (go_at_call 9; refine Calls.mono HNW.out ?_; rintro e w1 ⟨tb, rfl, ht1, hb1⟩
       have HT1 : Hid (TrAt w1 W.heap.size tb 0 [rootN]) := ht1
       have HB1 : Hid (Below W.heap.size W w1) := hb1
       clear ht1 hb1)
    | fail)
  refine Calls.mono (part_tr W.heap.size tb 0 [rootN] 3 pRt w1 (HG.out.below HB1.out).toGround HT1.out HROOT.out (.inr (.inr rfl))) ?_
  rintro e w2 ⟨pa, pcap, rfl, hr2, hb2⟩
  rw [parT_all HT1.out.snd] at hr2 ⊢
  have HT2 : Hid (TrAt w2 W.heap.size tb 0 [rootN]) := HT1.out.below hb2
  have HB2 : Hid (Below W.heap.size W w2) := trans2 HB1.out hb2
  have HR2 : Hid (w2.ownsRow W.heap.size 101 3 (.slice pa ([rootN].map sn).length pcap) ([rootN].map sn).length (([rootN].map sn).flatMap SnT.cs)) := row_base hr2 HB1.out.size
  clear hr2 hb2 HT1 HB1
  go_wp2_with fail
  go_loopw [4, 6] (fun v i wr => ∃ (q : Nat) (l0 : List SnT), i = .int .i64 q ∧ q ≤ l.length ∧ q ≤ 120 ∧ Hid (TrAt wr W.heap.size tb q (runL [rootN] (l.take q))) ∧ Hid (wr.ownsRow W.heap.size 101 3 v l0.length (l0.flatMap SnT.cs)) ∧ Hid (l0.Perm ((runL [rootN] (l.take q)).map sn)) ∧ Hid (Below W.heap.size W wr)) (fun _ i _ => l.length - (intOf i).toNat)
  case atStart => exact ⟨0, [rootN].map sn, rfl, Nat.zero_le _, Nat.zero_le _, HT2.out, HR2.out, List.Perm.refl _, HB2.out⟩
  case round =>
    obtain ⟨q, l0, rfl, hq, hq2, HTq, HRq, HPL0, HBq⟩ := hrel
    by_cases hlt : q < l.length
    · have hlt' : (q : Int) < (l.length : Int) := by omega
      by_cases h120 : q < 120
      · have h120' : (q : Int) < 120 := by omega
        obtain ⟨x, hx⟩ : ∃ x, l[q]? = some x := ⟨l[q], List.getElem?_eq_getElem hlt⟩
        obtain ⟨b, f, rfl, hbl, hcs, ho, hok⟩ := HS.out q x hx
        have HCE : Hid (∀ w', Below W.heap.size W w' → ∀ j v, x.cells[j]? = some v → w'.cell? ⟨b, f + q * 6 + j, none⟩ = some v) := fun w' hb j v hv => by rw [hb.cell (p := ⟨b, f + q * 6 + j, none⟩) hbl]; exact hcs j v hv
        have hcell := HCE.out wr HBq.out
        have k0 : wr.cell? ⟨b, f + q * 6, none⟩ = some (.int .i64 x.k) := hcell 0 _ rfl
        have k1 := hcell 1 _ rfl
        have k2 := hcell 2 _ rfl
        have k3 := hcell 3 _ rfl
        have HTK : Hid (runL [rootN] (l.take (q + 1)) = runS (runL [rootN] (l.take q)) x) := by
          show _ = _
          rw [List.take_add_one, hx]
          exact runL_snoc _ _ _
        have HBS : Hid (W.heap.size ≤ tb) := HTq.out.lo
        obtain ⟨T, hT⟩ : ∃ T, runL [rootN] (l.take q) = T := ⟨_, rfl⟩
        rw [hT] at HTq HTK HPL0
        have HI0 : Hid (Inv T) := HTq.out.snd.inv
        clear hT hcell hcs hx
        by_cases h1 : x.k = 1
        · have HPL : Hid (∀ w', Below W.heap.size W w' → TrAt w' W.heap.size tb q T → _) := fun w' hb ht => play_step (x := x) HG.out HGC.out hb ht (by omega) ho hok
          clear ho hok
          obtain ⟨T1, hT1⟩ : ∃ T1, (playM T x.s x.st x.os).T = T1 := ⟨_, rfl⟩
          obtain ⟨C1, hC1⟩ : ∃ C1, (playM T x.s x.st x.os).C = C1 := ⟨_, rfl⟩
          have HT1 : Hid (runL [rootN] (l.take (q + 1)) = T1) := by show _ = _; rw [HTK.out, ← hT1]; unfold runS; rw [if_pos h1]
          obtain ⟨l1, htu, hp1⟩ := play_told HI0.out HPL0.out x.s x.st x.os
          have hcl := playC_64 T x.s x.st x.os
          rw [hC1] at htu hcl
          rw [hT1] at hp1
          have HTU : Hid (Turns l0 C1 l1) := htu
          have HP1 : Hid (l1.Perm (T1.map sn)) := hp1
          have HCL : Hid (C1.length ≤ 64) := hcl
          simp only [hT1, hC1] at HPL
          rw [h1] at k0
          clear h1 htu hp1 hcl hT1 hC1
          go_upto_region 11 with (first | (go_at_call 12; refine Calls.mono (numT_any _ _) ?_; rintro e w' ⟨rfl, hw'⟩; have hw9 := hw'.symm; subst hw9; clear hw') | fail)
          go_region_held3 (fun w' => w'.cell? ⟨b, f + q * 6 + 1, none⟩ = some (.int .i64 x.s) ∧ w'.cell? ⟨b, f + q * 6 + 2, none⟩ = some (.int .i64 x.st) ∧ w'.cell? ⟨b, f + q * 6 + 3, none⟩ = some (.slice x.a x.os.length x.c)) (first | go_keep | exact ⟨k1, k2, k3⟩)
            (first
              | (go_at_call 10; refine Calls.mono (HPL.out _ (below_drew HBq.out) (HTq.out.below (below_drew0 _))) ?_
                 rintro e w3 ⟨L, rv, chV, rfl, _, _, hch, ht3, hc3⟩
                 have hc3' := chg_undrew hc3
                 have HT3 : Hid (TrAt w3 W.heap.size tb (q + 1) T1) := ht3
                 have HB3 : Hid (Below W.heap.size W w3) := HBq.out.trans (chg_lo hc3' HBS.out HBq.out.size)
                 have HR3 : Hid (w3.ownsRow W.heap.size 101 3 u4 l0.length (l0.flatMap SnT.cs)) := row_keep HTq.out hc3' HRq.out (by decide)
                 have HC3 : Hid (w3.ownsRow wr.heap.size 56 4 chV C1.length (chCs C1)) := hch
                 clear ht3 hc3 hc3' hch k0 k1 k2 k3
                 have k1 := HCE.out w3 HB3.out 1 _ rfl
                 have k2 := HCE.out w3 HB3.out 2 _ rfl
                 have k3 := HCE.out w3 HB3.out 3 _ rfl)
              | fail)
          all_goals (
            have hroot := HROOT.out
            go_wp2_with fail
            refine Calls.mono (turned_any W.heap.size wr.heap.size u4 chV l0 l1 C1 w3 HB3.out.size HR3.out HC3.out HTU.out (by rw [HPL0.out.length_eq, List.length_map]; exact HI0.out.len) HCL.out) ?_
            rintro e w4 ⟨v4, rfl, hr4, hu4, hc4⟩
            have HT4 : Hid (TrAt w4 W.heap.size tb (q + 1) T1) := HT3.out.turn HR3.out hc4
            have HB4 : Hid (Below W.heap.size W w4) := HB3.out.trans (hc4.below HB3.out.size (fun j _ e => (HR3.out.lt j e).1))
            have HR4 : Hid (w4.ownsRow W.heap.size 101 3 v4 l1.length (l1.flatMap SnT.cs)) := hr4
            clear hr4 hu4 hc4
            go_wp2_with fail
            refine Calls.mono (part_tr W.heap.size tb (q + 1) T1 3 pRt w4 (HG.out.below HB4.out).toGround HT4.out hroot (.inr (.inr rfl))) ?_
            rintro e w5 ⟨pa, pcap, rfl, hr5, hb5⟩
            rw [parT_all HT4.out.snd] at hr5
            have hlk := like_of HT4.out.snd.inv HP1.out
            have HAL : Hid _ := alikeT_any W.heap.size w4.heap.size v4 (.slice pa (T1.map sn).length pcap) l1 (T1.map sn) w5 (owns_chg HR4.out (Chg.of_below hb5 (fun _ => False)) (fun _ _ => id)) hr5 hlk.1 hlk.2 (by rw [hlk.1, List.length_map]; have := HT4.out.snd.inv.len; omega)
            have HT5 : Hid (TrAt w5 W.heap.size tb (q + 1) T1) := HT4.out.below hb5
            have HB5 : Hid (Below W.heap.size W w5) := trans2 HB4.out hb5
            have HR5 : Hid (w5.ownsRow W.heap.size 101 3 v4 l1.length (l1.flatMap SnT.cs)) := owns_chg HR4.out (Chg.of_below hb5 (fun _ => False)) (fun _ _ => id)
            rw [parT_all HT4.out.snd]
            obtain ⟨M5, hM5⟩ : ∃ M, (T1.map sn).length = M := ⟨_, rfl⟩
            rw [hM5] at HAL ⊢
            clear hr5 hb5 hlk hM5
            go_wp2_with (first | (go_at_call 12; refine Calls.mono (numT_any _ _) ?_; rintro e w' ⟨rfl, hw'⟩; have hw9 := hw'.symm; subst hw9; clear hw') | fail)
            refine Calls.mono HAL.out ?_
            rintro e w6 ⟨rfl, hb6⟩
            have HT6 : Hid (TrAt w6 W.heap.size tb (q + 1) T1) := HT5.out.below hb6
            have HB6 : Hid (Below W.heap.size W w6) := trans2 HB5.out hb6
            have HR6 : Hid (w6.ownsRow W.heap.size 101 3 v4 l1.length (l1.flatMap SnT.cs)) := owns_chg HR5.out (Chg.of_below hb6 (fun _ => False)) (fun _ _ => id)
            clear hb6
            go_wp2_with fail
            go_roundw
            case rel => exact ⟨q + 1, l1, by go_num, by omega, by omega, by rw [HT1.out]; exact HT6.out, HR6.out, by rw [HT1.out]; exact HP1.out, HB6.out⟩
            case measure => simp [intOf]; omega)
        · by_cases h2 : x.k = 2
          · have HEN : Hid (∀ w', TrAt w' W.heap.size tb q T → _) := fun w' ht => end_tr _ tb q T x.s w' ht (by omega)
            clear ho hok
            obtain ⟨T1, hT1⟩ : ∃ T1, finT T x.s = T1 := ⟨_, rfl⟩
            obtain ⟨C1, hC1⟩ : ∃ C1, finC T x.s = C1 := ⟨_, rfl⟩
            have HT1 : Hid (runL [rootN] (l.take (q + 1)) = T1) := by show _ = _; rw [HTK.out, ← hT1]; unfold runS; rw [if_neg h1, if_pos h2]
            obtain ⟨l1, htu, hp1⟩ := end_told HI0.out HPL0.out x.s
            have hcl : (finC T x.s).length ≤ 64 := Nat.le_trans (finC_len _ _) HI0.out.len
            rw [hC1] at htu hcl
            rw [hT1] at hp1
            have HTU : Hid (Turns l0 C1 l1) := htu
            have HP1 : Hid (l1.Perm (T1.map sn)) := hp1
            have HCL : Hid (C1.length ≤ 64) := hcl
            simp only [hT1, hC1] at HEN
            rw [h2] at k0
            clear h1 h2 htu hp1 hcl hT1 hC1
            go_wp2_with (first | (go_at_call 12; refine Calls.mono (numT_any _ _) ?_; rintro e w' ⟨rfl, hw'⟩; have hw9 := hw'.symm; subst hw9; clear hw') | fail)
            refine Calls.mono (HEN.out _ (by first | exact HTq.out | exact HTq.out.below (below_drew0 _))) ?_
            rintro e w3 ⟨chV, rfl, hch, ht3, hc3⟩
            have HT3 : Hid (TrAt w3 W.heap.size tb (q + 1) T1) := ht3.mono (by omega)
            have HB3 : Hid (Below W.heap.size W w3) := HBq.out.trans (chg_lo hc3 HBS.out HBq.out.size)
            have HR3 : Hid (w3.ownsRow W.heap.size 101 3 u4 l0.length (l0.flatMap SnT.cs)) := row_keep HTq.out hc3 HRq.out (by decide)
            have HC3 : Hid (w3.ownsRow wr.heap.size 56 4 chV C1.length (chCs C1)) := hch
            clear ht3 hc3 hch k0 k1 k2 k3
            have hroot := HROOT.out
            go_wp2_with fail
            refine Calls.mono (turned_any W.heap.size wr.heap.size u4 chV l0 l1 C1 w3 HB3.out.size HR3.out HC3.out HTU.out (by rw [HPL0.out.length_eq, List.length_map]; exact HI0.out.len) HCL.out) ?_
            rintro e w4 ⟨v4, rfl, hr4, hu4, hc4⟩
            have HT4 : Hid (TrAt w4 W.heap.size tb (q + 1) T1) := HT3.out.turn HR3.out hc4
            have HB4 : Hid (Below W.heap.size W w4) := HB3.out.trans (hc4.below HB3.out.size (fun j _ e => (HR3.out.lt j e).1))
            have HR4 : Hid (w4.ownsRow W.heap.size 101 3 v4 l1.length (l1.flatMap SnT.cs)) := hr4
            clear hr4 hu4 hc4
            go_wp2_with fail
            refine Calls.mono (part_tr W.heap.size tb (q + 1) T1 3 pRt w4 (HG.out.below HB4.out).toGround HT4.out hroot (.inr (.inr rfl))) ?_
            rintro e w5 ⟨pa, pcap, rfl, hr5, hb5⟩
            rw [parT_all HT4.out.snd] at hr5
            have hlk := like_of HT4.out.snd.inv HP1.out
            have HAL : Hid _ := alikeT_any W.heap.size w4.heap.size v4 (.slice pa (T1.map sn).length pcap) l1 (T1.map sn) w5 (owns_chg HR4.out (Chg.of_below hb5 (fun _ => False)) (fun _ _ => id)) hr5 hlk.1 hlk.2 (by rw [hlk.1, List.length_map]; have := HT4.out.snd.inv.len; omega)
            have HT5 : Hid (TrAt w5 W.heap.size tb (q + 1) T1) := HT4.out.below hb5
            have HB5 : Hid (Below W.heap.size W w5) := trans2 HB4.out hb5
            have HR5 : Hid (w5.ownsRow W.heap.size 101 3 v4 l1.length (l1.flatMap SnT.cs)) := owns_chg HR4.out (Chg.of_below hb5 (fun _ => False)) (fun _ _ => id)
            rw [parT_all HT4.out.snd]
            obtain ⟨M5, hM5⟩ : ∃ M, (T1.map sn).length = M := ⟨_, rfl⟩
            rw [hM5] at HAL ⊢
            clear hr5 hb5 hlk hM5
            go_wp2_with (first | (go_at_call 12; refine Calls.mono (numT_any _ _) ?_; rintro e w' ⟨rfl, hw'⟩; have hw9 := hw'.symm; subst hw9; clear hw') | fail)
            refine Calls.mono HAL.out ?_
            rintro e w6 ⟨rfl, hb6⟩
            have HT6 : Hid (TrAt w6 W.heap.size tb (q + 1) T1) := HT5.out.below hb6
            have HB6 : Hid (Below W.heap.size W w6) := trans2 HB5.out hb6
            have HR6 : Hid (w6.ownsRow W.heap.size 101 3 v4 l1.length (l1.flatMap SnT.cs)) := owns_chg HR5.out (Chg.of_below hb6 (fun _ => False)) (fun _ _ => id)
            clear hb6
            go_wp2_with fail
            go_roundw
            case rel => exact ⟨q + 1, l1, by go_num, by omega, by omega, by rw [HT1.out]; exact HT6.out, HR6.out, by rw [HT1.out]; exact HP1.out, HB6.out⟩
            case measure => simp [intOf]; omega
          · have e1 : (x.k == 1) = false := by simpa using h1
            have e2 : (x.k == 2) = false := by simpa using h2
            obtain ⟨T1, hT1⟩ : ∃ T1, T = T1 := ⟨_, rfl⟩
            subst hT1
            have HT1 : Hid (runL [rootN] (l.take (q + 1)) = T) := by show _ = _; rw [HTK.out]; unfold runS; rw [if_neg h1, if_neg h2]
            have HTU : Hid (Turns l0 [] l0) := Turns.nil l0
            have HP1 : Hid (l0.Perm (T.map sn)) := HPL0.out
            have HCL : Hid (([] : List ChT).length ≤ 64) := by show (0 : Nat) ≤ 64; omega
            have HC3 : Hid (wr.ownsRow wr.heap.size 56 4 (.slice none 0 0) ([] : List ChT).length (chCs [])) := World.ownsRow_nil _ _ _ _
            have HT3 : Hid (TrAt wr W.heap.size tb (q + 1) T) := HTq.out.mono (by omega)
            have HB3 : Hid (Below W.heap.size W wr) := HBq.out
            have HR3 : Hid (wr.ownsRow W.heap.size 101 3 u4 l0.length (l0.flatMap SnT.cs)) := HRq.out
            clear h1 h2 ho hok
            have hroot := HROOT.out
            go_wp2_with (first | (go_at_call 12; refine Calls.mono (numT_any _ _) ?_; rintro e w' ⟨rfl, hw'⟩; have hw9 := hw'.symm; subst hw9; clear hw') | fail)
            refine Calls.mono (turned_any W.heap.size wr.heap.size u4 (.slice none 0 0) l0 l0 [] wr HB3.out.size HR3.out HC3.out HTU.out (by rw [HPL0.out.length_eq, List.length_map]; exact HI0.out.len) HCL.out) ?_
            rintro e w4 ⟨v4, rfl, hr4, hu4, hc4⟩
            have HT4 : Hid (TrAt w4 W.heap.size tb (q + 1) T) := HT3.out.turn HR3.out hc4
            have HB4 : Hid (Below W.heap.size W w4) := HB3.out.trans (hc4.below HB3.out.size (fun j _ e => (HR3.out.lt j e).1))
            have HR4 : Hid (w4.ownsRow W.heap.size 101 3 v4 l0.length (l0.flatMap SnT.cs)) := hr4
            clear hr4 hu4 hc4
            go_wp2_with fail
            refine Calls.mono (part_tr W.heap.size tb (q + 1) T 3 pRt w4 (HG.out.below HB4.out).toGround HT4.out hroot (.inr (.inr rfl))) ?_
            rintro e w5 ⟨pa, pcap, rfl, hr5, hb5⟩
            rw [parT_all HT4.out.snd] at hr5
            have hlk := like_of HT4.out.snd.inv HP1.out
            have HAL : Hid _ := alikeT_any W.heap.size w4.heap.size v4 (.slice pa (T.map sn).length pcap) l0 (T.map sn) w5 (owns_chg HR4.out (Chg.of_below hb5 (fun _ => False)) (fun _ _ => id)) hr5 hlk.1 hlk.2 (by rw [hlk.1, List.length_map]; have := HT4.out.snd.inv.len; omega)
            have HT5 : Hid (TrAt w5 W.heap.size tb (q + 1) T) := HT4.out.below hb5
            have HB5 : Hid (Below W.heap.size W w5) := trans2 HB4.out hb5
            have HR5 : Hid (w5.ownsRow W.heap.size 101 3 v4 l0.length (l0.flatMap SnT.cs)) := owns_chg HR4.out (Chg.of_below hb5 (fun _ => False)) (fun _ _ => id)
            rw [parT_all HT4.out.snd]
            obtain ⟨M5, hM5⟩ : ∃ M, (T.map sn).length = M := ⟨_, rfl⟩
            rw [hM5] at HAL ⊢
            clear hr5 hb5 hlk hM5
            go_wp2_with (first | (go_at_call 12; refine Calls.mono (numT_any _ _) ?_; rintro e w' ⟨rfl, hw'⟩; have hw9 := hw'.symm; subst hw9; clear hw') | fail)
            refine Calls.mono HAL.out ?_
            rintro e w6 ⟨rfl, hb6⟩
            have HT6 : Hid (TrAt w6 W.heap.size tb (q + 1) T) := HT5.out.below hb6
            have HB6 : Hid (Below W.heap.size W w6) := trans2 HB5.out hb6
            have HR6 : Hid (w6.ownsRow W.heap.size 101 3 v4 l0.length (l0.flatMap SnT.cs)) := owns_chg HR5.out (Chg.of_below hb6 (fun _ => False)) (fun _ _ => id)
            clear hb6
            go_wp2_with fail
            go_roundw
            case rel => exact ⟨q + 1, l0, by go_num, by omega, by omega, by rw [HT1.out]; exact HT6.out, HR6.out, by rw [HT1.out]; exact HP1.out, HB6.out⟩
            case measure => simp [intOf]; omega
      · have h120' : ¬ (q : Int) < 120 := by omega
        go_wp2_with (first | (go_at_call 12; refine Calls.mono (numT_any _ _) ?_; rintro e w' ⟨rfl, hw'⟩; have hw9 := hw'.symm; subst hw9; clear hw') | fail)
        refine (knownT_any wr (HG.out.below HBq.out)).mono ?_
        rintro e w9 ⟨rfl, hb9⟩
        have HB9 : Hid (Below W.heap.size W w9) := trans2 HBq.out hb9
        clear hb9
        go_wp2_with fail
        go_ret
        exact ⟨rfl, HB9.out⟩
    · have hlt' : ¬ (q : Int) < (l.length : Int) := by omega
      go_wp2_with (first | (go_at_call 12; refine Calls.mono (numT_any _ _) ?_; rintro e w' ⟨rfl, hw'⟩; have hw9 := hw'.symm; subst hw9; clear hw') | fail)
      refine (knownT_any wr (HG.out.below HBq.out)).mono ?_
      rintro e w9 ⟨rfl, hb9⟩
      have HB9 : Hid (Below W.heap.size W w9) := trans2 HBq.out hb9
      clear hb9
      go_wp2_with fail
      go_ret
      exact ⟨rfl, HB9.out⟩
end Go.Proofs.YtliafokjdngejaaGreatDoor
