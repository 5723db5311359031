/-
  WireFrames: the walk.
-/
import Derived.Test.YtdjibjmhjofedabWFramesP
import Derived.Test.YtdjibjmhjofedabWRefFrame
namespace Go.Proofs.Ytdjibjmhjofedab
open Go.RowKit

theorem same_any' {w : World} {a b : Option Addr} {c d : Nat} {ys : List Int} (hx : Bys w a ys) (hy : Bys w b ys) (hm : ys.length ≤ maxLen) :
    Calls Try.prog 12 #[.slice a ys.length c, .slice b ys.length d] w fun e w' => e = .returned (.bool true) ∧ Below w.heap.size w w' := by
  have := same_is (c := c) (d := d) hx hy hm
  rw [decide_eq_true rfl] at this
  exact this

theorem body_len (ps : List Pc) : (bodyOf ps).length = (ps.map fun p => p.2.2.length).sum := by
  unfold bodyOf
  rw [List.length_flatten, List.map_map]
  rfl
theorem body_turned (ts : List Tw) : (bodyOf ((ts.map turnT).map Tw.pc)).length = (bodyOf (ts.map Tw.pc)).length := by
  rw [body_len, body_len, List.map_map, List.map_map, List.map_map]
  congr 1
  apply List.map_congr_left
  intro t _
  exact turnL_len t.2.2

theorem frames_big (a : Option Addr) (c : Nat) (ps : List Pc) (w : World) (h : Pcs w a ps) (hk : ps.length ≤ 9223372036854775807) (hm : ps.length ≤ 24 → (bodyOf ps).length ≤ 4611686018427387904) (hs : ¬ ((bodyOf ps).length ≤ 20000 ∧ ps.length ≤ 24)) :
    Calls Try.prog 5 #[.slice a ps.length c] w fun e w' => e = .returned (.bool true) ∧ Below w.heap.size w w' := by
  have HS : Hid _ := small_any a c ps w h hk hm
  rw [decide_eq_false hs] at HS
  clear h hm hs
  go_enter Try.func5, Try.ntmps5
  go_wp2_with (first | (go_at_call 17; refine Calls.mono HS.out ?_; rintro e w1 ⟨rfl, rfl⟩) | fail)
  go_ret
  exact ⟨rfl, Below.refl _ _⟩

set_option maxHeartbeats 6400000 in
set_option maxRecDepth 100000 in
theorem frames_small (a : Option Addr) (c : Nat) (ps : List Pc) (w : World) (h : Pcs w a ps) (hs : (bodyOf ps).length ≤ 20000 ∧ ps.length ≤ 24) :
    Calls Try.prog 5 #[.slice a ps.length c] w fun e w' => e = .returned (.bool true) ∧ Below w.heap.size w w' := by
  obtain ⟨i0, hi, hz0, hz1, hz2⟩ := info_parts Try.info22
  have HS : Hid _ := small_any a c ps w h (by omega) (fun _ => by omega)
  rw [decide_eq_true hs] at HS
  have HP : Hid (Pcs w a ps) := h
  have hk24 := hs.2
  have hb20 := hs.1
  have HBy : Hid (Byt (bodyOf ps)) := body_byt h
  clear h hs
  go_enter Try.func5, Try.ntmps5
  go_wp2_with fail
  refine Calls.mono HS.out ?_
  rintro e w0 ⟨rfl, rfl⟩
  go_wp2_with fail
  refine (twins_any a c ps w0 HP.out hk24 hb20).mono ?_
  rintro e w1 ⟨lv, ts, rfl, ho1, ht1, hE, hb1⟩
  obtain ⟨al, cl, rfl, hpl1⟩ := ht1.pcs ho1
  have HL1 : Hid _ := ho1
  have HT1 : Hid (Tws w1 w0.heap.size ts) := ht1
  have HE : Hid _ := hE
  have HB1 : Hid (Below w0.heap.size w0 w1) := hb1
  have HP1 : Hid (Pcs w1 a ps) := HP.out.below hb1
  have HQ1 : Hid (Pcs w1 al (ts.map Tw.pc)) := hpl1
  have htl : ts.length = ps.length := same_len hE
  have HTL : Hid _ := htl
  have htb := body_same hE
  clear ho1 ht1 hE hb1 hpl1
  have HF : Hid _ := fun w (h : Pcs w al (ts.map Tw.pc)) => frame_any al cl (ts.map Tw.pc) w h (by rw [htb]; omega) (by rw [List.length_map]; omega)
  rw [htb, List.length_map] at HF
  have HJ : Hid _ := fun w (h : Pcs w a ps) => joined_any a c ps w h (by omega) (by omega)
  have hfl : (frameL (bodyOf ps)).length ≤ maxLen := by rw [frame_len]; unfold maxLen; omega
  generalize hBody : bodyOf ps = Bd at *
  have HRF : Hid _ := fun a c w hx hn => refFrame_any a c Bd w hx HBy.out hn (by omega)
  clear htl htb
  generalize frameL Bd = FB at HF HRF hfl
  go_wp2_with fail
  refine (HF.out _ HQ1.out).mono ?_
  rintro e w2 ⟨a2, c2, rfl, ho2, hb2⟩
  have HX2 : Hid (Bys w2 a2 FB) := row_bys ho2
  have HL2 : Hid _ := owns_below HL1.out hb2
  have HT2 : Hid (Tws w2 w0.heap.size ts) := Tws.below HT1.out hb2
  have HB2 : Hid (Below w0.heap.size w0 w2) := trans2 HB1.out hb2
  have HP2 : Hid (Pcs w2 a ps) := Pcs.below HP1.out hb2
  clear ho2 hb2 HL1 HT1 HB1 HP1 HQ1 HF
  go_wp2_with fail
  refine (HJ.out _ HP2.out).mono ?_
  rintro e w3 ⟨a3, c3, rfl, ho3, hb3⟩
  have HX3 : Hid (Bys w3 a2 FB) := Bys.below HX2.out hb3
  have HL3 : Hid _ := owns_below HL2.out hb3
  have HT3 : Hid (Tws w3 w0.heap.size ts) := Tws.below HT2.out hb3
  have HB3 : Hid (Below w0.heap.size w0 w3) := trans2 HB2.out hb3
  have HP3 : Hid (Pcs w3 a ps) := Pcs.below HP2.out hb3
  have HJ3 : Hid _ := ho3
  clear ho3 hb3 HX2 HL2 HT2 HB2 HP2 HJ
  go_wp2_with fail
  refine (HRF.out a3 c3 w3 (row_bys HJ3.out) (row_none' HJ3.out)).mono ?_
  rintro e w4 ⟨a4, c4, rfl, ho4, hb4⟩
  have HX4 : Hid (Bys w4 a2 FB) := Bys.below HX3.out hb4
  have HY4 : Hid (Bys w4 a4 FB) := row_bys ho4
  have HL4 : Hid _ := owns_below HL3.out hb4
  have HT4 : Hid (Tws w4 w0.heap.size ts) := Tws.below HT3.out hb4
  have HB4 : Hid (Below w0.heap.size w0 w4) := trans2 HB3.out hb4
  have HP4 : Hid (Pcs w4 a ps) := Pcs.below HP3.out hb4
  clear ho4 hb4 HX3 HL3 HT3 HB3 HP3 HJ3 HRF
  go_wp2_with fail
  refine (same_any' HX4.out HY4.out hfl).mono ?_
  rintro e w5 ⟨rfl, hb5⟩
  have HL5 : Hid _ := owns_below HL4.out hb5
  have HT5 : Hid (Tws w5 w0.heap.size ts) := Tws.below HT4.out hb5
  have HB5 : Hid (Below w0.heap.size w0 w5) := trans2 HB4.out hb5
  have HP5 : Hid (Pcs w5 a ps) := Pcs.below HP4.out hb5
  clear hb5 HX4 HY4 HL4 HT4 HB4 HP4
  have HQ5 : Hid (Pcs w5 al (ts.map Tw.pc)) := by
    obtain ⟨a', c', hv, hq⟩ := Tws.pcs HT5.out HL5.out
    simp only [Value.slice.injEq, true_and] at hv
    show Pcs w5 al (ts.map Tw.pc)
    rw [hv.1]
    exact hq
  go_wp2_with (first | (go_at_call 21; go_in) | fail)
  refine (allUn_any al a cl c w0.heap.size ts ps w5 HQ5.out HP5.out HT5.out HE.out hk24 (by rw [hBody]; exact hb20)).mono ?_
  rintro e w6 ⟨rfl, hb6⟩
  have HL6 : Hid _ := owns_below HL5.out hb6
  have HT6 : Hid (Tws w6 w0.heap.size ts) := Tws.below HT5.out hb6
  have HB6 : Hid (Below w0.heap.size w0 w6) := trans2 HB5.out hb6
  clear hb6 HL5 HT5 HB5 HP5 HQ5
  have htn : ts.length ≤ 24 := by have := HTL.out; omega
  obtain ⟨M, hM⟩ : ∃ M, w6.heap.size = M := ⟨_, rfl⟩
  have HGl : Hid (∀ t ∈ ts, t.1 < M) := fun t ht => by rw [← hM]; exact (HT6.out.room t ht).lt.2
  have HLl : Hid (∀ k, (Value.slice al ts.length cl).ownBlock = some k → k < M) := fun k hk => by rw [← hM]; exact (World.ownsRow.lt HL6.out k hk).2
  have HMs : Hid (M ≤ w6.heap.size) := Nat.le_of_eq hM.symm
  have HM0 : Hid (w0.heap.size ≤ M) := by show _ ≤ _; rw [← hM]; exact HB6.out.size
  have HXl : Hid (∀ t ∈ ts, t.2.2.length ≤ 20000) := fun t ht => by
    have h1 : t.pc ∈ ts.map Tw.pc := List.mem_map.2 ⟨t, ht, rfl⟩
    have h2 := len_le h1
    rw [body_same HE.out, hBody] at h2
    exact Nat.le_trans h2 hb20
  clear hM
  go_wp2
  go_loopw [8, 9] (fun u i wr => ∃ (k : Nat) (N : List Pc), i = .int .i64 k ∧ k ≤ ts.length ∧ N.length ≤ k ∧ Hid (wr.ownsRow M 22 1 u N.length (N.map Pc.val)) ∧ Hid (Gat wr M N) ∧ Hid (N.map (fun p => p.2.2) = (ts.take k).map (fun t => turnL t.2.2)) ∧ Hid (Tws wr w0.heap.size (turnTs k ts)) ∧ Hid (wr.ownsRow w0.heap.size 22 1 (.slice al ts.length cl) ts.length (ts.map Tw.val)) ∧ Hid (Below w0.heap.size w0 wr) ∧ Hid (M ≤ wr.heap.size)) (fun _ i _ => ts.length - (intOf i).toNat)
  case atStart => exact ⟨0, [], rfl, by omega, by simp, World.ownsRow_nil _ _ _ _, (fun _ h => by cases h), rfl, by rw [turnTs_zero]; exact HT6.out, HL6.out, HB6.out, HMs.out⟩
  case round =>
    obtain ⟨k, N, rfl, hkk, hNk, HO, HG, HNE, HT, HL, HB, HMw⟩ := hrel
    by_cases hlt : k < ts.length
    · obtain ⟨t, ht⟩ : ∃ t, ts[k]? = some t := ⟨ts[k], List.getElem?_eq_getElem hlt⟩
      obtain ⟨gl, cl', hvl, -⟩ := form_of HL.out (by omega)
      simp only [Value.slice.injEq, true_and] at hvl
      obtain ⟨rfl, rfl⟩ := hvl
      have hct : wr.cell? ⟨gl, k, none⟩ = some t.val := by rw [World.ownsRow.cellAt HL.out k (by omega), List.getElem?_map, ht]; rfl
      have hroom := Tws.now HT.out ht
      have hxl := HXl.out t (List.mem_of_getElem? ht)
      have hgM := HGl.out t (List.mem_of_getElem? ht)
      have HTu : Hid _ := turned_law w0.heap.size t.1 t.2.1 t.2.2 wr hroom.1 hroom.2 (by omega)
      have HNext : Hid (∀ w1, wr.grownBy w1 (some t.1) → Room w1 w0.heap.size t.1 t.2.1 (turnL t.2.2) → Tws w1 w0.heap.size (turnTs (k + 1) ts)) := fun w1 h1 h2 => Tws.next HT.out ht h1 h2 hroom.2
      have HYt : Hid (Byt (turnL t.2.2)) := turnL_byt hroom.2
      have HRm : Hid _ := hroom.1
      have HST : Hid ((ts.take (k + 1)).map (fun t => turnL t.2.2) = (ts.take k).map (fun t => turnL t.2.2) ++ [turnL t.2.2]) := by show _ = _; rw [List.take_add_one, ht]; simp
      obtain ⟨g, cap, xs⟩ := t
      unfold Tw.val at hct
      simp only at hct hxl hgM
      simp only at HTu HNext HYt HRm HST
      have hki : (k : Int) < (ts.length : Int) := by omega
      clear ht hroom
      go_wp2_with fail
      refine Calls.mono HTu.out ?_
      rintro e w1 ⟨a1, c1, rfl, ho1, hr1, hg1⟩
      have hop : w1.ownsRow M 5 1 (Pc.val (a1, c1, turnL xs)) (turnL xs).length (bv (turnL xs)) := by rw [Pc.val_eq, turnL_len]; exact owns_mono ho1 HMw.out
      have hG0 : Gat w1 M N := Gat.kept HG.out hg1 (fun p hp j hj e => by have := (World.ownsRow.lt (HG.out p hp).1 j hj).1; cases e; omega)
      have HG1 : Hid (Gat w1 M (N ++ [(a1, c1, turnL xs)])) := Gat.snoc hG0 hop HYt.out
      have HT1 : Hid (Tws w1 w0.heap.size (turnTs (k + 1) ts)) := HNext.out w1 hg1 hr1
      have HO1 : Hid _ := owns_same HO.out (fun j hj => hg1.block j (World.ownsRow.lt HO.out j hj).2 (fun e => room_ne HO.out HRm.out (hj.trans e)))
      have HL1 : Hid _ := owns_same HL.out (fun j hj => hg1.block j (World.ownsRow.lt HL.out j hj).2 (fun e => room_ne HL.out HRm.out (hj.trans e)))
      have HB1 : Hid (Below w0.heap.size w0 w1) := HB.out.grown hg1 HB.out.size (fun j hj => by cases hj; exact (Room.lt HRm.out).1)
      have HM1 : Hid (M ≤ w1.heap.size) := Nat.le_trans HMw.out hg1.size
      clear ho1 hr1 hg1 hop hG0
      go_wp2_with (first | (at_builtin; refine wpList_append_own _ rfl _ _ 37 rfl M 22 i0 (.slice none 0 0) 1 24 Try.underlying37 hi hz0 hz1 hz2 rfl (by decide) _ N.length (N.map Pc.val) rfl (World.ownsRow.alloc HO1.out _) ⟨w1.heap.size, 0, none⟩ 1 1 [.slice a1 xs.length c1] rfl rfl (cell_one_new _ _ _) (fun x hx => by simp at hx; subst hx; rfl) (by unfold maxLen; omega) (by omega) (by have := HM1.out; simp; omega) ?_) | fail)
      intro v2 w2 ho hg2 _
      have ho2 : w2.ownsRow M 22 1 v2 (N ++ [(a1, c1, turnL xs)]).length ((N ++ [(a1, c1, turnL xs)]).map Pc.val) := by
        rw [List.length_append, List.map_append]
        simp only [List.map_cons, List.map_nil]
        rw [Pc.val_eq, turnL_len]
        exact ho
      have al1 : ∀ o : Obj, Below w1.heap.size w1 (w1.alloc o) := fun o => (Below.refl _ _).alloc (Nat.le_refl _) o
      have hOa := World.ownsRow.alloc HO1.out (.cells #[.slice a1 xs.length c1] 22)
      have HO2 : Hid _ := ho2
      have HG2 : Hid (Gat w2 M (N ++ [(a1, c1, turnL xs)])) := Gat.kept (Gat.below HG1.out (al1 _)) hg2 (fun p hp j hj => rows_ne hOa (Gat.below HG1.out (al1 _) p hp).1 hj)
      have HT2 : Hid (Tws w2 w0.heap.size (turnTs (k + 1) ts)) := Tws.kept (Tws.below HT1.out (al1 _)) hg2 (fun t ht => room_ne hOa ((Tws.below HT1.out (al1 _)).room t ht))
      have HL2 : Hid _ := owns_same (World.ownsRow.alloc HL1.out (.cells #[.slice a1 xs.length c1] 22)) (fun j hj => hg2.block j (World.ownsRow.lt (World.ownsRow.alloc HL1.out (.cells #[.slice a1 xs.length c1] 22)) j hj).2 (fun e => by
        have h1 := (World.ownsRow.lt hOa j e.symm).1
        have h2 := HLl.out j hj
        omega))
      have HB2 : Hid (Below w0.heap.size w0 w2) := (HB1.out.alloc HB1.out.size _).grown hg2 (by have := HB1.out.size; simp; omega) (fun j hj => Nat.le_trans HM0.out (World.ownsRow.lt hOa j hj).1)
      have HM2 : Hid (M ≤ w2.heap.size) := by
        have h1 := hg2.size
        have h2 := HM1.out
        simp at h1
        show M ≤ w2.heap.size
        omega
      have HE2 : Hid ((N ++ [(a1, c1, turnL xs)]).map (fun p => p.2.2) = (ts.take (k + 1)).map (fun t => turnL t.2.2)) := by
        show _ = _
        rw [HST.out, List.map_append, HNE.out]
        rfl
      clear ho ho2 hg2 hOa al1 HO1 HG1 HT1 HL1 HB1 HM1
      go_wp2
      exact ⟨⟨k + 1, N ++ [(a1, c1, turnL xs)], by go_num, by omega, by simp; omega, HO2.out, HG2.out, HE2.out, HT2.out, HL2.out, HB2.out, HM2.out⟩, by simp [intOf]; omega⟩
    · obtain rfl : k = ts.length := by omega
      have hT' : Tws wr w0.heap.size (ts.map turnT) := by have := HT.out; rwa [turnTs_all] at this
      have hL' : wr.ownsRow w0.heap.size 22 1 (.slice al ts.length cl) (ts.map turnT).length ((ts.map turnT).map Tw.val) := by
        rw [← turnTs_all, turnTs_vals, turnTs_len]
        exact HL.out
      have hE' : (ts.map turnT).map (fun t => t.2.2) = N.map (fun p => p.2.2) := by
        rw [HNE.out, List.take_length, List.map_map]
        rfl
      have hNl : ts.length = N.length := by have := same_len hE'; simpa using this
      have hbN := body_same hE'
      have hbl : (bodyOf N).length ≤ 20000 := by
        rw [← hbN, body_turned, body_same HE.out, hBody]
        exact hb20
      obtain ⟨an, cn, hvn, hpn⟩ := pcs_of_row HO.out (Gat.ok HG.out)
      subst hvn
      obtain ⟨al', cl', hvl, hpl⟩ := hT'.pcs hL'
      have hal : al' = al := by
        simp only [Value.slice.injEq] at hvl
        exact hvl.1.symm
      subst hal
      have HF : Hid _ := fun w (h : Pcs w al' ((ts.map turnT).map Tw.pc)) => frame_any al' cl ((ts.map turnT).map Tw.pc) w h (by rw [hbN]; omega) (by simp; omega)
      rw [hbN, List.length_map, List.length_map] at HF
      have HYN : Hid (Byt (bodyOf N)) := body_byt hpn
      have HJ : Hid _ := fun w (h : Pcs w an N) => joined_any an cn N w h (by omega) (by omega)
      have hfl2 : (frameL (bodyOf N)).length ≤ maxLen := by rw [frame_len]; unfold maxLen; omega
      have HAll : Hid _ := fun w (h1 : Pcs w al' ((ts.map turnT).map Tw.pc)) (h2 : Pcs w an N) (h3 : Tws w w0.heap.size (ts.map turnT)) => allUn_any al' an cl cn w0.heap.size (ts.map turnT) N w h1 h2 h3 hE' (by omega) hbl
      rw [List.length_map] at HAll
      have HRF : Hid _ := fun a c w hx hn => refFrame_any a c (bodyOf N) w hx HYN.out hn (by omega)
      have HPl : Hid _ := hpl
      have HPn : Hid _ := hpn
      have HT' : Hid _ := hT'
      generalize bodyOf N = BN at HF HJ HRF hfl2 hbl
      generalize frameL BN = FN at HF HRF hfl2
      clear hT' hL' hE' hNl hbN hvl hpl hpn HO HG HNE HT HL HMw HTL HE HXl HGl HLl HMs HM0 HL6 HT6 HB6
      go_wp2_with fail
      refine (HF.out _ HPl.out).mono ?_
      rintro e w7 ⟨a7, c7, rfl, ho7, hb7⟩
      have HX7 : Hid (Bys w7 a7 FN) := row_bys ho7
      have HB7 : Hid (Below w0.heap.size w0 w7) := trans2 HB.out hb7
      have HPl7 : Hid _ := Pcs.below HPl.out hb7
      have HPn7 : Hid _ := Pcs.below HPn.out hb7
      have HT7 : Hid _ := Tws.below HT'.out hb7
      clear ho7 hb7 HPl HPn HT' HB HF
      go_wp2_with fail
      refine (HJ.out _ HPn7.out).mono ?_
      rintro e w8 ⟨a8, c8, rfl, ho8, hb8⟩
      have HX8 : Hid (Bys w8 a7 FN) := Bys.below HX7.out hb8
      have HB8 : Hid (Below w0.heap.size w0 w8) := trans2 HB7.out hb8
      have HPl8 : Hid _ := Pcs.below HPl7.out hb8
      have HPn8 : Hid _ := Pcs.below HPn7.out hb8
      have HT8 : Hid _ := Tws.below HT7.out hb8
      have HJ8 : Hid _ := ho8
      clear ho8 hb8 HPl7 HPn7 HT7 HB7 HX7 HJ
      go_wp2_with fail
      refine (HRF.out a8 c8 w8 (row_bys HJ8.out) (row_none' HJ8.out)).mono ?_
      rintro e w9 ⟨a9, c9, rfl, ho9, hb9⟩
      have HX9 : Hid (Bys w9 a7 FN) := Bys.below HX8.out hb9
      have HY9 : Hid (Bys w9 a9 FN) := row_bys ho9
      have HB9 : Hid (Below w0.heap.size w0 w9) := trans2 HB8.out hb9
      have HPl9 : Hid _ := Pcs.below HPl8.out hb9
      have HPn9 : Hid _ := Pcs.below HPn8.out hb9
      have HT9 : Hid _ := Tws.below HT8.out hb9
      clear ho9 hb9 HPl8 HPn8 HT8 HB8 HX8 HJ8 HRF
      go_wp2_with fail
      refine (same_any' HX9.out HY9.out hfl2).mono ?_
      rintro e w10 ⟨rfl, hb10⟩
      have HB10 : Hid (Below w0.heap.size w0 w10) := trans2 HB9.out hb10
      have HPl10 : Hid _ := Pcs.below HPl9.out hb10
      have HPn10 : Hid _ := Pcs.below HPn9.out hb10
      have HT10 : Hid _ := Tws.below HT9.out hb10
      clear hb10 HPl9 HPn9 HT9 HB9 HX9 HY9
      go_wp2_with (first | (go_at_call 21; go_in) | fail)
      refine (HAll.out _ HPl10.out HPn10.out HT10.out).mono ?_
      rintro e w11 ⟨rfl, hb11⟩
      have HB11 : Hid (Below w0.heap.size w0 w11) := trans2 HB10.out hb11
      clear hb11
      go_wp2
      go_ret
      exact ⟨rfl, HB11.out⟩

theorem frames_walk (a : Option Addr) (c : Nat) (ps : List Pc) (w : World) (h : Pcs w a ps) (hk : ps.length ≤ 9223372036854775807) (hm : ps.length ≤ 24 → (bodyOf ps).length ≤ 4611686018427387904) :
    Calls Try.prog 5 #[.slice a ps.length c] w fun e w' => e = .returned (.bool true) ∧ Below w.heap.size w w' := by
  by_cases hs : (bodyOf ps).length ≤ 20000 ∧ ps.length ≤ 24
  · exact frames_small a c ps w h hs
  · exact frames_big a c ps w h hk hm hs
end Go.Proofs.Ytdjibjmhjofedab
