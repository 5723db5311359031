/-
  heraldlaw9: TrieLeavesNothing.
-/
import Derived.Test.YtcoicoijllpgnaaGreatDoorXFit
namespace Go.Proofs.YtcoicoijllpgnaaGreatDoor
open Go.RowKit Go.Maps
set_option linter.unusedVariables false
set_option linter.unusedSimpArgs false

theorem La.gl {w wr : World} {K : Nat → Prop} {B : Nat} {vt : Value} {T : List On × List On} (h : La w wr K B vt T) (hg : Ground w) : Gl K ∧ Ground wr := by
  have h1 := hg.lt
  refine ⟨⟨fun e => ?_, fun e => ?_⟩, hg.below h.own.bel⟩
  · have := h.own.low _ e
    omega
  · have := h.own.low _ e
    omega
theorem La.os {w wr : World} {K : Nat → Prop} {B : Nat} {a : Option Addr} {n c : Nat} {T : List On × List On} (h : La w wr K B (.slice a n c) T) : OsAt wr a T.2 := by
  obtain ⟨a', c', e, ho⟩ := os_of_row h.row
  simp only [Value.slice.injEq] at e
  rw [e.1]
  exact ho
theorem siz_nil : sizO [] = 1 := rfl
set_option maxHeartbeats 64000000 in
set_option maxRecDepth 100000 in
theorem TrieLeavesNothing_walk (a : Option Addr) (c : Nat) (L : List On) (one : Bool) (w : World) (hL : OsAt w a L) (hlen : (L.length : Int) ≤ 9223372036854775807) (hwf : ∀ o ∈ L, wfI o.s) (hg : Ground w) :
    Calls Tryz.prog 6 #[.slice a L.length c, .bool one] w fun e w' => e = .returned (.bool true) ∧ Below w.heap.size w w' := by
  have HL : Hid (OsAt w a L) := hL
  have HG : Hid (Ground w) := hg
  have HWF : Hid (∀ o ∈ L, wfI o.s) := hwf
  obtain ⟨Tr9, Tk, hT⟩ : ∃ A B, laidR L = (A, B) := ⟨_, _, rfl⟩
  have HT : Hid (laidR L = (Tr9, Tk)) := hT
  have HPM : Hid (Tr9.Perm Tk) := by have := laid_perm L; rw [hT] at this; exact this
  have HFT : Hid (Fit Tk) := by have := laid_fit L; rw [hT] at this; exact this.perm HPM.out
  have HTW : Hid (∀ o ∈ Tk, wfI o.s) := fun o ho => hwf o (laid_sub L o (by rw [hT]; exact ho))
  have htl : Tk.length ≤ 60 := by
    have := laidJ_len L 60
    have e : laidJ L 60 = laidR L := rfl
    rw [e, hT] at this
    exact this.2
  clear hL hg hwf hT
  go_enter Tryz.func6, Tryz.ntmps6
  go_wp2_with fail
  refine (begins_any w HG.out).mono ?_
  rintro e w1 ⟨rfl, hb1⟩
  have HB1 : Hid (Below w.heap.size w w1) := hb1
  clear hb1
  go_wp2_with fail
  refine (laid_any a c L w1 (HL.out.below HB1.out) hlen HWF.out (HG.out.below HB1.out)).mono ?_
  rintro e w2 ⟨K, vt, rfl, hla⟩
  rw [HT.out] at hla
  have HG1 : Hid (Ground w1) := HG.out.below HB1.out
  obtain ⟨ta, tc, hvt⟩ := owns_shape hla.row
  subst hvt
  have HLA : Hid (La w1 w2 K w1.heap.size (.slice ta Tk.length tc) (Tr9, Tk)) := hla
  obtain ⟨m, hm⟩ : ∃ m, Tk.length = m := ⟨_, rfl⟩
  have HM : Hid (Tk.length = m) := hm
  simp only [hm] at HLA htl ⊢
  obtain ⟨B, hB⟩ : ∃ B, w1.heap.size = B := ⟨_, rfl⟩
  have HBB : Hid (w1.heap.size = B) := hB
  rw [hB] at HLA ⊢
  clear hla hm hB
  go_wp2_with fail
  go_loopw [8, 9] (fun vg vi wr => ∃ (j gone : Nat) (K : Nat → Prop) (Li : List On), vi = .int .i64 j ∧ vg = .int .i64 gone ∧ j ≤ m ∧ gone ≤ m ∧ Hid (Gn one Tk j Li gone) ∧ Hid (La w1 wr K B (.slice ta m tc) (Li, Tk))) (fun _ vi _ => m - (intOf vi).toNat)
  case atStart => exact ⟨0, 0, K, Tr9, rfl, rfl, Nat.zero_le _, Nat.zero_le _, Gn.start HPM.out, HLA.out⟩
  case round =>
    obtain ⟨j, gone, K, Li, rfl, rfl, hj, hgo, HGN, HA⟩ := hrel
    have hLi : Li.length ≤ 60 := by have h1 := HGN.out.len; have h2 := HM.out; omega
    by_cases hlt : j < m
    · have hlt' : (j : Int) < (m : Int) := by omega
      obtain ⟨x, hx⟩ : ∃ x, Tk[j]? = some x := ⟨Tk[j]'(by rw [HM.out]; exact hlt), List.getElem?_eq_getElem _⟩
      obtain ⟨b, o, rfl, x0, x1, x2, x3, x4⟩ := HA.out.os.at hx
      have hxw := HTW.out x (List.mem_of_getElem? hx)
      have HX : Hid (Tk[j]? = some x) := hx
      cases one with
      | true =>
        obtain ⟨hd0, hgn⟩ := HGN.out.drop HFT.out HA.out.own.at'.ord hx
        have HGN2 : Hid _ := hgn
        have HDR : Hid _ := fun m' => dropA (wr.drewN m') K B Li x.s x.i (HA.out.own.at'.below (below_drewN (Below.refl _ _) m')) ((HA.out.gl HG1.out).2.below (below_drewN (Below.refl _ _) m')) (by omega) hxw
        rw [hd0] at HDR
        have hgl2 : gone + 1 ≤ m := by have h1 := hgn.len; have h2 := HM.out; omega
        clear hx hd0 hgn
        go_wp2_with fail
        go_region_held3 (fun w' => w'.cell? ⟨b, o + j * 5, none⟩ = some (.int .i64 x.s) ∧ w'.cell? ⟨b, o + j * 5 + 1, none⟩ = some (.int .i64 x.i)) (first | go_keep | exact ⟨x0, x1⟩)
          (first
            | (go_at_call 18; refine (HDR.out 1).mono ?_; rintro e w3 ⟨rfl, K3, hA3, hE3⟩
               have HLA3 : Hid (La w1 w3 K3 B (.slice (some ⟨b, o, none⟩) m tc) (delO Li x.s x.i, Tk)) := (HA.out.below (below_drewN (Below.refl _ _) 1)).added hA3 hE3
               clear x0 x1 x2 x3 x4 hA3 hE3
               obtain ⟨b', o', e', x0, x1, x2, x3, x4⟩ := HLA3.out.os.at HX.out
               cases e'))
        go_wp2_with fail
        go_roundw
        case rel => exact ⟨j + 1, gone + 1, K3, _, by go_num, by go_num, by omega, hgl2, HGN2.out, HLA3.out⟩
        case measure => simp [intOf]; omega
      | false =>
        have hgn := HGN.out.forget hx
        have HGN2 : Hid _ := hgn
        have HFR : Hid _ := fun (w' : World) (hb : Below wr.heap.size wr w') => forgetA w' K B Li x.s (HA.out.own.at'.below hb) ((HA.out.gl HG1.out).2.below hb) (HA.out.gl HG1.out).1 (by omega) hxw
        obtain ⟨nn, hnn⟩ : ∃ nn, (ofO Li x.s).length = nn := ⟨_, rfl⟩
        rw [hnn] at HFR HGN2
        have hgl2 : gone + nn ≤ m := by have h1 := HGN2.out.len; have h2 := HM.out; omega
        clear hx hgn hnn
        go_wp2_with fail
        refine (HFR.out wr (Below.refl _ _)).mono ?_
        rintro e w3 ⟨rfl, K3, hA3, hE3⟩
        have HLA3 : Hid (La w1 w3 K3 B (.slice (some ⟨b, o, none⟩) m tc) (forO Li x.s, Tk)) := HA.out.added hA3 hE3
        clear x0 x1 x2 x3 x4 hA3 hE3
        go_wp2_with fail
        go_roundw
        case rel => exact ⟨j + 1, gone + nn, K3, _, by go_num, by go_num, by omega, hgl2, HGN2.out, HLA3.out⟩
        case measure => simp [intOf]; omega
    · have hge : ¬ ((j : Int) < (m : Int)) := by omega
      obtain rfl : j = m := by omega
      obtain ⟨hLi0, hgm⟩ : Li = [] ∧ gone = j := by
        have h1 := HGN.out
        rw [← HM.out] at h1
        have h2 := h1.fin
        rw [HM.out] at h2
        exact h2
      subst hLi0
      subst hgm
      clear HGN hlt hgo hLi
      go_wp2_with fail
      refine (walkA wr K B [] HA.out.own.at' (by simp)).mono ?_
      rintro e w4 ⟨v4, rfl, ho4, hb4⟩
      have hw0 : (walkO []).length = 0 := by rw [(walkO_perm HA.out.own.at').length_eq]; rfl
      rw [hw0] at ho4
      obtain ⟨va, vc, hv4⟩ := owns_shape ho4
      subst hv4
      have HA4 : Hid _ := HA.out.below hb4
      clear ho4 hb4 hw0
      go_wp2_with fail
      refine (sizeA w4 K B [] HA4.out.own.at' (by simp)).mono ?_
      rintro e w5 ⟨rfl, hb5⟩
      rw [siz_nil]
      have HA5 : Hid _ := HA4.out.below hb5
      clear hb5
      go_wp2_with fail
      go_loopw [13] (fun vi wq => ∃ (j : Nat) (K : Nat → Prop) (Lj : List On), vi = .int .i64 j ∧ j ≤ gone ∧ Hid (Lj.Perm (Tk.take j)) ∧ Hid (La w1 wq K B (.slice ta gone tc) (Lj, Tk))) (fun vi _ => gone - (intOf vi).toNat)
      case atStart => exact ⟨0, K, [], rfl, Nat.zero_le _, List.Perm.refl _, HA5.out⟩
      case round =>
        obtain ⟨j, K, Lj, rfl, hj, HPJ, HAj⟩ := hrel
        have hLj : Lj.length ≤ 60 := by
          have h1 := HPJ.out.length_eq
          rw [List.length_take] at h1
          omega
        by_cases hlt : j < gone
        · have hlt' : (j : Int) < (gone : Int) := by omega
          obtain ⟨x, hx⟩ : ∃ x, Tk[j]? = some x := ⟨Tk[j]'(by rw [HM.out]; exact hlt), List.getElem?_eq_getElem _⟩
          obtain ⟨b, o, rfl, x0, x1, x2, x3, x4⟩ := HAj.out.os.at hx
          have hxw := HTW.out x (List.mem_of_getElem? hx)
          have HX : Hid (Tk[j]? = some x) := hx
          have hno := fit_no HFT.out HPJ.out hx
          have hdc : dropC Lj x.s x.i = 90 := by unfold dropC; rw [hno]; rfl
          have HDR : Hid _ := fun m' => dropA (wr.drewN m') K B Lj x.s x.i (HAj.out.own.at'.below (below_drewN (Below.refl _ _) m')) ((HAj.out.gl HG1.out).2.below (below_drewN (Below.refl _ _) m')) (by omega) hxw
          rw [hdc, delO_none hno] at HDR
          have HAC : Hid (addC Lj x = 0) := fit_add HFT.out HPJ.out hx
          clear hx hno hdc
          go_wp2_with fail
          go_region_held3 (fun w' => w'.cell? ⟨b, o + j * 5, none⟩ = some (.int .i64 x.s) ∧ w'.cell? ⟨b, o + j * 5 + 1, none⟩ = some (.int .i64 x.i)) (first | go_keep | exact ⟨x0, x1⟩)
            (first
              | (go_at_call 18; refine (HDR.out 1).mono ?_; rintro e w6 ⟨rfl, K6, hA6, hE6⟩
                 have HA6 : Hid (La w1 w6 K6 B (.slice (some ⟨b, o, none⟩) gone tc) (Lj, Tk)) := (HAj.out.below (below_drewN (Below.refl _ _) 1)).added hA6 hE6
                 clear x0 x1 x2 x3 x4 hA6 hE6
                 obtain ⟨b', o', e', x0, x1, x2, x3, x4⟩ := HA6.out.os.at HX.out
                 cases e'))
          have HAD : Hid _ := fun m' => addA (w6.drewN m') K6 B Lj x (HA6.out.own.at'.below (below_drewN (Below.refl _ _) m')) ((HA6.out.gl HG1.out).2.below (below_drewN (Below.refl _ _) m')) (by omega) hxw
          rw [HAC.out] at HAD
          go_wp2_with fail
          go_region_held3 (fun w' => w'.cell? ⟨b, o + j * 5, none⟩ = some (.int .i64 x.s) ∧ w'.cell? ⟨b, o + j * 5 + 1, none⟩ = some (.int .i64 x.i) ∧ w'.cell? ⟨b, o + j * 5 + 2, none⟩ = some (.string x.p) ∧ w'.cell? ⟨b, o + j * 5 + 3, none⟩ = some (.int .i64 x.k) ∧ w'.cell? ⟨b, o + j * 5 + 4, none⟩ = some (.int .i64 x.f)) (first | go_keep | exact ⟨x0, x1, x2, x3, x4⟩)
            (first
              | (go_at_call 15; refine (HAD.out 1).mono ?_; rintro e w7 ⟨rfl, K7, hA7, hE7⟩
                 have HA7 : Hid (La w1 w7 K7 B (.slice (some ⟨b, o, none⟩) gone tc) (insO x Lj, Tk)) := (HA6.out.below (below_drewN (Below.refl _ _) 1)).added hA7 hE7
                 clear x0 x1 x2 x3 x4 hA7 hE7
                 obtain ⟨b', o', e', x0, x1, x2, x3, x4⟩ := HA7.out.os.at HX.out
                 cases e'))
          go_wp2_with fail
          go_roundw
          case rel =>
            refine ⟨j + 1, K7, insO x Lj, by go_num, by omega, ?_, HA7.out⟩
            show List.Perm _ _
            rw [take_atX HX.out]
            exact (insO_perm x Lj).trans (HPJ.out.append (List.Perm.refl _))
          case measure => simp [intOf]; omega
        · have hge : ¬ ((j : Int) < (gone : Int)) := by omega
          have HPT : Hid (Lj.Perm Tk) := by
            have h1 := HPJ.out
            rw [List.take_of_length_le (by have := HM.out; omega)] at h1
            exact h1
          have HLD : Hid (Calls Tryz.prog 9 #[.slice ta gone tc] wr fun e w' => ∃ K vt, e = .returned (.tuple #[ndV wr.heap.size, vt]) ∧ La wr w' K wr.heap.size vt (laidR Tk)) := by
            have h1 := laid_any ta tc Tk wr HAj.out.os (by have := HM.out; omega) HTW.out (HAj.out.gl HG1.out).2
            rw [HM.out] at h1
            exact h1
          go_wp2_with fail
          refine Calls.mono HLD.out ?_
          rintro e w8 ⟨K8, vt8, rfl, hl8⟩
          obtain ⟨hl2, hlp⟩ := laid_all HFT.out (by have := HM.out; omega)
          have hsame := ord_same HAj.out.own.at'.ord hl8.own.at'.ord (HPT.out.trans hlp.symm)
          obtain ⟨Bu, hBu⟩ : ∃ Bu, wr.heap.size = Bu := ⟨_, rfl⟩
          have HAT : Hid (At w8 K B Lj) := HAj.out.own.at'.below hl8.own.bel
          have HAU : Hid (At w8 K8 Bu Lj) := by have h1 := hl8.own.at'; rw [← hsame, hBu] at h1; exact h1
          have HOS : Hid (OsAt w8 ta Tk) := HAj.out.os.below hl8.own.bel
          have HG8 : Hid (Ground w8) := (HAj.out.gl HG1.out).2.below hl8.own.bel
          have HB8 : Hid (Below w.heap.size w w8) := xtrans2 HB1.out (xtrans2 HAj.out.own.bel hl8.own.bel)
          obtain ⟨ua, uc, hv8⟩ := owns_shape hl8.row
          rw [hl2, HM.out] at hv8
          subst hv8
          rw [hBu]
          have HAL : Hid (Calls Tryz.prog 20 #[ndV B, ndV Bu, .slice ta gone tc, .int .i64 9, .slice (some ⟨w8.heap.size, 0, none⟩) 3 3] (w8.alloc (.cells #[.string ⟨#[47]⟩, .string ⟨#[47, 97]⟩, .string ⟨#[47, 97, 47, 98]⟩] 9)) fun e w' => e = .returned (.bool true) ∧ Below (w8.alloc (.cells #[.string ⟨#[47]⟩, .string ⟨#[47, 97]⟩, .string ⟨#[47, 97, 47, 98]⟩] 9)).heap.size (w8.alloc (.cells #[.string ⟨#[47]⟩, .string ⟨#[47, 97]⟩, .string ⟨#[47, 97, 47, 98]⟩] 9)) w') := by
            have hb9 : Below w8.heap.size w8 (w8.alloc (.cells #[.string ⟨#[47]⟩, .string ⟨#[47, 97]⟩, .string ⟨#[47, 97, 47, 98]⟩] 9)) := (Below.refl _ _).alloc (Nat.le_refl _) _
            have h1 := alikeA _ K K8 B Bu Lj ta tc Tk 9 (some ⟨w8.heap.size, 0, none⟩) 3 [⟨#[47]⟩, ⟨#[47, 97]⟩, ⟨#[47, 97, 47, 98]⟩] (HAT.out.below hb9) (HAU.out.below hb9) (HG8.out.below hb9) (by omega) (HOS.out.below hb9) (by have := HM.out; omega) HTW.out (.inr ⟨_, 0, rfl, by simp, fun j x hx => ?_⟩) (by simp)
            · rw [HM.out] at h1
              exact h1
            · rw [cell_blkX (heap_alloc_new _ _), Nat.zero_add]
              match j, hx with
              | 0, hx => cases hx; rfl
              | 1, hx => cases hx; rfl
              | 2, hx => cases hx; rfl
              | j + 3, hx => simp at hx
          clear hl8 hl2 hlp hsame hBu
          go_wp2_with fail
          refine Calls.mono HAL.out ?_
          rintro e w9 ⟨rfl, hb9⟩
          have HB9 : Hid (Below w.heap.size w w9) := xtrans2 (xtrans2 HB8.out ((Below.refl _ _).alloc (Nat.le_refl _) _)) hb9
          clear hb9
          go_wp2_with fail
          go_ret
          exact ⟨rfl, HB9.out⟩
end Go.Proofs.YtcoicoijllpgnaaGreatDoor
