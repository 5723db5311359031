/-
  heraldref1.Clean by a contract.
-/
import Derived.Test.YtblhenblibdjoabDoorClean
import Derived.Test.YtblhenblibdjoabDoorRefOf
namespace Go.Proofs.YtblhenblibdjoabDoor
open Go.RowKit

set_option maxHeartbeats 8000000 in
set_option maxRecDepth 100000 in
theorem refClean_slash (s : ByteArray) (l : List UInt8) (hl : s.data.toList = 47 :: l) (h0 : ¬ 65536 < s.size) (w : World) :
    Calls Tryd.prog 9 #[.string s] w fun e w' => e = .returned (.tuple #[.string (clean s).2, .int .i64 (clean s).1]) ∧ Below w.heap.size w w' := by
  obtain ⟨i0, hi, hz0, hz1, hz2⟩ := info_parts Tryd.info9'
  have d0 : decide ((65536 : Int) < (s.size : Int)) = false := by simp; omega
  have hcl := clean_yes h0 hl
  obtain ⟨xs, hxs⟩ : ∃ xs, cutB (mk l) = xs := ⟨_, rfl⟩
  rw [hxs] at hcl
  have HCL : Hid _ := hcl
  have HPc : Hid (∀ w, Calls Tryd.prog 26 #[.string s] w fun e w' =>
      ∃ b o c, e = .returned (.slice (some ⟨b, o, none⟩) xs.length c) ∧ b < w'.heap.size ∧ Strs w' b o xs ∧ (xs.length ≤ c ∧ c ≤ maxLen) ∧ Below w.heap.size w w') := fun w => by
    rw [← hxs]
    exact pieces_some s l hl (by omega) w
  have hne : ¬ s.toList = [] := by rw [ByteArray.toList_eq, hl]; simp
  have hne' : s.toList.isEmpty = false := by rw [ByteArray.toList_eq, hl]; rfl
  have hpos : 0 < s.size := by
    have : s.data.toList.length = l.length + 1 := by rw [hl]; rfl
    simp at this
    omega
  have hpos' : (0 : Int) < (s.size : Int) := by omega
  have hfst : s[0].toNat = 47 := by
    have h : s[0] = s.data.toList[0]'(by simpa using hpos) := rfl
    rw [h]
    simp [hl]
  obtain ⟨n0, hn0⟩ : ∃ n : Nat, s[0].toNat = n := ⟨_, rfl⟩
  have hn2 : ((n0 : Int) != 47) = false := by rw [hn0] at hfst; simp [hfst]
  clear hfst
  have hlen : xs.length ≤ 65537 := by
    rw [← hxs, cutB_mk, List.length_map, cutL_length]
    have h1 := List.count_le_length (a := 47) (l := l)
    have h2 : s.data.toList.length = l.length + 1 := by rw [hl]; rfl
    simp at h2
    omega
  clear hl hxs h0 hcl
  go_enter Tryd.func9, Tryd.ntmps9
  go_wp2_with fail
  refine (HPc.out _).mono ?_
  rintro e W ⟨b, o, cc, rfl, hbl, hst, _, hbw⟩
  have HST : Hid _ := hst
  have HBW : Hid _ := hbw
  clear hst hbw HPc
  clear hne hne' hpos hpos' hn0 hn2
  go_wp2
  go_loopw [5, 6] (fun v i wr => ∃ (k : Nat) (st : List ByteArray), i = .int .i64 k ∧ k ≤ xs.length ∧ wr.ownsRow W.heap.size 9 1 v st.length (st.map Value.string) ∧ Below W.heap.size W wr ∧ Hid (At xs k st)) (fun _ i _ => xs.length - (intOf i).toNat)
  case atStart => exact ⟨0, [], rfl, Nat.zero_le _, World.ownsRow_nil _ _ _ _, Below.refl _ _, At.start xs⟩
  case round =>
    obtain ⟨k, st, rfl, hk, hown, hbel, HA⟩ := hrel
    have hst : st.length ≤ 65537 := by have := HA.out.2.2; omega
    by_cases hlt : k < xs.length
    · obtain ⟨x, hx⟩ : ∃ x, xs[k]? = some x := ⟨xs[k], List.getElem?_eq_getElem hlt⟩
      have hcell : wr.cell? ⟨b, o + k, none⟩ = some (.string x) := by
        rw [hbel.cell (p := ⟨b, o + k, none⟩) hbl]
        exact HST.out k x hx
      have HX : Hid _ := hx
      clear hx
      by_cases hE : x.toList = []
      · have HN : Hid _ := At.next HA.out HX.out (step_none (.inl hE)) HA.out.2.1 (by have := HA.out.2.2; omega)
        go_wp2
        go_roundw
        case rel => exact ⟨k + 1, st, by go_num, by omega, hown, hbel, HN.out⟩
        case measure => simp [intOf]; omega
      have hE' : x.toList.isEmpty = false := by simpa using hE
      by_cases hD : x.toList = [46]
      · have HN : Hid _ := At.next HA.out HX.out (step_none (.inr hD)) HA.out.2.1 (by have := HA.out.2.2; omega)
        clear hE hE'
        go_wp2
        go_roundw
        case rel => exact ⟨k + 1, st, by go_num, by omega, hown, hbel, HN.out⟩
        case measure => simp [intOf]; omega
      have hD' : (x.toList == [46]) = false := by simpa using hD
      by_cases hDD : x.toList = [46, 46]
      · clear hE hE' hD hD'
        by_cases hse : st = []
        · have HF : Hid (clean s = (10, ⟨#[]⟩)) := by
            have := HCL.out
            rw [At.fail HA.out HX.out (by rw [step_up hDD, if_pos hse])] at this
            exact this
          subst hse
          rcases hown.2 with ⟨rfl, _⟩ | ⟨g, cap, cur, rfl, _⟩
          · go_wp2
            go_ret2
            exact ⟨by rw [HF.out]; rfl, HBW.out.trans (hbel.mono HBW.out.size)⟩
          · simp only [List.length_nil]
            go_wp2
            go_ret2
            exact ⟨by rw [HF.out]; rfl, HBW.out.trans (hbel.mono HBW.out.size)⟩
        · obtain ⟨m, hm⟩ : ∃ m, st.length = m + 1 := ⟨st.length - 1, by cases st with | nil => exact absurd rfl hse | cons y ys => simp⟩
          have hdl : st.dropLast.length = m := by rw [List.length_dropLast]; omega
          have HN : Hid _ := At.next HA.out HX.out (show step x st = some st.dropLast by rw [step_up hDD, if_neg hse]) (all_dropLast HA.out.2.1) (by have := HA.out.2.2; omega)
          rcases hown.2 with ⟨_, h0⟩ | ⟨g, cap, cur, rfl, _, _, hncap, hcapm, _, _⟩
          · omega
          have hsplit : st.map Value.string = st.dropLast.map Value.string ++ [.string (st.getLast hse)] := by
            conv => lhs; rw [← List.dropLast_concat_getLast hse]
            simp
          have hpop : wr.ownsRow W.heap.size 9 1 (.slice (some ⟨g, 0, none⟩) m cap) st.dropLast.length (st.dropLast.map Value.string) := by
            rw [hdl]
            refine ownsRow_pop (last := [.string (st.getLast hse)]) (by simp; omega) ?_
            rw [← hsplit, ← hm]
            exact hown
          have HPOP : Hid _ := hpop
          have hcap2 : m + 1 ≤ cap := by omega
          have hcap3 : cap ≤ 9223372036854775807 := by unfold maxLen at hcapm; omega
          have hm0 : ((m : Int) + 1 == 0) = false := by simp; omega
          clear hown hpop hsplit hse hncap hcapm hdl HA
          go_wp2
          go_roundw
          case rel => exact ⟨k + 1, _, by go_num, by omega, HPOP.out, hbel, HN.out⟩
          case measure => simp [intOf]; omega
      have hDD' : (x.toList == [46, 46]) = false := by simpa using hDD
      have hstep := step_name (st := st) hE hD hDD
      cases hnm : isNm x
      · have HF : Hid (clean s = (10, ⟨#[]⟩)) := by
          have := HCL.out
          rw [At.fail HA.out HX.out (by rw [hstep, hnm]; rfl)] at this
          exact this
        clear hstep
        go_wp2_with (first | (go_at_call 27; refine (nameOf_any _ _).mono ?_; rw [hnm]; rintro e w8 ⟨rfl, rfl⟩))
        go_ret2
        exact ⟨by rw [HF.out]; rfl, HBW.out.trans (hbel.mono HBW.out.size)⟩
      · have HN : Hid _ := At.next HA.out HX.out (show step x st = some (st ++ [x]) by rw [hstep, if_pos hnm]) (by rw [List.all_append, HA.out.2.1]; simp [hnm]) (by have := HA.out.2.2; simp; omega)
        have hbs := hbel.size
        clear hstep
        go_wp2_with (first
          | (go_at_call 27; refine (nameOf_any _ _).mono ?_; rw [hnm]; rintro e w8 ⟨rfl, rfl⟩)
          | (at_builtin; refine wpList_append_own _ rfl _ _ 37 rfl W.heap.size 9 i0 (.string ByteArray.empty) 1 16 Tryd.underlying37 hi hz0 hz1 hz2 rfl (by decide) _ _ _ rfl (hown.alloc _) ⟨_, 0, none⟩ 1 1 [.string x] rfl rfl (cell_one_new _ _ _) (fun x hx => by simp at hx; subst hx; rfl) (by unfold maxLen; omega) (by omega) (by simp; omega) ?_; intro v' w1 hown' hgrow _))
        have R := rel_app' hbs hown hbel hown' hgrow
        go_roundw
        case rel => exact ⟨k + 1, st ++ [x], by go_num, by omega, R.1, R.2, HN.out⟩
        case measure => simp [intOf]; omega
    · obtain rfl : k = xs.length := by omega
      have hdone := At.done HA.out
      have hclean := HCL.out
      rw [hdone] at hclean
      simp only at hclean
      obtain ⟨a, c, hv, hL, hcap⟩ := lst_of_owns hown
      subst hv
      by_cases h6 : 6 < st.length
      · rw [if_pos h6] at hclean
        have HF : Hid _ := hclean
        have h6' : (6 : Int) < (st.length : Int) := by omega
        clear hclean hdone hown hL hcap
        go_wp2
        go_ret2
        exact ⟨by rw [HF.out]; rfl, HBW.out.trans (hbel.mono HBW.out.size)⟩
      · rw [if_neg h6] at hclean
        have HF : Hid _ := hclean
        have h6' : ¬ (6 : Int) < (st.length : Int) := by omega
        have HO : Hid _ := of_any a c st wr hL (by omega) HA.out.2.1
        clear hclean hdone hown hL hcap
        go_wp2_with fail
        refine Calls.mono HO.out ?_
        rintro e w9 ⟨rfl, rfl⟩
        go_wp2
        go_ret2
        exact ⟨by rw [HF.out]; rfl, HBW.out.trans (hbel.mono HBW.out.size)⟩


theorem refClean_any (s : ByteArray) (w : World) :
    Calls Tryd.prog 9 #[.string s] w fun e w' => e = .returned (.tuple #[.string (clean s).2, .int .i64 (clean s).1]) ∧ Below w.heap.size w w' := by
  by_cases h0 : 65536 < s.size
  · have e1 : clean s = (2, ⟨#[]⟩) := by rw [clean, if_pos h0]
    have HF : Hid _ := e1
    have h0' : (65536 : Int) < (s.size : Int) := by omega
    clear e1 h0
    go_enter Tryd.func9, Tryd.ntmps9
    go_wp2
    go_ret2
    exact ⟨by rw [HF.out]; rfl, Below.refl _ _⟩
  have d0 : decide ((65536 : Int) < (s.size : Int)) = false := by simp; omega
  by_cases h2 : ∃ l, s.data.toList = 47 :: l
  · obtain ⟨l, hl⟩ := h2
    exact refClean_slash s l hl h0 w
  · have h2' : ∀ l, s.data.toList ≠ 47 :: l := fun l e => h2 ⟨l, e⟩
    have HF : Hid _ := clean_no h0 h2'
    cases hd : s.data.toList with
    | nil =>
      have he : s.toList = [] := by rw [ByteArray.toList_eq, hd]
      clear h2 h2' hd h0
      go_enter Tryd.func9, Tryd.ntmps9
      go_wp2
      go_ret2
      exact ⟨by rw [HF.out]; rfl, Below.refl _ _⟩
    | cons b l =>
      have hb : b ≠ 47 := fun e => h2' l (by rw [hd, e])
      have hne : ¬ s.toList = [] := by rw [ByteArray.toList_eq, hd]; simp
      have hne' : s.toList.isEmpty = false := by rw [ByteArray.toList_eq, hd]; rfl
      have hpos : 0 < s.size := by
        have : s.data.toList.length = l.length + 1 := by rw [hd]; rfl
        simp at this
        omega
      have hpos' : (0 : Int) < (s.size : Int) := by omega
      have hfst : s[0] = b := by
        have h : s[0] = s.data.toList[0]'(by simpa using hpos) := rfl
        rw [h]
        simp [hd]
      obtain ⟨n, hn⟩ : ∃ n : Nat, s[0].toNat = n := ⟨_, rfl⟩
      have hn2 : ((n : Int) != 47) = true := by
        rw [hfst] at hn
        have : n ≠ 47 := fun e => hb (UInt8.toNat_inj.mp (hn.trans e))
        simp
        omega
      clear hfst h2 h2' hd hb h0
      go_enter Tryd.func9, Tryd.ntmps9
      go_wp2
      go_ret2
      exact ⟨by rw [HF.out]; rfl, Below.refl _ _⟩

theorem cleans_walk (s : ByteArray) (w : World) (hg : Ground w) :
    Calls Tryd.prog 3 #[.string s] w fun e w' => e = .returned (.bool true) ∧ Below w.heap.size w w' := by
  have HG : Hid (Ground w) := hg
  obtain ⟨F, U, hc⟩ : ∃ F U, clean s = (F, U) := ⟨_, _, rfl⟩
  have H1 : Hid _ := refClean_any s
  have H2 : Hid _ := clean_any s
  rw [hc] at H1 H2
  clear hg hc
  go_enter Tryd.func3, Tryd.ntmps3
  go_wp2_with fail
  refine (H1.out _).mono ?_
  rintro e w1 ⟨rfl, hb1⟩
  have HB1 : Hid _ := hb1
  clear hb1
  go_wp2_with fail
  refine (H2.out _ (HG.out.below HB1.out)).mono ?_
  rintro e w2 ⟨rfl, hb2⟩
  have HB2 : Hid _ := trans2 HB1.out hb2
  clear hb2
  go_wp2_with (first
    | (go_at_call 12; refine (known_any _ (HG.out.below HB2.out)).mono ?_; rintro e w8 ⟨rfl, hb8⟩; have HB8 : Hid _ := hb8; clear hb8)
    | (go_at_call 11; go_in))
  go_ret
  exact ⟨rfl, trans2 HB2.out HB8.out⟩
end Go.Proofs.YtblhenblibdjoabDoor
