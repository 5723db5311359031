/-
  PlaceLoose: the walk.
-/
import Derived.Test.YtblhenblibdjoaaDoorLoosePure
import Derived.Test.YtblhenblibdjoaaDoorRowsy
namespace Go.Proofs.YtblhenblibdjoaaDoor
open Go.RowKit


theorem Ints.below {w w' : World} {a : Option Addr} {ms : List Int} (h : Ints w a ms) (hb : Below w.heap.size w w') : Ints w' a ms := by
  rcases h with h | ⟨b, o, ha, hlt, hs⟩
  · exact .inl h
  · refine .inr ⟨b, o, ha, Nat.lt_of_lt_of_le hlt hb.size, fun j x hx => ?_⟩
    rw [hb.cell (p := ⟨b, o + j, none⟩) hlt]
    exact hs j x hx

/-- What is laid out ahead of name k. -/
def Laid (ms : List Int) (xs : List ByteArray) (k : Nat) (P : List UInt8) : Prop :=
  P.length ≤ 32 * k ∧ ((k ≤ xs.length ∧ P ++ 47 :: looseR ms (xs.drop k) k = 47 :: looseR ms xs 0) ∨ (k = xs.length + 1 ∧ P = 47 :: looseR ms xs 0))

theorem Laid.start (ms : List Int) (xs : List ByteArray) : Laid ms xs 0 [] := ⟨by simp, .inl ⟨Nat.zero_le _, rfl⟩⟩
theorem Laid.next {ms : List Int} {xs : List ByteArray} {k : Nat} {P : List UInt8} {x : ByteArray} (h : Laid ms xs k P) (hx : xs[k]? = some x) (hs : x.size ≤ 16) : Laid ms xs (k + 1) (P ++ 47 :: (decor (ms.getD k 0) ++ x.data.toList)) := by
  have hk : k < xs.length := by
    rw [List.getElem?_eq_some_iff] at hx
    exact hx.1
  have e : xs.drop k = x :: xs.drop (k + 1) := by
    rw [List.drop_eq_getElem_cons hk]
    rw [List.getElem?_eq_getElem hk] at hx
    rw [Option.some.inj hx]
  have hd := decor_len (ms.getD k 0)
  have hxl : x.data.toList.length = x.size := by simp
  refine ⟨by have := h.1; simp only [List.length_append, List.length_cons]; omega, .inl ⟨hk, ?_⟩⟩
  rcases h.2 with ⟨_, h2⟩ | ⟨h2, _⟩
  · rw [e, looseR] at h2
    rw [← h2]
    simp
  · omega
theorem Laid.last {ms : List Int} {xs : List ByteArray} {P : List UInt8} (h : Laid ms xs xs.length P) : Laid ms xs (xs.length + 1) (P ++ 47 :: decor (ms.getD xs.length 0)) := by
  have hd := decor_len (ms.getD xs.length 0)
  refine ⟨by have := h.1; simp only [List.length_append, List.length_cons]; omega, .inr ⟨rfl, ?_⟩⟩
  rcases h.2 with ⟨_, h2⟩ | ⟨h2, _⟩
  · rw [List.drop_length] at h2
    exact h2
  · omega
theorem Laid.all {ms : List Int} {xs : List ByteArray} {P : List UInt8} (h : Laid ms xs (xs.length + 1) P) : P = 47 :: looseR ms xs 0 := by
  rcases h.2 with ⟨h2, _⟩ | ⟨_, h2⟩
  · omega
  · exact h2

theorem dec0 {m : Int} (h1 : m ≠ 1) (h2 : m ≠ 2) (h3 : m ≠ 3) (h4 : m ≠ 4) : decor m = [] := by simp [decor, h1, h2, h3, h4]
theorem app1 (P : List UInt8) (l : List UInt8) : mk P ++ ⟨#[47]⟩ ++ mk l = mk (P ++ 47 :: l) := by
  have h1 : mk P ++ ⟨#[47]⟩ = mk (P ++ [47]) := ByteArray.mk_append_mk P [47]
  have h2 : mk (P ++ [47]) ++ mk l = mk (P ++ [47] ++ l) := ByteArray.mk_append_mk _ _
  rw [h1, h2, List.append_assoc]
  rfl
theorem app0 (P : List UInt8) : mk P ++ ⟨#[47]⟩ = mk (P ++ 47 :: []) := ByteArray.mk_append_mk P [47]
theorem app2 (P l : List UInt8) (x : ByteArray) : mk (P ++ 47 :: l) ++ x = mk (P ++ 47 :: (l ++ x.data.toList)) := by
  conv => lhs; rw [← mk_data x]
  have := ByteArray.mk_append_mk (P ++ 47 :: l) x.data.toList
  rw [List.append_assoc] at this
  exact this

theorem fin_x {A x : ByteArray} {P l : List UInt8} {m : Int} (hA : A = mk P) (hd : decor m = l) : A ++ ⟨#[47]⟩ ++ mk l ++ x = mk (P ++ 47 :: (decor m ++ x.data.toList)) := by
  rw [hA, app1, app2, hd]
theorem fin_x0 {A x : ByteArray} {P : List UInt8} {m : Int} (hA : A = mk P) (hd : decor m = []) : A ++ ⟨#[47]⟩ ++ x = mk (P ++ 47 :: (decor m ++ x.data.toList)) := by
  rw [hA, app0, app2, hd]
theorem fin_e {A : ByteArray} {P l : List UInt8} {m : Int} (hA : A = mk P) (hd : decor m = l) : A ++ ⟨#[47]⟩ ++ mk l = mk (P ++ 47 :: decor m) := by
  rw [hA, app1, hd]
theorem fin_e0 {A : ByteArray} {P : List UInt8} {m : Int} (hA : A = mk P) (hd : decor m = []) : A ++ ⟨#[47]⟩ = mk (P ++ 47 :: decor m) := by
  rw [hA, app0, hd]

set_option maxHeartbeats 8000000 in
set_option maxRecDepth 100000 in
theorem loose_any (a am : Option Addr) (c cm : Nat) (xs : List ByteArray) (ms : List Int) (w : World) (hl : Lst w a xs) (hm : Ints w am ms) (hN : xs.length ≤ 6) (hall : xs.all isNm = true) :
    Calls Tryd.prog 16 #[.slice a xs.length c, .slice am ms.length cm] w fun e w' => e = .returned (.string (mk (47 :: looseR ms xs 0))) ∧ w' = w := by
  have HL : Hid _ := hl
  have HM : Hid _ := hm
  have HA : Hid _ := hall
  clear hl hm hall
  go_enter Tryd.func16, Tryd.ntmps16
  go_wp2
  go_loop [5, 6] (fun t i => ∃ (k : Nat) (A : ByteArray) (P : List UInt8), i = .int .i64 k ∧ t = .string A ∧ k ≤ xs.length + 1 ∧ Hid (A = mk P ∧ Laid ms xs k P)) (fun _ i => xs.length + 1 - (intOf i).toNat)
  case atStart => exact ⟨0, ⟨#[]⟩, [], rfl, rfl, by omega, rfl, Laid.start ms xs⟩
  case round =>
    obtain ⟨k, A, P, rfl, rfl, hk, HK⟩ := hrel
    have hAs : A.size ≤ 300 := by
      rw [HK.out.1, size_mk]
      have := HK.out.2.1
      omega
    by_cases hlt : k < xs.length
    · obtain ⟨x, hx⟩ : ∃ x, xs[k]? = some x := ⟨xs[k], List.getElem?_eq_getElem hlt⟩
      have hxs : x.size ≤ 16 := by
        have := HA.out
        rw [List.all_eq_true] at this
        have := this x (List.mem_of_getElem? hx)
        simp only [isNm, Bool.and_eq_true, decide_eq_true_eq] at this
        exact this.1.1.1.2
      have HN : Hid _ := Laid.next HK.out.2 hx hxs
      obtain ⟨b, o, hab, hcell⟩ : ∃ b o, a = some ⟨b, o, none⟩ ∧ w.cell? ⟨b, o + k, none⟩ = some (.string x) := by
        rcases HL.out with h | ⟨b, o, ha, _, hs⟩
        · rw [h] at hlt; simp at hlt
        · exact ⟨b, o, ha, hs k x hx⟩
      subst hab
      clear hx
      by_cases hkm : k < ms.length
      · skip
        obtain ⟨m, hm⟩ : ∃ m, ms.getD k 0 = m := ⟨_, rfl⟩
        rw [hm] at HN
        obtain ⟨bm, om, ham, hcm⟩ : ∃ bm om, am = some ⟨bm, om, none⟩ ∧ w.cell? ⟨bm, om + k, none⟩ = some (.int .i64 m) := by
          rcases HM.out with h | ⟨bm, om, ha, _, hs⟩
          · rw [h] at hkm; simp at hkm
          · refine ⟨bm, om, ha, hs k m ?_⟩
            rw [← hm, List.getD_eq_getElem?_getD, List.getElem?_eq_getElem hkm]
            rfl
        subst ham
        clear hm
        by_cases h1 : m = 1
        · subst h1
          have HE : Hid _ := fin_x (x := x) (m := 1) HK.out.1 rfl
          go_wp2
          go_round
          case rel => exact ⟨k + 1, _, _, by go_num, rfl, by omega, HE.out, HN.out⟩
          case measure => simp [intOf]; omega
        by_cases h2 : m = 2
        · subst h2
          have HE : Hid _ := fin_x (x := x) (m := 2) HK.out.1 rfl
          go_wp2
          go_round
          case rel => exact ⟨k + 1, _, _, by go_num, rfl, by omega, HE.out, HN.out⟩
          case measure => simp [intOf]; omega
        by_cases h3 : m = 3
        · subst h3
          have HE : Hid _ := fin_x (x := x) (m := 3) HK.out.1 rfl
          go_wp2
          go_round
          case rel => exact ⟨k + 1, _, _, by go_num, rfl, by omega, HE.out, HN.out⟩
          case measure => simp [intOf]; omega
        by_cases h4 : m = 4
        · subst h4
          have HE : Hid _ := fin_x (x := x) (m := 4) HK.out.1 rfl
          go_wp2
          go_round
          case rel => exact ⟨k + 1, _, _, by go_num, rfl, by omega, HE.out, HN.out⟩
          case measure => simp [intOf]; omega
        have e1 : (m == 1) = false := by simpa using h1
        have e2 : (m == 2) = false := by simpa using h2
        have e3 : (m == 3) = false := by simpa using h3
        have e4 : (m == 4) = false := by simpa using h4
        have HE : Hid _ := fin_x0 (x := x) HK.out.1 (dec0 h1 h2 h3 h4)
        clear h1 h2 h3 h4
        go_wp2
        go_round
        case rel => exact ⟨k + 1, _, _, by go_num, rfl, by omega, HE.out, HN.out⟩
        case measure => simp [intOf]; omega
      · skip
        have hm0 : ms.getD k 0 = 0 := by rw [List.getD_eq_getElem?_getD, List.getElem?_eq_none (by omega)]; rfl
        rw [hm0] at HN
        have HE : Hid _ := fin_x0 (x := x) (m := 0) HK.out.1 rfl
        have hkm' : ¬ ((k : Nat) : Int) < (ms.length : Int) := by omega
        clear hm0
        go_wp2
        go_round
        case rel => exact ⟨k + 1, _, _, by go_num, rfl, by omega, HE.out, HN.out⟩
        case measure => simp [intOf]; omega
    · by_cases hke : k = xs.length
      · subst hke
        have HN : Hid _ := Laid.last HK.out.2
        by_cases hkm : xs.length < ms.length
        · skip
          obtain ⟨m, hm⟩ : ∃ m, ms.getD xs.length 0 = m := ⟨_, rfl⟩
          rw [hm] at HN
          obtain ⟨bm, om, ham, hcm⟩ : ∃ bm om, am = some ⟨bm, om, none⟩ ∧ w.cell? ⟨bm, om + xs.length, none⟩ = some (.int .i64 m) := by
            rcases HM.out with h | ⟨bm, om, ha, _, hs⟩
            · rw [h] at hkm; simp at hkm
            · refine ⟨bm, om, ha, hs xs.length m ?_⟩
              rw [← hm, List.getD_eq_getElem?_getD, List.getElem?_eq_getElem hkm]
              rfl
          subst ham
          clear hm
          by_cases h1 : m = 1
          · subst h1
            have HE : Hid _ := fin_e (m := 1) HK.out.1 rfl
            go_wp2
            go_round
            case rel => exact ⟨xs.length + 1, _, _, by go_num, rfl, by omega, HE.out, HN.out⟩
            case measure => simp [intOf]
          by_cases h2 : m = 2
          · subst h2
            have HE : Hid _ := fin_e (m := 2) HK.out.1 rfl
            go_wp2
            go_round
            case rel => exact ⟨xs.length + 1, _, _, by go_num, rfl, by omega, HE.out, HN.out⟩
            case measure => simp [intOf]
          by_cases h3 : m = 3
          · subst h3
            have HE : Hid _ := fin_e (m := 3) HK.out.1 rfl
            go_wp2
            go_round
            case rel => exact ⟨xs.length + 1, _, _, by go_num, rfl, by omega, HE.out, HN.out⟩
            case measure => simp [intOf]
          by_cases h4 : m = 4
          · subst h4
            have HE : Hid _ := fin_e (m := 4) HK.out.1 rfl
            go_wp2
            go_round
            case rel => exact ⟨xs.length + 1, _, _, by go_num, rfl, by omega, HE.out, HN.out⟩
            case measure => simp [intOf]
          have e1 : (m == 1) = false := by simpa using h1
          have e2 : (m == 2) = false := by simpa using h2
          have e3 : (m == 3) = false := by simpa using h3
          have e4 : (m == 4) = false := by simpa using h4
          have HE : Hid _ := fin_e0 HK.out.1 (dec0 h1 h2 h3 h4)
          clear h1 h2 h3 h4
          go_wp2
          go_round
          case rel => exact ⟨xs.length + 1, _, _, by go_num, rfl, by omega, HE.out, HN.out⟩
          case measure => simp [intOf]
        · skip
          have hm0 : ms.getD xs.length 0 = 0 := by rw [List.getD_eq_getElem?_getD, List.getElem?_eq_none (by omega)]; rfl
          rw [hm0] at HN
          have HE : Hid _ := fin_e0 (m := 0) HK.out.1 rfl
          have hkm' : ¬ ((xs.length : Nat) : Int) < (ms.length : Int) := by omega
          clear hm0
          go_wp2
          go_round
          case rel => exact ⟨xs.length + 1, _, _, by go_num, rfl, by omega, HE.out, HN.out⟩
          case measure => simp [intOf]
      · obtain rfl : k = xs.length + 1 := by omega
        have hA : A = mk (47 :: looseR ms xs 0) := by rw [HK.out.1, Laid.all HK.out.2]
        have HAA : Hid _ := hA
        clear hA
        go_wp2
        go_ret
        exact ⟨by rw [← HAA.out]; rfl, rfl⟩

theorem clean_is {s : ByteArray} {F : Int} {U : ByteArray} (h : clean s = (F, U)) (w : World) (hg : Ground w) :
    Calls Tryd.prog 15 #[.string s] w fun e w' => e = .returned (.tuple #[.string U, .int .i64 F]) ∧ Below w.heap.size w w' := by
  have := clean_any s w hg
  rw [h] at this
  exact this
theorem parse_is {s : ByteArray} {code : Int} {xs : List ByteArray} (h : parse s = (code, xs)) (w : World) (hg : Ground w) :
    Calls Tryd.prog 9 #[.string s] w fun e w' => ∃ a c, e = .returned (.tuple #[.slice a xs.length c, .int .i64 code]) ∧ Lst w' a xs ∧ Below w.heap.size w w' := by
  refine (parse_any s w hg).mono ?_
  rintro e w' ⟨a, c, h1, h2, h3⟩
  rw [h] at h1 h2
  exact ⟨a, c, h1, h2.lst, h3⟩

set_option maxHeartbeats 8000000 in
set_option maxRecDepth 100000 in
theorem loose_walk (text any : ByteArray) (am : Option Addr) (cm : Nat) (ms : List Int) (w : World) (hm : Ints w am ms) (hg : Ground w) :
    Calls Tryd.prog 5 #[.string text, .slice am ms.length cm, .string any] w fun e w' => e = .returned (.bool true) ∧ Below w.heap.size w w' := by
  have HG : Hid (Ground w) := hg
  have HM : Hid _ := hm
  obtain ⟨code, xs, hp⟩ : ∃ code xs, parse text = (code, xs) := ⟨_, _, rfl⟩
  have hpl := parse_len hp
  have HP : Hid _ := parse_is hp
  have HPL : Hid _ := hpl
  clear hg hm
  by_cases hc : code = 0
  · subst hc
    have hcl0 : clean (mk (47 :: looseR ms xs 0)) = (0, text) := by
      rw [clean_loose HPL.out.1 HPL.out.2, parse_back hp]
    have HCL : Hid (clean (mk (47 :: looseR ms xs 0)) = (0, text)) := hcl0
    clear hcl0
    obtain ⟨L, hL⟩ : ∃ L, mk (47 :: looseR ms xs 0) = L := ⟨_, rfl⟩
    rw [hL] at HCL
    have HLL : Hid _ := hL
    have HC1 : Hid _ := clean_is HCL.out
    clear hp hpl hL
    go_enter Tryd.func5, Tryd.ntmps5
    go_wp2_with fail
    refine (HP.out _ HG.out).mono ?_
    rintro e w1 ⟨a, c, rfl, hl1, hb1⟩
    have HB1 : Hid _ := hb1
    have HLo : Hid (∀ c cm, Calls Tryd.prog 16 #[.slice a xs.length c, .slice am ms.length cm] w1 fun e w' => e = .returned (.string L) ∧ w' = w1) := fun c cm => by
      have := loose_any a am c cm xs ms w1 hl1 (Ints.below HM.out hb1) HPL.out.1 HPL.out.2
      rw [HLL.out] at this
      exact this
    clear hb1 hl1
    go_wp2_with (first | (go_at_call 11; go_in) | fail)
    refine (HLo.out _ _).mono ?_
    rintro e w2 ⟨rfl, rfl⟩
    go_wp2_with fail
    refine (HC1.out _ (HG.out.below HB1.out)).mono ?_
    rintro e w3 ⟨rfl, hb3⟩
    have HBx : Hid _ := trans2 HB1.out hb3
    clear hb3
    rcases clean_cases any with ⟨F, hF, hcl⟩ | ⟨st, hst, hall, hcl⟩
    · have HC2 : Hid _ := clean_is hcl
      have hF' : (F != 0) = true := by simpa using hF
      clear hcl
      go_wp2_with (first | (go_at_call 11; go_in) | fail)
      refine (HC2.out _ (HG.out.below HBx.out)).mono ?_
      rintro e v1 ⟨rfl, hc1⟩
      have HV1 : Hid _ := trans2 HBx.out hc1
      clear hc1
      go_wp2_with (first
        | (go_at_call 17; refine (known_any _ (HG.out.below HV1.out)).mono ?_; rintro e w8 ⟨rfl, hb8⟩; have HB8 : Hid _ := hb8; clear hb8)
        | (go_at_call 11; go_in))
      go_ret
      exact ⟨rfl, trans2 HV1.out HB8.out⟩
    · obtain ⟨U, hU⟩ : ∃ U, placeB st = U := ⟨_, rfl⟩
      rw [hU] at hcl
      have HC2 : Hid _ := clean_is hcl
      have HC3 : Hid _ := clean_is (show clean U = (0, U) by rw [← hU]; exact clean_place hst hall)
      have HP3 : Hid _ := parse_is (show parse U = (0, st) by rw [← hU]; exact parse_place hst hall)
      have hst' : (st.length : Int) ≤ 6 := by omega
      clear hcl hU
      go_wp2_with (first | (go_at_call 11; go_in) | fail)
      refine (HC2.out _ (HG.out.below HBx.out)).mono ?_
      rintro e v1 ⟨rfl, hc1⟩
      have HV1 : Hid _ := trans2 HBx.out hc1
      clear hc1
      go_wp2_with (first | (go_at_call 11; go_in) | fail)
      refine (HC3.out _ (HG.out.below HV1.out)).mono ?_
      rintro e v2 ⟨rfl, hc2⟩
      have HV2 : Hid _ := trans2 HV1.out hc2
      clear hc2
      go_wp2_with fail
      refine (HP3.out _ (HG.out.below HV2.out)).mono ?_
      rintro e v3 ⟨a3, c3, rfl, _, hc3⟩
      have HV3 : Hid _ := trans2 HV2.out hc3
      clear hc3
      go_wp2_with (first
        | (go_at_call 17; refine (known_any _ (HG.out.below HV3.out)).mono ?_; rintro e w8 ⟨rfl, hb8⟩; have HB8 : Hid _ := hb8; clear hb8)
        | (go_at_call 11; go_in))
      go_ret
      exact ⟨rfl, trans2 HV3.out HB8.out⟩
  · have hc0 : (code == 0) = false := by simpa using hc
    clear hp hpl
    go_enter Tryd.func5, Tryd.ntmps5
    go_wp2_with fail
    refine (HP.out _ HG.out).mono ?_
    rintro e w1 ⟨a, c, rfl, hl1, hb1⟩
    have HBx : Hid _ := hb1
    clear hb1 hl1
    rcases clean_cases any with ⟨F, hF, hcl⟩ | ⟨st, hst, hall, hcl⟩
    · have HC2 : Hid _ := clean_is hcl
      have hF' : (F != 0) = true := by simpa using hF
      clear hcl
      go_wp2_with (first | (go_at_call 11; go_in) | fail)
      refine (HC2.out _ (HG.out.below HBx.out)).mono ?_
      rintro e v1 ⟨rfl, hc1⟩
      have HV1 : Hid _ := trans2 HBx.out hc1
      clear hc1
      go_wp2_with (first
        | (go_at_call 17; refine (known_any _ (HG.out.below HV1.out)).mono ?_; rintro e w8 ⟨rfl, hb8⟩; have HB8 : Hid _ := hb8; clear hb8)
        | (go_at_call 11; go_in))
      go_ret
      exact ⟨rfl, trans2 HV1.out HB8.out⟩
    · obtain ⟨U, hU⟩ : ∃ U, placeB st = U := ⟨_, rfl⟩
      rw [hU] at hcl
      have HC2 : Hid _ := clean_is hcl
      have HC3 : Hid _ := clean_is (show clean U = (0, U) by rw [← hU]; exact clean_place hst hall)
      have HP3 : Hid _ := parse_is (show parse U = (0, st) by rw [← hU]; exact parse_place hst hall)
      have hst' : (st.length : Int) ≤ 6 := by omega
      clear hcl hU
      go_wp2_with (first | (go_at_call 11; go_in) | fail)
      refine (HC2.out _ (HG.out.below HBx.out)).mono ?_
      rintro e v1 ⟨rfl, hc1⟩
      have HV1 : Hid _ := trans2 HBx.out hc1
      clear hc1
      go_wp2_with (first | (go_at_call 11; go_in) | fail)
      refine (HC3.out _ (HG.out.below HV1.out)).mono ?_
      rintro e v2 ⟨rfl, hc2⟩
      have HV2 : Hid _ := trans2 HV1.out hc2
      clear hc2
      go_wp2_with fail
      refine (HP3.out _ (HG.out.below HV2.out)).mono ?_
      rintro e v3 ⟨a3, c3, rfl, _, hc3⟩
      have HV3 : Hid _ := trans2 HV2.out hc3
      clear hc3
      go_wp2_with (first
        | (go_at_call 17; refine (known_any _ (HG.out.below HV3.out)).mono ?_; rintro e w8 ⟨rfl, hb8⟩; have HB8 : Hid _ := hb8; clear hb8)
        | (go_at_call 11; go_in))
      go_ret
      exact ⟨rfl, trans2 HV3.out HB8.out⟩
end Go.Proofs.YtblhenblibdjoaaDoor
