/-
  PlaceBack: the walk.
-/
import Derived.Test.YtblhenblibdjoabDoorJoin
import Derived.Test.YtblhenblibdjoabDoorLoosePure
import Derived.Test.YtblhenblibdjoabDoorNameP
namespace Go.Proofs.YtblhenblibdjoabDoor
open Go.RowKit

theorem join_is {base : ByteArray} {ns : List ByteArray} {F : Int} {U : ByteArray} (h : join base ns = (F, U)) (a : Option Addr) (c : Nat) (w : World) (hg : Ground w) (hl : Lst w a ns) (hn : a = none → c = 0) (hm : ns.length ≤ 9223372036854775807) :
    Calls Tryd.prog 23 #[.string base, .slice a ns.length c] w fun e w' => e = .returned (.tuple #[.string U, .int .i64 F]) ∧ Below w.heap.size w w' := by
  have := join_any base a c ns w hg hl hn hm
  rw [h] at this
  exact this
theorem clean_isB {s : ByteArray} {F : Int} {U : ByteArray} (h : clean s = (F, U)) (w : World) (hg : Ground w) :
    Calls Tryd.prog 10 #[.string s] w fun e w' => e = .returned (.tuple #[.string U, .int .i64 F]) ∧ Below w.heap.size w w' := by
  have := clean_any s w hg
  rw [h] at this
  exact this
theorem parse_isB {s : ByteArray} {code : Int} {xs : List ByteArray} (h : parse s = (code, xs)) (w : World) (hg : Ground w) :
    Calls Tryd.prog 19 #[.string s] w fun e w' => ∃ a c, e = .returned (.tuple #[.slice a xs.length c, .int .i64 code]) ∧ Lst w' a xs ∧ (a = none → c = 0) ∧ ((xs = [] ∧ a = none ∧ c = 0) ∨ (xs ≠ [] ∧ ∃ b, a = some ⟨b, 0, none⟩ ∧ c = xs.length)) ∧ Below w.heap.size w w' := by
  refine (parse_any s w hg).mono ?_
  rintro e w' ⟨a, c, h1, h2, h3⟩
  rw [h] at h1 h2
  refine ⟨a, c, h1, h2.lst, ?_, ?_, h3⟩
  · rcases h2 with ⟨_, _, hc⟩ | ⟨_, b, hb, _⟩
    · exact fun _ => hc
    · rw [hb]; intro h; cases h
  · rcases h2 with ⟨h0, ha, hc⟩ | ⟨hne, b, hb, hc, _⟩
    · exact .inl ⟨h0, ha, hc⟩
    · exact .inr ⟨hne, b, hb, hc⟩

theorem join_root {xs : List ByteArray} (hN : xs.length ≤ 6) (hall : xs.all isNm = true) : join ⟨#[47]⟩ xs = (0, placeB xs) := by
  have hp : parse ⟨#[47]⟩ = (0, []) := by rfl
  simp [join, hp, hN, hall]
theorem join_up {xs ns : List ByteArray} {s : ByteArray} (hp : parse s = (0, xs)) (hN : xs.length + ns.length ≤ 6) (hall : ns.all isNm = true) : join s ns = (0, placeB (xs ++ ns)) := by
  simp [join, hp, hN, hall]
/-- What Join below a place answers: an error and nothing, or a place that Parse knows. -/
theorem join_cases {s : ByteArray} {xs : List ByteArray} (hp : parse s = (0, xs)) (ns : List ByteArray) : (∃ F : Int, F ≠ 0 ∧ join s ns = (F, ⟨#[]⟩)) ∨ (join s ns = (0, placeB (xs ++ ns)) ∧ parse (placeB (xs ++ ns)) = (0, xs ++ ns)) := by
  by_cases h : xs.length + ns.length ≤ 6 ∧ ns.all isNm = true
  · right
    refine ⟨join_up hp h.1 h.2, parse_place (by simpa using h.1) ?_⟩
    rw [List.all_append, (parse_len hp).2, h.2]
    rfl
  · left
    refine ⟨10, by decide, ?_⟩
    simp only [join, hp]
    rw [if_neg (by simp), if_neg h]

theorem back_err {text : ByteArray} {code : Int} (hp : parse text = (code, [])) (hc : code ≠ 0) (a : Option Addr) (c n : Nat) (w : World) (hg : Ground w) :
    Calls Tryd.prog 8 #[.string text, .slice a n c] w fun e w' => e = .returned (.bool true) ∧ Below w.heap.size w w' := by
  have HG : Hid (Ground w) := hg
  have HP : Hid _ := parse_none hp
  have hc' : (code != 0) = true := by simpa using hc
  clear hg hp
  go_enter Tryd.func8, Tryd.ntmps8
  go_wp2_with fail
  refine (HP.out _ HG.out).mono ?_
  rintro e w1 ⟨rfl, hb1⟩
  have HB1 : Hid _ := hb1
  clear hb1
  go_wp2_with (first
    | (go_at_call 12; refine (known_any _ (HG.out.below HB1.out)).mono ?_; rintro e w8 ⟨rfl, hb8⟩; have HB8 : Hid _ := hb8; clear hb8)
    | (go_at_call 11; go_in))
  go_ret
  exact ⟨rfl, trans2 HB1.out HB8.out⟩

theorem lst_pre {w : World} {b : Nat} {xs ns : List ByteArray} (h : Lst w (some ⟨b, 0, none⟩) (xs ++ ns)) : Lst w (some ⟨b, 0, none⟩) xs := by
  rcases h with h | ⟨b', o', ha, hlt, hs⟩
  · exact .inl (List.append_eq_nil_iff.1 h).1
  · refine .inr ⟨b', o', ha, hlt, fun j x hx => hs j x ?_⟩
    have hj : j < xs.length := by
      rw [List.getElem?_eq_some_iff] at hx
      exact hx.1
    rw [List.getElem?_append_left hj]
    exact hx
theorem lst_post {w : World} {b n : Nat} {xs ns : List ByteArray} (h : Lst w (some ⟨b, 0, none⟩) (xs ++ ns)) (hn : n = xs.length) : Lst w (some ⟨b, n, none⟩) ns := by
  subst hn
  rcases h with h | ⟨b', o', ha, hlt, hs⟩
  · exact .inl (List.append_eq_nil_iff.1 h).2
  · have e := Option.some.inj ha
    simp only [Addr.mk.injEq, and_true] at e
    obtain ⟨rfl, rfl⟩ := e
    refine .inr ⟨b, xs.length, rfl, hlt, fun j x hx => ?_⟩
    have := hs (xs.length + j) x (by rw [List.getElem?_append_right (by omega)]; rw [show xs.length + j - xs.length = j by omega]; exact hx)
    rwa [Nat.zero_add] at this

set_option maxHeartbeats 8000000 in
set_option maxRecDepth 100000 in
theorem back_good {text : ByteArray} {xs : List ByteArray} (hp : parse text = (0, xs)) (a : Option Addr) (c : Nat) (ns : List ByteArray) (w : World) (hl : Lst w a ns) (hn : a = none → c = 0) (hm : ns.length ≤ 9223372036854775807) (hg : Ground w) :
    Calls Tryd.prog 8 #[.string text, .slice a ns.length c] w fun e w' => e = .returned (.bool true) ∧ Below w.heap.size w w' := by
  have HG : Hid (Ground w) := hg
  have hx := parse_len hp
  have hx6 : xs.length ≤ 6 := hx.1
  have hback := parse_back hp
  have HL : Hid _ := hl
  have HP : Hid _ := parse_isB hp
  have HJ0 : Hid (join ⟨#[47]⟩ xs = (0, text)) := (join_root hx.1 hx.2).trans (by rw [hback])
  have HC0 : Hid (∀ w, Ground w → Calls Tryd.prog 10 #[.string text] w fun e w' => e = .returned (.tuple #[.string text, .int .i64 0]) ∧ Below w.heap.size w w') := fun w hg => clean_isB (by rw [← hback]; exact clean_place hx.1 hx.2) w hg
  have HX : Hid _ := hx
  have HPP : Hid _ := hp
  clear hg hl hp hback hx
  go_enter Tryd.func8, Tryd.ntmps8
  go_wp2_with fail
  refine (HP.out _ HG.out).mono ?_
  rintro e w1 ⟨a1, c1, rfl, hl1, hn1, hs1, hb1⟩
  have HB1 : Hid _ := hb1
  have HL1 : Hid _ := hl1
  clear hb1 hl1
  go_wp2_with (first | (go_at_call 11; go_in) | fail)
  refine (join_is HJ0.out a1 c1 _ (HG.out.below HB1.out) HL1.out hn1 (by omega)).mono ?_
  rintro e w2 ⟨rfl, hb2⟩
  have HB2 : Hid _ := trans2 HB1.out hb2
  have HL2 : Hid _ := Lst.below HL1.out hb2
  clear hb2
  go_wp2_with fail
  refine (HC0.out _ (HG.out.below HB2.out)).mono ?_
  rintro e w3 ⟨rfl, hb3⟩
  have HB3 : Hid _ := trans2 HB2.out hb3
  have HL3 : Hid _ := Lst.below HL2.out hb3
  clear hb3
  by_cases hxe : xs = []
  · subst hxe
    have HBx : Hid _ := HB3.out
    have HLx : Hid (Lst w3 a1 []) := (show Lst w3 a1 [] from HL3.out)
    simp only [List.length_nil]
    rcases join_cases HPP.out ns with ⟨F, hF, hj⟩ | ⟨hj, hpj⟩
    · have hF' : (F != 0) = true := by simpa using hF
      go_wp2_with (first | (go_at_call 11; go_in) | fail)
      refine (join_is hj a c _ (HG.out.below HBx.out) (Lst.below (show Lst w a ns from HL.out) HBx.out) hn hm).mono ?_
      rintro e v1 ⟨rfl, hc1⟩
      have HV1 : Hid _ := trans2 HBx.out hc1
      clear hc1
      go_wp2_with (first
        | (go_at_call 12; refine (known_any _ (HG.out.below HV1.out)).mono ?_; rintro e w8 ⟨rfl, hb8⟩; have HB8 : Hid _ := hb8; clear hb8)
        | (go_at_call 11; go_in))
      go_ret
      exact ⟨rfl, trans2 HV1.out HB8.out⟩
    · obtain ⟨U, hU⟩ : ∃ U, placeB (([] : List ByteArray) ++ ns) = U := ⟨_, rfl⟩
      rw [hU] at hj hpj
      have HPJ : Hid _ := parse_isB hpj
      have hlen6 := (parse_len hpj).1
      have hadd : (([] : List ByteArray) ++ ns).length = ([] : List ByteArray).length + ns.length := List.length_append
      go_wp2_with (first | (go_at_call 11; go_in) | fail)
      refine (join_is hj a c _ (HG.out.below HBx.out) (Lst.below (show Lst w a ns from HL.out) HBx.out) hn hm).mono ?_
      rintro e v1 ⟨rfl, hc1⟩
      have HV1 : Hid _ := trans2 HBx.out hc1
      have HLx1 : Hid (Lst v1 a1 ([] : List ByteArray)) := Lst.below (show Lst _ a1 ([] : List ByteArray) from HLx.out) hc1
      clear hc1 hj hpj hU
      go_wp2_with (first | (go_at_call 11; go_in) | fail)
      refine (HPJ.out _ (HG.out.below HV1.out)).mono ?_
      rintro e v2 ⟨a3, c3, rfl, hl3, hn3, hs3, hc2⟩
      have HV2 : Hid _ := trans2 HV1.out hc2
      have HLx2 : Hid (Lst v2 a1 ([] : List ByteArray)) := Lst.below (show Lst _ a1 ([] : List ByteArray) from HLx1.out) hc2
      have HLn2 : Hid (Lst v2 a ns) := Lst.below (show Lst w a ns from HL.out) HV2.out
      have HL3 : Hid (Lst v2 a3 (([] : List ByteArray) ++ ns)) := hl3
      clear hc2 hl3
      rw [hadd] at hlen6 ⊢
      clear hadd
      rcases hs3 with ⟨h0, rfl, rfl⟩ | ⟨h0, b3, rfl, rfl⟩
      · have hne0 : ns = [] := (List.append_eq_nil_iff.1 h0).2
        subst hne0
        simp only [List.length_nil, Nat.add_zero]
        go_wp2_with (first | (go_at_call 11; go_in) | fail)
        refine (texts_same none a1 _ _ [] _ (.inl rfl) (.inl rfl) (by decide)).mono ?_
        rintro e v3 ⟨rfl, m, rfl⟩
        go_wp2_with fail
        refine (texts_same none a _ _ [] _ (.inl rfl) (.inl rfl) (by decide)).mono ?_
        rintro e v4 ⟨rfl, m2, rfl⟩
        go_wp2_with (first | (go_at_call 12; refine (known_any _ (HG.out.below (by first | exact below_drewN HV2.out _ | exact below_drewN (below_drewN HV2.out _) _))).mono ?_; rintro e w8 ⟨rfl, hb8⟩; have HB8 : Hid _ := hb8; clear hb8))
        go_ret
        exact ⟨rfl, by first | exact trans2 (below_drewN HV2.out _) HB8.out | exact trans2 (below_drewN (below_drewN HV2.out _) _) HB8.out⟩
      · go_wp2_with (first | (go_at_call 11; go_in) | fail)
        refine (texts_same (some ⟨b3, 0, none⟩) a1 _ _ ([] : List ByteArray) _ (lst_pre HL3.out) HLx2.out (by simp; try omega)).mono ?_
        rintro e v3 ⟨rfl, m, rfl⟩
        go_wp2_with fail
        refine (texts_same (some ⟨b3, 0, none⟩) a _ _ ns _ (Lst.below (lst_post HL3.out rfl) (below_drewN (Below.refl _ _) _)) (Lst.below (show Lst v2 a ns from HLn2.out) (below_drewN (Below.refl _ _) _)) (by omega)).mono ?_
        rintro e v4 ⟨rfl, m2, rfl⟩
        go_wp2_with (first | (go_at_call 12; refine (known_any _ (HG.out.below (by first | exact below_drewN HV2.out _ | exact below_drewN (below_drewN HV2.out _) _))).mono ?_; rintro e w8 ⟨rfl, hb8⟩; have HB8 : Hid _ := hb8; clear hb8))
        go_ret
        exact ⟨rfl, by first | exact trans2 (below_drewN HV2.out _) HB8.out | exact trans2 (below_drewN (below_drewN HV2.out _) _) HB8.out⟩
  · obtain ⟨k, hk⟩ : ∃ k, xs.length = k + 1 := ⟨xs.length - 1, by cases xs with | nil => exact absurd rfl hxe | cons y ys => simp⟩
    obtain ⟨x, hxk⟩ : ∃ x, xs[k]? = some x := ⟨xs[k], List.getElem?_eq_getElem (by omega)⟩
    have hxs : xs = xs.take k ++ [x] := by
      have := List.take_add_one (l := xs) (i := k)
      rw [hxk, ← hk, List.take_length] at this
      exact this
    have hxn : isNm x = true := by
      have := HX.out.2
      rw [List.all_eq_true] at this
      exact this x (List.mem_of_getElem? hxk)
    obtain ⟨up, hup⟩ : ∃ up, placeB (xs.take k) = up := ⟨_, rfl⟩
    have hpu : parse up = (0, xs.take k) := by
      rw [← hup]
      exact parse_place (by rw [List.length_take]; omega) (all_take HX.out.2 k)
    have HJ2 : Hid (join up [x] = (0, text)) := by
      have h1 := join_up (ns := [x]) hpu (by rw [List.length_take]; simp; omega) (by simp [hxn])
      rw [← hxs, parse_back HPP.out] at h1
      exact h1
    have HPa : Hid (∀ w, Ground w → Calls Tryd.prog 17 #[.string text] w fun e w' => e = .returned (.tuple #[.string up, .int .i64 0]) ∧ Below w.heap.size w w') := fun w hg => by
      rw [← hup]
      exact parent_some HPP.out k hk w hg
    have HNa : Hid _ := name_some HPP.out k hk x hxk
    rcases hs1 with ⟨h0, _⟩ | ⟨_, b1, rfl, rfl⟩
    · exact absurd h0 hxe
    have hpos : (0 : Int) < (xs.length : Int) := by omega
    have hsub : IntKind.i64.wrap ((xs.length : Int) - 1) = (k : Int) := by rw [IntKind.wrap_i64]; omega
    clear hxs hxn hup hpu
    go_wp2_with (first | (go_at_call 11; go_in) | fail)
    refine (HPa.out _ (HG.out.below HB3.out)).mono ?_
    rintro e w4 ⟨rfl, hb4⟩
    have HB4 : Hid _ := trans2 HB3.out hb4
    have HL4 : Hid (Lst w4 (some ⟨b1, 0, none⟩) xs) := Lst.below (show Lst w3 (some ⟨b1, 0, none⟩) xs from HL3.out) hb4
    clear hb4
    go_wp2_with fail
    refine (HNa.out _ (HG.out.below HB4.out)).mono ?_
    rintro e w5 ⟨rfl, hb5⟩
    have HB5 : Hid _ := trans2 HB4.out hb5
    have HL5 : Hid (Lst w5 (some ⟨b1, 0, none⟩) xs) := Lst.below (show Lst w4 (some ⟨b1, 0, none⟩) xs from HL4.out) hb5
    clear hb5
    go_wp2_with fail
    refine (join_is HJ2.out (some ⟨w5.heap.size, 0, none⟩) 1 _ (HG.out.below (HB5.out.alloc HB5.out.size _)) (.inr ⟨_, 0, rfl, by simp, strs_new w5 [x]⟩) (fun h => by cases h) (by simp)).mono ?_
    rintro e w6 ⟨rfl, hb6⟩
    have HBx : Hid (Below w.heap.size w w6) := trans2 (HB5.out.alloc HB5.out.size _) hb6
    have HLx : Hid (Lst w6 (some ⟨b1, 0, none⟩) xs) := Lst.below (Lst.below (show Lst w5 (some ⟨b1, 0, none⟩) xs from HL5.out) ((Below.refl _ _).alloc (Nat.le_refl _) _)) hb6
    have hcell : w6.cell? ⟨b1, k, none⟩ = some (.string x) := by
      rcases HLx.out with h | ⟨b', o', ha, _, hs⟩
      · exact absurd h hxe
      · have e := Option.some.inj ha
        simp only [Addr.mk.injEq, and_true] at e
        obtain ⟨rfl, rfl⟩ := e
        have := hs k x hxk
        rwa [Nat.zero_add] at this
    clear hb6
    rcases join_cases HPP.out ns with ⟨F, hF, hj⟩ | ⟨hj, hpj⟩
    · have hF' : (F != 0) = true := by simpa using hF
      go_wp2_with (first | (go_at_call 11; go_in) | fail)
      refine (join_is hj a c _ (HG.out.below HBx.out) (Lst.below (show Lst w a ns from HL.out) HBx.out) hn hm).mono ?_
      rintro e v1 ⟨rfl, hc1⟩
      have HV1 : Hid _ := trans2 HBx.out hc1
      clear hc1
      go_wp2_with (first
        | (go_at_call 12; refine (known_any _ (HG.out.below HV1.out)).mono ?_; rintro e w8 ⟨rfl, hb8⟩; have HB8 : Hid _ := hb8; clear hb8)
        | (go_at_call 11; go_in))
      go_ret
      exact ⟨rfl, trans2 HV1.out HB8.out⟩
    · obtain ⟨U, hU⟩ : ∃ U, placeB (xs ++ ns) = U := ⟨_, rfl⟩
      rw [hU] at hj hpj
      have HPJ : Hid _ := parse_isB hpj
      have hlen6 := (parse_len hpj).1
      have hadd : (xs ++ ns).length = xs.length + ns.length := List.length_append
      go_wp2_with (first | (go_at_call 11; go_in) | fail)
      refine (join_is hj a c _ (HG.out.below HBx.out) (Lst.below (show Lst w a ns from HL.out) HBx.out) hn hm).mono ?_
      rintro e v1 ⟨rfl, hc1⟩
      have HV1 : Hid _ := trans2 HBx.out hc1
      have HLx1 : Hid (Lst v1 (some ⟨b1, 0, none⟩) xs) := Lst.below (show Lst _ (some ⟨b1, 0, none⟩) xs from HLx.out) hc1
      clear hc1 hj hpj hU
      go_wp2_with (first | (go_at_call 11; go_in) | fail)
      refine (HPJ.out _ (HG.out.below HV1.out)).mono ?_
      rintro e v2 ⟨a3, c3, rfl, hl3, hn3, hs3, hc2⟩
      have HV2 : Hid _ := trans2 HV1.out hc2
      have HLx2 : Hid (Lst v2 (some ⟨b1, 0, none⟩) xs) := Lst.below (show Lst _ (some ⟨b1, 0, none⟩) xs from HLx1.out) hc2
      have HLn2 : Hid (Lst v2 a ns) := Lst.below (show Lst w a ns from HL.out) HV2.out
      have HL3 : Hid (Lst v2 a3 (xs ++ ns)) := hl3
      clear hc2 hl3
      rw [hadd] at hlen6 ⊢
      clear hadd
      rcases hs3 with ⟨h0, rfl, rfl⟩ | ⟨h0, b3, rfl, rfl⟩
      · exact absurd (List.append_eq_nil_iff.1 h0).1 hxe
      · go_wp2_with (first | (go_at_call 11; go_in) | fail)
        have HT1 : Hid (∀ c c', Calls Tryd.prog 20 #[.slice (some ⟨b3, 0, none⟩) (k + 1) c, .slice (some ⟨b1, 0, none⟩) (k + 1) c'] v2 fun e w' => e = .returned (.bool true) ∧ ∃ m, w' = v2.drewN m) := fun c c' => by
          have := texts_same (some ⟨b3, 0, none⟩) (some ⟨b1, 0, none⟩) c c' xs v2 (lst_pre HL3.out) HLx2.out (by omega)
          rw [hk] at this
          exact this
        refine (HT1.out _ _).mono ?_
        rintro e v3 ⟨rfl, m, rfl⟩
        go_wp2_with fail
        · refine (texts_same (some ⟨b3, 0, none⟩) a _ _ [] _ (.inl rfl) (.inl rfl) (by decide)).mono ?_
          rintro e v4 ⟨rfl, m2, rfl⟩
          go_wp2_with (first | (go_at_call 12; refine (known_any _ (HG.out.below (by first | exact below_drewN HV2.out _ | exact below_drewN (below_drewN HV2.out _) _))).mono ?_; rintro e w8 ⟨rfl, hb8⟩; have HB8 : Hid _ := hb8; clear hb8))
          go_ret
          exact ⟨rfl, by first | exact trans2 (below_drewN HV2.out _) HB8.out | exact trans2 (below_drewN (below_drewN HV2.out _) _) HB8.out⟩
        · refine (texts_same (some ⟨b3, k + 1, none⟩) a _ _ ns _ (Lst.below (lst_post HL3.out hk.symm) (below_drewN (Below.refl _ _) _)) (Lst.below (show Lst v2 a ns from HLn2.out) (below_drewN (Below.refl _ _) _)) (by omega)).mono ?_
          rintro e v4 ⟨rfl, m2, rfl⟩
          go_wp2_with (first | (go_at_call 12; refine (known_any _ (HG.out.below (by first | exact below_drewN HV2.out _ | exact below_drewN (below_drewN HV2.out _) _))).mono ?_; rintro e w8 ⟨rfl, hb8⟩; have HB8 : Hid _ := hb8; clear hb8))
          go_ret
          exact ⟨rfl, by first | exact trans2 (below_drewN HV2.out _) HB8.out | exact trans2 (below_drewN (below_drewN HV2.out _) _) HB8.out⟩

theorem back_walk (text : ByteArray) (a : Option Addr) (c : Nat) (ns : List ByteArray) (w : World) (hl : Lst w a ns) (hn : a = none → c = 0) (hm : ns.length ≤ maxLen) (hg : Ground w) :
    Calls Tryd.prog 8 #[.string text, .slice a ns.length c] w fun e w' => e = .returned (.bool true) ∧ Below w.heap.size w w' := by
  obtain ⟨code, xs, hp⟩ : ∃ code xs, parse text = (code, xs) := ⟨_, _, rfl⟩
  by_cases hc : code = 0
  · subst hc
    exact back_good hp a c ns w hl hn (by unfold maxLen at hm; omega) hg
  · have hx := parse_code hp hc
    subst hx
    exact back_err hp hc a c _ w hg
end Go.Proofs.YtblhenblibdjoabDoor
