/-
  PlaceTogether: the walk.
-/
import Derived.Test.YtblhenblibdjoacDoorLine
import Derived.Test.YtblhenblibdjoacDoorCovers
namespace Go.Proofs.YtblhenblibdjoacDoor
open Go.RowKit

theorem in_any (s : ByteArray) (w : World) (hg : Ground w) :
    Calls Tryd.prog 6 #[.string s] w fun e w' => e = .returned (.bool (isP s)) ∧ Below w.heap.size w w' := by
  have HG : Hid (Ground w) := hg
  obtain ⟨p, hp⟩ : ∃ p, p = parse s := ⟨_, rfl⟩
  unfold isP
  have HP : Hid (∀ w, Ground w → Calls Tryd.prog 17 #[.string s] w fun e w' => ∃ a c, e = .returned (.tuple #[.slice a p.2.length c, .int .i64 p.1]) ∧ Below w.heap.size w w') := fun w hg => by
    refine (parse_any s w hg).mono ?_
    rintro e w' ⟨a, c, h1, h2, h3⟩
    rw [hp]
    exact ⟨a, c, h1, h3⟩
  rw [← hp]
  clear hg hp
  go_enter Tryd.func6, Tryd.ntmps6
  go_wp2_with (first | (go_at_call 17; refine (HP.out _ HG.out).mono ?_; rintro e w1 ⟨a, c, rfl, hb⟩; have HB : Hid _ := hb; clear hb) | (go_at_call 12; go_in))
  go_ret
  exact ⟨rfl, HB.out⟩

theorem sg_pos {x y : Int} (h : sg x y ≤ 0) : x ≤ y := by
  rcases Int.lt_trichotomy x y with g | g | g
  · omega
  · omega
  · rw [sg_gt g] at h; omega

theorem ordL_pre : ∀ (a r : List UInt8), ordL a (a ++ r) ≤ 0
  | [], [] => by decide
  | [], _ :: _ => by show (-1 : Int) ≤ 0; decide
  | x :: a, r => by
    rw [List.cons_append, ordL, if_pos rfl]
    exact ordL_pre a r

theorem mid : ∀ (a b r : List UInt8), ordL a b ≤ 0 → ordL b (a ++ r) ≤ 0 → ∃ t, b = a ++ t ∧ ordL t r ≤ 0
  | [], b, r, _, h => ⟨b, rfl, h⟩
  | x :: a, [], r, h, _ => by
    exfalso
    have : ordL (x :: a) [] = 1 := rfl
    omega
  | x :: a, y :: b, r, h, g => by
    rw [List.cons_append] at g
    rw [ordL] at h g
    by_cases e : x.toNat = y.toNat
    · rw [if_pos e] at h
      rw [if_pos e.symm] at g
      obtain ⟨t, ht, h2⟩ := mid a b r h g
      exact ⟨t, by rw [ht, UInt8.toNat_inj.mp e]; rfl, h2⟩
    · rw [if_neg e] at h
      rw [if_neg (fun h => e h.symm)] at g
      have h1 := sg_pos h
      have h2 := sg_pos g
      exact absurd (rk_inj (by omega)) e

theorem slash_first (t r : List UInt8) (h : ordL t (47 :: r) ≤ 0) : t = [] ∨ ∃ t', t = 47 :: t' := by
  cases t with
  | nil => exact .inl rfl
  | cons y t =>
    right
    rw [ordL] at h
    by_cases e : y.toNat = (47 : UInt8).toNat
    · exact ⟨t, by rw [UInt8.toNat_inj.mp e]⟩
    · rw [if_neg e] at h
      have h1 := sg_pos h
      have h2 : rk 47 = -1 := by decide
      have h3 : (0 : Int) ≤ rk y := by
        unfold rk
        rw [if_neg (show ¬ y.toNat = 47 from e)]
        omega
      omega

theorem text_of {s : ByteArray} {xs : List ByteArray} (h : parse s = (0, xs)) (hne : xs ≠ []) : s.data.toList = flatN xs := by
  rw [← parse_back h, placeB, if_neg hne, data_mk]
theorem text_root {s : ByteArray} (h : parse s = (0, [])) : s.data.toList = [47] := by
  rw [← parse_back h]
  rfl

/-- c is a, or lies below it: its text is a's, and then nothing, or a slash (the root ends with its own). -/
theorem under_text {a c : ByteArray} {al cl : List ByteArray} (ha : parse a = (0, al)) (hc : parse c = (0, cl)) (h : Bel al cl) (hne : al ≠ []) : ∃ r, c.data.toList = a.data.toList ++ 47 :: r := by
  have hcn : cl ≠ [] := by rintro rfl; have := h.1; simp at this
  obtain ⟨r, hr⟩ := (pre_bel al cl (parse_len ha).2 (parse_len hc).2).2 h
  exact ⟨r, by rw [text_of hc hcn, text_of ha hne, ← hr]; simp⟩

theorem covers3 {a c : ByteArray} {al cl : List ByteArray} (ha : parse a = (0, al)) (hc : parse c = (0, cl)) : covers 3 a 1 c = (eqB c a || decide (Bel al cl)) := by
  have h1 : isP a = true := by simp [isP, ha]
  have h2 : isP c = true := by simp [isP, hc]
  have h3 : okC 1 = true := by decide
  have h4 : belB a c = decide (Bel al cl) := by simp [belB, ha, hc]
  simp [covers, h1, h2, h3, h4, cov]

theorem eqB_iff {a b : ByteArray} : eqB a b = true ↔ a = b := by
  unfold eqB
  rw [beq_iff_eq, ByteArray.toList_eq, ByteArray.toList_eq]
  constructor
  · intro h
    rw [← mk_data a, ← mk_data b, h]
  · intro h
    rw [h]

theorem under_le {a c : ByteArray} {al cl : List ByteArray} (ha : parse a = (0, al)) (hc : parse c = (0, cl)) (h : covers 3 a 1 c = true) : O a c ≤ 0 := by
  rw [covers3 ha hc, Bool.or_eq_true] at h
  rw [O_list]
  rcases h with h | h
  · rw [eqB_iff.1 h, ordL_self]
    exact Int.le_refl _
  · have hb : Bel al cl := by simpa using h
    have hcn : cl ≠ [] := by rintro rfl; have := hb.1; simp at this
    by_cases hne : al = []
    · subst hne
      rw [text_root ha, text_of hc hcn]
      rcases flat_head cl with h | ⟨t, h⟩
      · cases cl with
        | nil => exact absurd rfl hcn
        | cons x r => simp [flatN] at h
      · rw [h]
        exact ordL_pre [47] t
    · obtain ⟨r, hr⟩ := under_text ha hc hb hne
      rw [hr]
      exact ordL_pre _ _

theorem between {a b c : ByteArray} {al bl cl : List ByteArray} (ha : parse a = (0, al)) (hb : parse b = (0, bl)) (hc : parse c = (0, cl)) (h : covers 3 a 1 c = true) (h1 : O a b ≤ 0) (h2 : O b c ≤ 0) : covers 3 a 1 b = true := by
  rw [covers3 ha hc, Bool.or_eq_true] at h
  rw [covers3 ha hb, Bool.or_eq_true]
  by_cases hne : al = []
  · subst hne
    by_cases hbn : bl = []
    · subst hbn
      left
      rw [eqB_iff, ← parse_back ha, ← parse_back hb]
    · right
      rw [decide_eq_true_eq]
      exact ⟨by cases bl with | nil => exact absurd rfl hbn | cons x r => simp, rfl⟩
  rw [O_list] at h1 h2
  rcases h with h | h
  · left
    have hca := eqB_iff.1 h
    rw [hca] at h2
    rw [eqB_iff]
    have h3 := ordL_anti a.data.toList b.data.toList
    have h4 : O a b = 0 := by rw [O_list]; omega
    exact (O_zero h4).symm
  · have hbel : Bel al cl := by simpa using h
    obtain ⟨r, hr⟩ := under_text ha hc hbel hne
    rw [hr] at h2
    obtain ⟨t, ht, h3⟩ := mid _ _ _ h1 h2
    rcases slash_first t r h3 with rfl | ⟨t', rfl⟩
    · left
      rw [eqB_iff, ← mk_data a, ← mk_data b, ht, List.append_nil]
    · right
      rw [decide_eq_true_eq]
      have hbn : bl ≠ [] := by
        rintro rfl
        have h5 := text_root hb
        rw [ht] at h5
        have h6 := congrArg List.length h5
        have h7 : 1 ≤ a.data.toList.length := by
          rw [text_of ha hne]
          cases al with
          | nil => exact absurd rfl hne
          | cons x r => simp [flatN]
        simp at h6
        simp at h7
        omega
      rw [← pre_bel al bl (parse_len ha).2 (parse_len hb).2]
      exact ⟨t', by rw [← text_of ha hne, ← text_of hb hbn, ht]; simp⟩

theorem orderO_any (a b : ByteArray) (ha : a.size ≤ maxLen) (hb : b.size ≤ maxLen) (w : World) :
    Calls Tryd.prog 9 #[.string a, .string b] w fun e w' => e = .returned (.int .i64 (O a b)) ∧ Below w.heap.size w w' := by
  refine (order_O a b ha hb w).mono ?_
  rintro e w' ⟨he, m, rfl⟩
  exact ⟨he, below_drewN (Below.refl _ _) _⟩

theorem together_out (a b c : ByteArray) (h : isP a = false ∨ (isP a = true ∧ isP b = false) ∨ (isP a = true ∧ isP b = true ∧ isP c = false)) (w : World) (hg : Ground w) :
    Calls Tryd.prog 3 #[.string a, .string b, .string c] w fun e w' => e = .returned (.bool true) ∧ Below w.heap.size w w' := by
  have HG : Hid (Ground w) := hg
  have HA : Hid _ := in_any a
  have HB : Hid _ := in_any b
  have HC : Hid _ := in_any c
  have H1 : Hid (∀ w, Ground w → Calls Tryd.prog 6 #[.string ⟨#[47, 97, 47, 98]⟩] w fun e w' => e = .returned (.bool true) ∧ Below w.heap.size w w') := fun w hg => by
    have e : isP ⟨#[47, 97, 47, 98]⟩ = true := by decide +kernel
    have := in_any ⟨#[47, 97, 47, 98]⟩ w hg
    rw [e] at this
    exact this
  have H2 : Hid (∀ w, Ground w → Calls Tryd.prog 6 #[.string ⟨#[97]⟩] w fun e w' => e = .returned (.bool false) ∧ Below w.heap.size w w') := fun w hg => by
    have e : isP ⟨#[97]⟩ = false := by decide +kernel
    have := in_any ⟨#[97]⟩ w hg
    rw [e] at this
    exact this
  clear hg
  go_enter Tryd.func3, Tryd.ntmps3
  go_wp2_with fail
  refine (HA.out _ HG.out).mono ?_
  rcases h with h | ⟨h, h2⟩ | ⟨h, h2, h3⟩
  · rw [h]
    rintro e w1 ⟨rfl, hb1⟩
    have HB1 : Hid _ := hb1
    clear hb1 h
    go_wp2_with fail
    refine (known_any _ (HG.out.below HB1.out)).mono ?_
    rintro e w4 ⟨rfl, hb4⟩
    have HB4 : Hid _ := trans2 HB1.out hb4
    clear hb4
    go_wp2_with fail
    refine (H1.out _ (HG.out.below HB4.out)).mono ?_
    rintro e w5 ⟨rfl, hb5⟩
    have HB5 : Hid _ := trans2 HB4.out hb5
    clear hb5
    go_wp2_with fail
    refine (H2.out _ (HG.out.below HB5.out)).mono ?_
    rintro e w6 ⟨rfl, hb6⟩
    have HB6 : Hid _ := trans2 HB5.out hb6
    clear hb6
    go_wp2
    go_ret
    exact ⟨rfl, HB6.out⟩
  · rw [h]
    rintro e w1 ⟨rfl, hb1⟩
    have HB1 : Hid _ := hb1
    clear hb1 h
    go_wp2_with fail
    refine (HB.out _ (HG.out.below HB1.out)).mono ?_
    rw [h2]
    rintro e w2 ⟨rfl, hb2⟩
    have HB2 : Hid _ := trans2 HB1.out hb2
    clear hb2 h2
    go_wp2_with fail
    refine (known_any _ (HG.out.below HB2.out)).mono ?_
    rintro e w4 ⟨rfl, hb4⟩
    have HB4 : Hid _ := trans2 HB2.out hb4
    clear hb4
    go_wp2_with fail
    refine (H1.out _ (HG.out.below HB4.out)).mono ?_
    rintro e w5 ⟨rfl, hb5⟩
    have HB5 : Hid _ := trans2 HB4.out hb5
    clear hb5
    go_wp2_with fail
    refine (H2.out _ (HG.out.below HB5.out)).mono ?_
    rintro e w6 ⟨rfl, hb6⟩
    have HB6 : Hid _ := trans2 HB5.out hb6
    clear hb6
    go_wp2
    go_ret
    exact ⟨rfl, HB6.out⟩
  · rw [h]
    rintro e w1 ⟨rfl, hb1⟩
    have HB1 : Hid _ := hb1
    clear hb1 h
    go_wp2_with fail
    refine (HB.out _ (HG.out.below HB1.out)).mono ?_
    rw [h2]
    rintro e w2 ⟨rfl, hb2⟩
    have HB2 : Hid _ := trans2 HB1.out hb2
    clear hb2 h2
    go_wp2_with fail
    refine (HC.out _ (HG.out.below HB2.out)).mono ?_
    rw [h3]
    rintro e w3 ⟨rfl, hb3⟩
    have HB3 : Hid _ := trans2 HB2.out hb3
    clear hb3 h3
    go_wp2_with fail
    refine (known_any _ (HG.out.below HB3.out)).mono ?_
    rintro e w4 ⟨rfl, hb4⟩
    have HB4 : Hid _ := trans2 HB3.out hb4
    clear hb4
    go_wp2_with fail
    refine (H1.out _ (HG.out.below HB4.out)).mono ?_
    rintro e w5 ⟨rfl, hb5⟩
    have HB5 : Hid _ := trans2 HB4.out hb5
    clear hb5
    go_wp2_with fail
    refine (H2.out _ (HG.out.below HB5.out)).mono ?_
    rintro e w6 ⟨rfl, hb6⟩
    have HB6 : Hid _ := trans2 HB5.out hb6
    clear hb6
    go_wp2
    go_ret
    exact ⟨rfl, HB6.out⟩

set_option maxHeartbeats 1600000 in
theorem together_in {a b c : ByteArray} {al bl cl : List ByteArray} (ha : parse a = (0, al)) (hb : parse b = (0, bl)) (hc : parse c = (0, cl)) (sa : a.size ≤ maxLen) (sb : b.size ≤ maxLen) (sc : c.size ≤ maxLen) (w : World) (hg : Ground w) :
    Calls Tryd.prog 3 #[.string a, .string b, .string c] w fun e w' => e = .returned (.bool true) ∧ Below w.heap.size w w' := by
  have HG : Hid (Ground w) := hg
  have HA : Hid (∀ w, Ground w → Calls Tryd.prog 6 #[.string a] w fun e w' => e = .returned (.bool true) ∧ Below w.heap.size w w') := fun w hg => by
    have e : isP a = true := by simp [isP, ha]
    have := in_any a w hg
    rw [e] at this
    exact this
  have HB : Hid (∀ w, Ground w → Calls Tryd.prog 6 #[.string b] w fun e w' => e = .returned (.bool true) ∧ Below w.heap.size w w') := fun w hg => by
    have e : isP b = true := by simp [isP, hb]
    have := in_any b w hg
    rw [e] at this
    exact this
  have HC : Hid (∀ w, Ground w → Calls Tryd.prog 6 #[.string c] w fun e w' => e = .returned (.bool true) ∧ Below w.heap.size w w') := fun w hg => by
    have e : isP c = true := by simp [isP, hc]
    have := in_any c w hg
    rw [e] at this
    exact this
  have HV : Hid _ := covers_any 3 1 a c
  have HV2 : Hid _ := covers_any 3 1 a b
  have hle : covers 3 a 1 c = true → O a c ≤ 0 := under_le ha hc
  have hbt : covers 3 a 1 c = true → O a b ≤ 0 → O b c ≤ 0 → covers 3 a 1 b = true := between ha hb hc
  have HO1 : Hid _ := orderO_any a c sa sc
  have HO2 : Hid _ := orderO_any a b sa sb
  have HO3 : Hid _ := orderO_any b c sb sc
  have HLE : Hid _ := hle
  have HBT : Hid _ := hbt
  clear hg hle hbt ha hb hc sa sb sc
  go_enter Tryd.func3, Tryd.ntmps3
  go_wp2_with fail
  refine (HA.out _ HG.out).mono ?_
  rintro e w1 ⟨rfl, hb1⟩
  have HB1 : Hid _ := hb1
  clear hb1
  go_wp2_with fail
  refine (HB.out _ (HG.out.below HB1.out)).mono ?_
  rintro e w2 ⟨rfl, hb2⟩
  have HB2 : Hid _ := trans2 HB1.out hb2
  clear hb2
  go_wp2_with fail
  refine (HC.out _ (HG.out.below HB2.out)).mono ?_
  rintro e w3 ⟨rfl, hb3⟩
  have HB3 : Hid _ := trans2 HB2.out hb3
  clear hb3
  go_wp2_with fail
  refine (HV.out _ (HG.out.below HB3.out)).mono ?_
  cases hU : covers 3 a 1 c
  · rintro e w4 ⟨rfl, hb4⟩
    have HB4 : Hid _ := trans2 HB3.out hb4
    clear hb4 hU
    go_wp2_with fail
    refine (known_any _ (HG.out.below HB4.out)).mono ?_
    rintro e w5 ⟨rfl, hb5⟩
    have HB5 : Hid _ := trans2 HB4.out hb5
    clear hb5
    go_wp2
    go_ret
    exact ⟨rfl, HB5.out⟩
  · rintro e w4 ⟨rfl, hb4⟩
    have HB4 : Hid _ := trans2 HB3.out hb4
    have hl := HLE.out hU
    have HT := HBT.out hU
    have HTT : Hid _ := HT
    clear hb4 hU HT
    go_wp2_with fail
    refine (HO1.out _).mono ?_
    rintro e w5 ⟨rfl, hb5⟩
    have HB5 : Hid _ := trans2 HB4.out hb5
    clear hb5
    have hl' : ¬ 0 < O a c := by omega
    generalize O a c = x1 at *
    go_wp2_with fail
    refine (HO2.out _).mono ?_
    rintro e w6 ⟨rfl, hb6⟩
    have HB6 : Hid _ := trans2 HB5.out hb6
    clear hb6
    by_cases h1 : O a b ≤ 0
    · generalize O a b = x2 at *
      go_wp2_with fail
      refine (HO3.out _).mono ?_
      rintro e w7 ⟨rfl, hb7⟩
      have HB7 : Hid _ := trans2 HB6.out hb7
      clear hb7
      by_cases h2 : O b c ≤ 0
      · have hcv := HTT.out h1 h2
        generalize O b c = x3 at *
        go_wp2_with fail
        refine (HV2.out _ (HG.out.below HB7.out)).mono ?_
        rw [hcv]
        rintro e w8 ⟨rfl, hb8⟩
        have HB8 : Hid _ := trans2 HB7.out hb8
        clear hb8 hcv
        go_wp2_with fail
        refine (known_any _ (HG.out.below HB8.out)).mono ?_
        rintro e w9 ⟨rfl, hb9⟩
        have HB9 : Hid _ := trans2 HB8.out hb9
        clear hb9
        go_wp2
        go_ret
        exact ⟨rfl, HB9.out⟩
      · generalize O b c = x3 at *
        have h2' : decide (x3 ≤ 0) = false := by simpa using h2
        go_wp2_with fail
        refine (known_any _ (HG.out.below HB7.out)).mono ?_
        rintro e w9 ⟨rfl, hb9⟩
        have HB9 : Hid _ := trans2 HB7.out hb9
        clear hb9
        go_wp2
        go_ret
        exact ⟨rfl, HB9.out⟩
    · generalize O a b = x2 at *
      have h1' : decide (x2 ≤ 0) = false := by simpa using h1
      go_wp2_with fail
      refine (known_any _ (HG.out.below HB6.out)).mono ?_
      rintro e w9 ⟨rfl, hb9⟩
      have HB9 : Hid _ := trans2 HB6.out hb9
      clear hb9
      go_wp2
      go_ret
      exact ⟨rfl, HB9.out⟩

theorem together_walk (a b c : ByteArray) (sa : a.size ≤ maxLen) (sb : b.size ≤ maxLen) (sc : c.size ≤ maxLen) (w : World) (hg : Ground w) :
    Calls Tryd.prog 3 #[.string a, .string b, .string c] w fun e w' => e = .returned (.bool true) ∧ Below w.heap.size w w' := by
  cases ha : isP a
  · exact together_out a b c (.inl ha) w hg
  cases hb : isP b
  · exact together_out a b c (.inr (.inl ⟨ha, hb⟩)) w hg
  cases hc : isP c
  · exact together_out a b c (.inr (.inr ⟨ha, hb, hc⟩)) w hg
  obtain ⟨c1, al, h1⟩ : ∃ c1 xs, parse a = (c1, xs) := ⟨_, _, rfl⟩
  obtain ⟨c2, bl, h2⟩ : ∃ c1 xs, parse b = (c1, xs) := ⟨_, _, rfl⟩
  obtain ⟨c3, cl, h3⟩ : ∃ c1 xs, parse c = (c1, xs) := ⟨_, _, rfl⟩
  have e1 : c1 = 0 := by simpa [isP, h1] using ha
  have e2 : c2 = 0 := by simpa [isP, h2] using hb
  have e3 : c3 = 0 := by simpa [isP, h3] using hc
  subst e1 e2 e3
  exact together_in h1 h2 h3 sa sb sc w hg
end Go.Proofs.YtblhenblibdjoacDoor
