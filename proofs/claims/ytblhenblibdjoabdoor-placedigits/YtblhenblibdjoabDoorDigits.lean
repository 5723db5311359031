/-
  PlaceDigits: the walk.
-/
import Derived.Test.YtblhenblibdjoabDoorCounted
import Derived.Test.YtblhenblibdjoabDoorLine
import Derived.Test.YtblhenblibdjoabDoorWay
import Derived.Test.YtblhenblibdjoabDoorParent
namespace Go.Proofs.YtblhenblibdjoabDoor
open Go.RowKit

def isP' (s : ByteArray) : Bool := (parse s).1 == 0
theorem in_any' (s : ByteArray) (w : World) (hg : Ground w) :
    Calls Tryd.prog 15 #[.string s] w fun e w' => e = .returned (.bool (isP' s)) ∧ Below w.heap.size w w' := by
  have HG : Hid (Ground w) := hg
  obtain ⟨p, hp⟩ : ∃ p, p = parse s := ⟨_, rfl⟩
  unfold isP'
  have HP : Hid (∀ w, Ground w → Calls Tryd.prog 19 #[.string s] w fun e w' => ∃ a c, e = .returned (.tuple #[.slice a p.2.length c, .int .i64 p.1]) ∧ Below w.heap.size w w') := fun w hg => by
    refine (parse_any s w hg).mono ?_
    rintro e w' ⟨a, c, h1, h2, h3⟩
    rw [hp]
    exact ⟨a, c, h1, h3⟩
  rw [← hp]
  clear hg hp
  go_enter Tryd.func15, Tryd.ntmps15
  go_wp2_with (first | (go_at_call 19; refine (HP.out _ HG.out).mono ?_; rintro e w1 ⟨a, c, rfl, hb⟩; have HB : Hid _ := hb; clear hb) | (go_at_call 11; go_in))
  go_ret
  exact ⟨rfl, HB.out⟩


theorem dig_nat {d : Nat} (h : d < 10) : (UInt8.ofNat (48 + d)).toNat = 48 + d := by
  rw [UInt8.toNat_ofNat']
  omega
theorem dig_rk {d : Nat} (h : d < 10) : rk (UInt8.ofNat (48 + d)) = 48 + (d : Int) := by
  unfold rk
  rw [dig_nat h, if_neg (by omega)]
  omega
theorem dig_ord {d e : Nat} (hd : d < 10) (he : e < 10) (r r' : List UInt8) : ordL (UInt8.ofNat (48 + d) :: r) (UInt8.ofNat (48 + e) :: r') = if d = e then ordL r r' else sg (d : Int) (e : Int) := by
  rw [ordL, dig_nat hd, dig_nat he, dig_rk hd, dig_rk he]
  by_cases h : d = e
  · rw [if_pos (by omega), if_pos h]
  · rw [if_neg (by omega), if_neg h]
    rcases Int.lt_trichotomy (d : Int) (e : Int) with g | g | g
    · rw [sg_lt g, sg_lt (by omega)]
    · omega
    · rw [sg_gt g, sg_gt (by omega)]
theorem sg_same {x y x' y' : Int} (h1 : x < y → x' < y') (h2 : y < x → y' < x') (h3 : x ≠ y) : sg x y = sg x' y' := by
  rcases Int.lt_trichotomy x y with g | g | g
  · rw [sg_lt g, sg_lt (h1 g)]
  · exact absurd g h3
  · rw [sg_gt g, sg_gt (h2 g)]
theorem five_ord {a b : Nat} (ha : a < 100000) (hb : b < 100000) : ordL (five a) (five b) = sg (a : Int) (b : Int) := by
  unfold five
  rw [dig_ord (by omega) (by omega)]
  split
  · rename_i h4
    rw [dig_ord (by omega) (by omega)]
    split
    · rename_i h3
      rw [dig_ord (by omega) (by omega)]
      split
      · rename_i h2
        rw [dig_ord (by omega) (by omega)]
        split
        · rename_i h1
          rw [dig_ord (by omega) (by omega)]
          split
          · rename_i h0
            have : a = b := by omega
            rw [sg_eq (by omega)]
            rfl
          · exact sg_same (by omega) (by omega) (by omega)
        · exact sg_same (by omega) (by omega) (by omega)
      · exact sg_same (by omega) (by omega) (by omega)
    · exact sg_same (by omega) (by omega) (by omega)
  · exact sg_same (by omega) (by omega) (by omega)
theorem ordL_app : ∀ (p r t : List UInt8), ordL (p ++ r) (p ++ t) = ordL r t
  | [], _, _ => rfl
  | x :: p, r, t => by
    rw [List.cons_append, List.cons_append, ordL, if_pos rfl]
    exact ordL_app p r t

theorem five_name (n : Nat) : ∀ b ∈ five n, nameB b = true := by
  have h : ∀ d, d < 10 → nameB (UInt8.ofNat (48 + d)) = true := fun d hd => by
    have e := dig_nat hd
    unfold nameB
    rw [e]
    simp
    omega
  intro b hb
  simp only [five, List.mem_cons, List.not_mem_nil, or_false] at hb
  rcases hb with rfl | rfl | rfl | rfl | rfl <;> exact h _ (by omega)
theorem nm_counted {x : ByteArray} (hx : isNm x = true) (hl : x.size ≤ 11) (n : Nat) : isNm (mk (x.data.toList ++ five n)) = true := by
  simp only [isNm, Bool.and_eq_true, decide_eq_true_eq] at hx
  have h5 : (five n).length = 5 := rfl
  have hxl : x.data.toList.length = x.size := by simp
  have hx1 := hx.1.1.1.1
  have hsz : (mk (x.data.toList ++ five n)).size = x.size + 5 := by rw [size_mk, List.length_append, h5, hxl]
  have hall : (x.data.toList ++ five n).all nameB = true := by
    rw [List.all_append, hx.2, Bool.true_and, List.all_eq_true]
    exact five_name n
  have hne1 : ((x.data.toList ++ five n) == [46]) = false := by
    rw [beq_eq_false_iff_ne]
    intro e
    have := congrArg List.length e
    rw [List.length_append, h5] at this
    simp at this
  have hne2 : ((x.data.toList ++ five n) == [46, 46]) = false := by
    rw [beq_eq_false_iff_ne]
    intro e
    have := congrArg List.length e
    rw [List.length_append, h5] at this
    simp at this
  simp only [isNm, hsz, data_mk, hall, hne1, hne2]
  simp
  omega

theorem counted_parse {s : ByteArray} {xs : List ByteArray} (h : parse s = (0, xs)) (k : Nat) (hk : xs.length = k + 1) (x : ByteArray) (hx : xs[k]? = some x) (hl : x.size ≤ 11) (n : Nat) :
    parse (mk (s.data.toList ++ five n)) = (0, xs.take k ++ [mk (x.data.toList ++ five n)]) := by
  have hp := parse_len h
  have hxn : isNm x = true := by
    have := hp.2
    rw [List.all_eq_true] at this
    exact this x (List.mem_of_getElem? hx)
  have hxs : xs = xs.take k ++ [x] := by
    have := List.take_add_one (l := xs) (i := k)
    rw [hx, ← hk, List.take_length] at this
    exact this
  have hne : xs ≠ [] := by rintro rfl; simp at hk
  have ht : s.data.toList = flatN (xs.take k) ++ 47 :: x.data.toList := by
    rw [← parse_back h, placeB, if_neg hne, data_mk]
    conv => lhs; rw [hxs]
    simp [flatN]
  have hall : (xs.take k ++ [mk (x.data.toList ++ five n)]).all isNm = true := by
    rw [List.all_append, all_take hp.2 k]
    simp [nm_counted hxn hl n]
  have hlen : (xs.take k ++ [mk (x.data.toList ++ five n)]).length ≤ 6 := by
    rw [List.length_append, List.length_take]
    simp
    omega
  have hpl := parse_place hlen hall
  have e : placeB (xs.take k ++ [mk (x.data.toList ++ five n)]) = mk (s.data.toList ++ five n) := by
    rw [placeB, if_neg (by simp), ht]
    congr 1
    simp [flatN, data_mk]
  rw [e] at hpl
  exact hpl

/-- Counted of a text and a number: refused, or the place. -/
theorem counted_cases (s : ByteArray) (n : Int) :
    (∃ F : Int, F ≠ 0 ∧ ∀ w, GroundC w → Calls Tryd.prog 14 #[.string s, .int .i64 n] w fun e w' => e = .returned (.tuple #[.string ⟨#[]⟩, .int .i64 F]) ∧ Below w.heap.size w w') ∨
    (∃ (m : Nat) (xs : List ByteArray) (k : Nat) (x : ByteArray), n = (m : Int) ∧ m ≤ 99999 ∧ parse s = (0, xs) ∧ xs.length = k + 1 ∧ xs[k]? = some x ∧ x.size ≤ 11) := by
  obtain ⟨code, xs, hp⟩ : ∃ code xs, parse s = (code, xs) := ⟨_, _, rfl⟩
  by_cases hc : code = 0
  · subst hc
    by_cases hx : xs = []
    · subst hx
      exact .inl ⟨47, by decide, fun w hg => counted_root n hp w hg.toGround⟩
    · obtain ⟨k, hk⟩ : ∃ k, xs.length = k + 1 := ⟨xs.length - 1, by cases xs with | nil => exact absurd rfl hx | cons y ys => simp⟩
      obtain ⟨x, hxk⟩ : ∃ x, xs[k]? = some x := ⟨xs[k], List.getElem?_eq_getElem (by omega)⟩
      by_cases hl : 11 < x.size
      · exact .inl ⟨10, by decide, fun w hg => counted_long n hp hx x (by rw [hk]; exact hxk) hl w hg.toGround⟩
      · by_cases hn : n < 0 ∨ 99999 < n
        · exact .inl ⟨1, by decide, fun w hg => counted_arg hn hp k hk x hxk (by omega) w hg.toGround⟩
        · exact .inr ⟨n.toNat, xs, k, x, by omega, by omega, hp, hk, hxk, by omega⟩
  · have hx := parse_code hp hc
    subst hx
    exact .inl ⟨code, hc, fun w hg => counted_err n hp hc w hg.toGround⟩

theorem digits_out (s U1 U2 : ByteArray) (a b F1 F2 : Int)
    (H1 : Hid (∀ w, GroundC w → Calls Tryd.prog 14 #[.string s, .int .i64 a] w fun e w' => e = .returned (.tuple #[.string U1, .int .i64 F1]) ∧ Below w.heap.size w w'))
    (H2 : Hid (∀ w, GroundC w → Calls Tryd.prog 14 #[.string s, .int .i64 b] w fun e w' => e = .returned (.tuple #[.string U2, .int .i64 F2]) ∧ Below w.heap.size w w'))
    (h : (F1 ≠ 0 ∧ U1 = ⟨#[]⟩ ∧ F2 ≠ 0 ∧ U2 = ⟨#[]⟩) ∨ (F1 ≠ 0 ∧ U1 = ⟨#[]⟩ ∧ F2 = 0) ∨ (F1 = 0 ∧ F2 ≠ 0 ∧ U2 = ⟨#[]⟩))
    (w : World) (HG : Hid (GroundC w)) :
    Calls Tryd.prog 6 #[.string s, .int .i64 a, .int .i64 b] w fun e w' => e = .returned (.bool true) ∧ Below w.heap.size w w' := by
  go_enter Tryd.func6, Tryd.ntmps6
  go_wp2_with fail
  refine (H1.out _ HG.out).mono ?_
  rintro e w1 ⟨rfl, hb1⟩
  have HB1 : Hid _ := hb1
  clear hb1
  go_wp2_with fail
  refine (H2.out _ (HG.out.below HB1.out)).mono ?_
  rintro e w2 ⟨rfl, hb2⟩
  have HB2 : Hid _ := trans2 HB1.out hb2
  clear hb2
  rcases h with ⟨h1, rfl, h2, rfl⟩ | ⟨h1, rfl, rfl⟩ | ⟨rfl, h2, rfl⟩
  · have e1 : (F1 != 0) = true := by simpa using h1
    have e1' : (F1 == 0) = false := by simpa using h1
    have e2 : (F2 != 0) = true := by simpa using h2
    have e2' : (F2 == 0) = false := by simpa using h2
    go_wp2_with (first
      | (go_at_call 12; refine (known_any _ (HG.out.below HB2.out).toGround).mono ?_; rintro e w8 ⟨rfl, hb8⟩; have HB8 : Hid _ := hb8; clear hb8)
      | (go_at_call 11; go_in))
    go_ret
    exact ⟨rfl, trans2 HB2.out HB8.out⟩
  · have e1 : (F1 != 0) = true := by simpa using h1
    have e1' : (F1 == 0) = false := by simpa using h1
    go_wp2_with (first
      | (go_at_call 12; refine (known_any _ (HG.out.below HB2.out).toGround).mono ?_; rintro e w8 ⟨rfl, hb8⟩; have HB8 : Hid _ := hb8; clear hb8)
      | (go_at_call 11; go_in))
    go_ret
    exact ⟨rfl, trans2 HB2.out HB8.out⟩
  · have e2 : (F2 != 0) = true := by simpa using h2
    have e2' : (F2 == 0) = false := by simpa using h2
    go_wp2_with (first
      | (go_at_call 12; refine (known_any _ (HG.out.below HB2.out).toGround).mono ?_; rintro e w8 ⟨rfl, hb8⟩; have HB8 : Hid _ := hb8; clear hb8)
      | (go_at_call 11; go_in))
    go_ret
    exact ⟨rfl, trans2 HB2.out HB8.out⟩

theorem extract_pre (s : ByteArray) (l : List UInt8) : (mk (s.data.toList ++ l)).extract 0 s.size = s := by
  rw [← mk_data ((mk (s.data.toList ++ l)).extract 0 s.size), Lib.extract_data, data_mk]
  have e : ((s.data.toList ++ l).drop 0).take (s.size - 0) = s.data.toList := by
    rw [List.drop_zero, Nat.sub_zero, List.take_append_of_le_length (by simp), List.take_of_length_le (by simp)]
  rw [e, mk_data]

set_option maxHeartbeats 1600000 in
theorem digits_good {s : ByteArray} {xs : List ByteArray} {k m1 m2 : Nat} {x : ByteArray} (hp : parse s = (0, xs)) (hk : xs.length = k + 1) (hx : xs[k]? = some x) (hl : x.size ≤ 11) (hm1 : m1 ≤ 99999) (hm2 : m2 ≤ 99999) (w : World) (hg : GroundC w) :
    Calls Tryd.prog 6 #[.string s, .int .i64 (m1 : Int), .int .i64 (m2 : Int)] w fun e w' => e = .returned (.bool true) ∧ Below w.heap.size w w' := by
  have HG : Hid (GroundC w) := hg
  have hs := parse_size hp
  obtain ⟨S, hS⟩ : ∃ S, mk (s.data.toList ++ five m1) = S := ⟨_, rfl⟩
  obtain ⟨T, hT⟩ : ∃ T, mk (s.data.toList ++ five m2) = T := ⟨_, rfl⟩
  have hc1 := counted_parse hp k hk x hx hl m1
  have H1 : Hid (∀ w, GroundC w → Calls Tryd.prog 14 #[.string s, .int .i64 (m1 : Int)] w fun e w' => e = .returned (.tuple #[.string S, .int .i64 0]) ∧ Below w.heap.size w w') := fun w hg => by
    rw [← hS]; exact counted_good hm1 hp k hk x hx hl w hg
  have H2 : Hid (∀ w, GroundC w → Calls Tryd.prog 14 #[.string s, .int .i64 (m2 : Int)] w fun e w' => e = .returned (.tuple #[.string T, .int .i64 0]) ∧ Below w.heap.size w w') := fun w hg => by
    rw [← hT]; exact counted_good hm2 hp k hk x hx hl w hg
  obtain ⟨P, hP⟩ : ∃ P, placeB (xs.take k) = P := ⟨_, rfl⟩
  have H3 : Hid (∀ w, Ground w → Calls Tryd.prog 17 #[.string S] w fun e w' => e = .returned (.tuple #[.string P, .int .i64 0]) ∧ Below w.heap.size w w') := fun w hg => by
    rw [hS] at hc1
    have h4 := parent_some hc1 k (by rw [List.length_append, List.length_take]; simp; omega) w hg
    have e : (xs.take k ++ [mk (x.data.toList ++ five m1)]).take k = xs.take k := by
      rw [List.take_append_of_le_length (by rw [List.length_take]; omega), List.take_take, Nat.min_self]
    rw [e, hP] at h4
    exact h4
  have H4 : Hid (∀ w, Ground w → Calls Tryd.prog 17 #[.string s] w fun e w' => e = .returned (.tuple #[.string P, .int .i64 0]) ∧ Below w.heap.size w w') := fun w hg => by
    rw [← hP]; exact parent_some hp k hk w hg
  have hSs : S.size = s.size + 5 := by
    rw [← hS, size_mk, List.length_append]
    simp [five]
  have hTs : T.size = s.size + 5 := by
    rw [← hT, size_mk, List.length_append]
    simp [five]
  have hO : O S T = sg (m1 : Int) (m2 : Int) := by
    rw [O_list, ← hS, ← hT, data_mk, data_mk, ordL_app, five_ord (by omega) (by omega)]
  have H5 : Hid (∀ w, Calls Tryd.prog 18 #[.string S, .string T] w fun e w' => e = .returned (.int .i64 (sg (m1 : Int) (m2 : Int))) ∧ Below w.heap.size w w') := fun w => by
    have h6 := order_O S T (by unfold maxLen; omega) (by unfold maxLen; omega) w
    rw [hO] at h6
    refine h6.mono ?_
    rintro e w' ⟨he, m, rfl⟩
    exact ⟨he, below_drewN (Below.refl _ _) _⟩
  have H6 : Hid (∀ w, Ground w → Calls Tryd.prog 15 #[.string S] w fun e w' => e = .returned (.bool true) ∧ Below w.heap.size w w') := fun w hg => by
    have e : isP' S = true := by rw [hS] at hc1; simp [isP', hc1]
    have h7 := in_any' S w hg
    rw [e] at h7
    exact h7
  have hex : S.extract 0 s.size = s := by rw [← hS]; exact extract_pre s _
  have hSi : (S.size : Int) = (s.size : Int) + 5 := by omega
  clear hg hc1 hp hk hx hl hS hT hP hO hTs
  go_enter Tryd.func6, Tryd.ntmps6
  go_wp2_with fail
  refine (H1.out _ HG.out).mono ?_
  rintro e w1 ⟨rfl, hb1⟩
  have HB1 : Hid _ := hb1
  clear hb1
  go_wp2_with fail
  refine (H2.out _ (HG.out.below HB1.out)).mono ?_
  rintro e w2 ⟨rfl, hb2⟩
  have HB2 : Hid _ := trans2 HB1.out hb2
  clear hb2
  go_wp2_with (first | (go_at_call 11; go_in) | fail)
  refine (H3.out _ (HG.out.below HB2.out).toGround).mono ?_
  rintro e w3 ⟨rfl, hb3⟩
  have HB3 : Hid _ := trans2 HB2.out hb3
  clear hb3
  go_wp2_with fail
  refine (H4.out _ (HG.out.below HB3.out).toGround).mono ?_
  rintro e w4 ⟨rfl, hb4⟩
  have HB4 : Hid _ := trans2 HB3.out hb4
  clear hb4
  go_wp2_with fail
  refine (H5.out _).mono ?_
  rintro e w5 ⟨rfl, hb5⟩
  have HB5 : Hid _ := trans2 HB4.out hb5
  clear hb5
  rcases Int.lt_trichotomy (m1 : Int) (m2 : Int) with hc | hc | hc
  · rw [sg_lt hc]
    have e0 : ((m1 : Int) == (m2 : Int)) = false := by simp; omega
    go_wp2_with (first
      | (go_at_call 15; refine (H6.out _ (HG.out.below HB5.out).toGround).mono ?_; rintro e w6 ⟨rfl, hb6⟩; have HB6 : Hid _ := trans2 HB5.out hb6; clear hb6)
      | (go_at_call 12; refine (known_any _ (HG.out.below HB6.out).toGround).mono ?_; rintro e w8 ⟨rfl, hb8⟩; have HB8 : Hid _ := hb8; clear hb8)
      | (go_at_call 11; go_in))
    go_ret
    exact ⟨rfl, trans2 HB6.out HB8.out⟩
  · rw [sg_eq hc]
    have e0 : ((m1 : Int) == (m2 : Int)) = true := by simp; omega
    have e1 : ¬ (m1 : Int) < (m2 : Int) := by omega
    go_wp2_with (first
      | (go_at_call 15; refine (H6.out _ (HG.out.below HB5.out).toGround).mono ?_; rintro e w6 ⟨rfl, hb6⟩; have HB6 : Hid _ := trans2 HB5.out hb6; clear hb6)
      | (go_at_call 12; refine (known_any _ (HG.out.below HB6.out).toGround).mono ?_; rintro e w8 ⟨rfl, hb8⟩; have HB8 : Hid _ := hb8; clear hb8)
      | (go_at_call 11; go_in))
    go_ret
    exact ⟨rfl, trans2 HB6.out HB8.out⟩
  · rw [sg_gt hc]
    have e0 : ((m1 : Int) == (m2 : Int)) = false := by simp; omega
    have e1 : ¬ (m1 : Int) < (m2 : Int) := by omega
    have e2 : decide (m1 < m2) = false := by simp; omega
    go_wp2_with (first
      | (go_at_call 15; refine (H6.out _ (HG.out.below HB5.out).toGround).mono ?_; rintro e w6 ⟨rfl, hb6⟩; have HB6 : Hid _ := trans2 HB5.out hb6; clear hb6)
      | (go_at_call 12; refine (known_any _ (HG.out.below HB6.out).toGround).mono ?_; rintro e w8 ⟨rfl, hb8⟩; have HB8 : Hid _ := hb8; clear hb8)
      | (go_at_call 11; go_in))
    go_ret
    exact ⟨rfl, trans2 HB6.out HB8.out⟩

theorem digits_walk (s : ByteArray) (a b : Int) (w : World) (hg : GroundC w) :
    Calls Tryd.prog 6 #[.string s, .int .i64 a, .int .i64 b] w fun e w' => e = .returned (.bool true) ∧ Below w.heap.size w w' := by
  rcases counted_cases s a with ⟨F1, hF1, h1⟩ | ⟨m1, xs, k, x, rfl, hm1, hp, hk, hx, hl⟩
  · rcases counted_cases s b with ⟨F2, hF2, h2⟩ | ⟨m2, xs, k, x, rfl, hm2, hp, hk, hx, hl⟩
    · exact digits_out s _ _ a b F1 F2 h1 h2 (.inl ⟨hF1, rfl, hF2, rfl⟩) w hg
    · exact digits_out s _ _ a _ F1 0 h1 (counted_good hm2 hp k hk x hx hl) (.inr (.inl ⟨hF1, rfl, rfl⟩)) w hg
  · rcases counted_cases s b with ⟨F2, hF2, h2⟩ | ⟨m2, xs', k', x', rfl, hm2, hp', hk', hx', hl'⟩
    · exact digits_out s _ _ _ b 0 F2 (counted_good hm1 hp k hk x hx hl) h2 (.inr (.inr ⟨rfl, hF2, rfl⟩)) w hg
    · exact digits_good hp hk hx hl hm1 hm2 w hg
end Go.Proofs.YtblhenblibdjoabDoor
