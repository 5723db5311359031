/-
  heraldref1.Parse by a contract.
-/
import Derived.Test.YthelfbdkbldhjaaGreatDoorRefNames
import Derived.Test.YthelfbdkbldhjaaGreatDoorCounted
namespace Go.Proofs.YthelfbdkbldhjaaGreatDoor
open Go.RowKit

theorem pieces_some (s : ByteArray) (l : List UInt8) (hl : s.data.toList = 47 :: l) (h2 : s.size ≤ 65536) (w : World) :
    Calls Tryz.prog 91 #[.string s] w fun e w' =>
      ∃ b o c, e = .returned (.slice (some ⟨b, o, none⟩) (cutB (mk l)).length c) ∧ b < w'.heap.size ∧ Strs w' b o (cutB (mk l)) ∧ ((cutB (mk l)).length ≤ c ∧ c ≤ maxLen) ∧ Below w.heap.size w w' := by
  have h1 : 1 ≤ s.size := by
    have : s.data.toList.length = l.length + 1 := by rw [hl]; rfl
    simp at this
    omega
  refine (pieces_any s h1 h2 w).mono ?_
  have e1 : s.data.toList.drop 1 = l := by rw [hl]; rfl
  rw [e1]
  rintro e w' ⟨a, c, he, hL, hcap, hb⟩
  rcases hL with h | ⟨b, o, rfl, hlt, hs⟩
  · exfalso
    rw [cutB_mk] at h
    exact cutL_ne l (by simpa using h)
  · exact ⟨b, o, c, he, hlt, hs, hcap, hb⟩

/-- What Parse of the reference leaves. -/
def Parsed' (s : ByteArray) (w : World) (e : Ending) (w' : World) : Prop :=
  ∃ a c, e = .returned (.tuple #[.slice a (parse s).2.length c, .int .i64 (parse s).1]) ∧ Lst w' a (parse s).2 ∧ ((parse s).2.length ≤ c ∧ c ≤ maxLen) ∧ Below w.heap.size w w'

theorem none_of' {s : ByteArray} {w : World} {code : Int} (h : parse s = (code, [])) {w' : World} (hb : Below w.heap.size w w') {e : Ending} (he : e = .returned (.tuple #[.slice none 0 0, .int .i64 code])) : Parsed' s w e w' := by
  refine ⟨none, 0, ?_, ?_, ?_, hb⟩
  · rw [he, h]; rfl
  · rw [h]; exact .inl rfl
  · rw [h]; exact ⟨Nat.le_refl _, Nat.zero_le _⟩

set_option maxHeartbeats 1600000 in
set_option maxRecDepth 100000 in
theorem refParse_slash (s : ByteArray) (l : List UInt8) (hl : s.data.toList = 47 :: l) (w : World) (h0 : ¬ 102 < s.size) (h1 : ¬ s.data.toList = [47]) :
    Calls Tryz.prog 67 #[.string s] w (Parsed' s w) := by
  have h0' : ¬ (102 : Int) < (s.size : Int) := by omega
  have h1' : (s.toList == [47]) = false := by rw [ByteArray.toList_eq]; simpa using h1
  have hne : ¬ s.toList = [] := by rw [ByteArray.toList_eq, hl]; simp
  have hne' : s.toList.isEmpty = false := by rw [ByteArray.toList_eq, hl]; rfl
  have hpos : 0 < s.size := by
    have : s.data.toList.length = l.length + 1 := by rw [hl]; rfl
    simp at this
    omega
  have hpos' : (0 : Int) < (s.size : Int) := by omega
  have hfst : s[0].toNat = 47 := by
    have h : s[0] = s.data.toList[0]'(by simpa using hpos) := rfl
    rw [h]
    simp [hl]
  obtain ⟨n, hn⟩ : ∃ n : Nat, s[0].toNat = n := ⟨_, rfl⟩
  have hn2 : ((n : Int) != 47) = false := by rw [hn] at hfst; simp [hfst]
  clear hfst
  obtain ⟨xs, hxs⟩ : ∃ xs, cutB (mk l) = xs := ⟨_, rfl⟩
  have hp : parse s = if xs.length ≤ 6 ∧ xs.all isNm = true then (0, xs) else (10, []) := by
    rw [parse_yes h0 h1 hl, ← hxs, cutB_mk, List.length_map]
  have HPc : Hid (∀ w, Calls Tryz.prog 91 #[.string s] w fun e w' =>
      ∃ b o c, e = .returned (.slice (some ⟨b, o, none⟩) xs.length c) ∧ b < w'.heap.size ∧ Strs w' b o xs ∧ (xs.length ≤ c ∧ c ≤ maxLen) ∧ Below w.heap.size w w') := fun w => by
    rw [← hxs]
    exact pieces_some s l hl (by omega) w
  have HP : Hid _ := hp
  clear hp hl h1 hxs h0
  by_cases hN : xs.length ≤ 6
  · have hN' : (xs.length : Int) ≤ 6 := by omega
    go_enter Tryz.func67, Tryz.ntmps67
    go_wp2_with (first | (go_at_call 91; refine (HPc.out _).mono ?_; rintro e w1 ⟨b, o, c, rfl, hlt, hs, hcap, hb⟩; have HB : Hid _ := hb; have HS : Hid _ := hs; have HL : Hid _ := hlt; have HCP : Hid _ := hcap; clear hb hs hlt hcap))
    clear hne hne' hpos hpos' h0' h1' hn hn2
    go_loop [5] (fun i => ∃ k : Nat, i = .int .i64 k ∧ k ≤ xs.length ∧ (xs.take k).all isNm = true) (fun i => xs.length - (intOf i).toNat)
    case atStart => exact ⟨0, rfl, by omega, rfl⟩
    case round =>
      obtain ⟨k, rfl, hk, ha⟩ := hrel
      have HA : Hid _ := ha
      clear ha
      by_cases hlt : k < xs.length
      · obtain ⟨x, hx⟩ : ∃ x, xs[k]? = some x := ⟨xs[k], List.getElem?_eq_getElem hlt⟩
        have hc := HS.out k x hx
        have HX : Hid (xs[k]? = some x) := hx
        clear hx
        go_wp2_with (first | (go_at_call 92; refine (nameOf_any _ _).mono ?_; rintro e w' ⟨rfl, rfl⟩))
        · have hn : isNm x = false := by simpa using (show (!isNm x) = true by assumption)
          go_ret2
          exact none_of' (by rw [HP.out, if_neg (by simp [all_bad HX.out hn])]) HB.out rfl
        · have hn : isNm x = true := by simpa using (show (!isNm x) = false by assumption)
          go_round
          case rel => exact ⟨k + 1, by go_num, by omega, all_step HX.out hn HA.out⟩
          case measure => simp [intOf]; omega
      · obtain rfl : k = xs.length := by omega
        have e : xs.all isNm = true := by have := HA.out; rwa [List.take_length] at this
        have HE : Hid _ := e
        clear e
        go_wp2
        go_ret2
        have e1 : parse s = (0, xs) := by rw [HP.out, if_pos ⟨hN, HE.out⟩]
        refine ⟨some ⟨b, o, none⟩, c, ?_, ?_, ?_, HB.out⟩
        · rw [e1]; rfl
        · rw [e1]; exact .inr ⟨b, o, rfl, HL.out, HS.out⟩
        · rw [e1]; exact HCP.out
  · have hN' : (6 : Int) < (xs.length : Int) := by omega
    go_enter Tryz.func67, Tryz.ntmps67
    go_wp2_with (first | (go_at_call 91; refine (HPc.out _).mono ?_; rintro e w1 ⟨b, o, c, rfl, hlt, hs, hcap, hb⟩; have HB : Hid _ := hb; clear hb hs hlt hcap))
    go_ret2
    exact none_of' (by rw [HP.out, if_neg (by omega)]) HB.out rfl

theorem refParse_any (s : ByteArray) (w : World) :
    Calls Tryz.prog 67 #[.string s] w (Parsed' s w) := by
  by_cases h0 : 102 < s.size
  · have h0' : (102 : Int) < (s.size : Int) := by omega
    have HP : Hid _ := none_of' (s := s) (w := w) (parse_long h0) (Below.refl _ _) rfl
    go_enter Tryz.func67, Tryz.ntmps67
    go_wp2
    go_ret2
    exact HP.out
  have h0' : ¬ (102 : Int) < (s.size : Int) := by omega
  by_cases h1 : s.data.toList = [47]
  · have h1' : s.toList = [47] := by rw [ByteArray.toList_eq, h1]
    have HP : Hid _ := none_of' (s := s) (w := w) (parse_root h1) (Below.refl _ _) rfl
    clear h1
    go_enter Tryz.func67, Tryz.ntmps67
    go_wp2
    go_ret2
    exact HP.out
  have h1' : (s.toList == [47]) = false := by rw [ByteArray.toList_eq]; simpa using h1
  by_cases h2 : ∃ l, s.data.toList = 47 :: l
  · obtain ⟨l, hl⟩ := h2
    exact refParse_slash s l hl w h0 h1
  · have h2' : ∀ l, s.data.toList ≠ 47 :: l := fun l e => h2 ⟨l, e⟩
    have HP : Hid _ := none_of' (s := s) (w := w) (parse_no h0 h2') (Below.refl _ _) rfl
    cases hd : s.data.toList with
    | nil =>
      have he : s.toList = [] := by rw [ByteArray.toList_eq, hd]
      clear h2 h2' h1 hd
      go_enter Tryz.func67, Tryz.ntmps67
      go_wp2
      go_ret2
      exact HP.out
    | cons b l =>
      have hb : b ≠ 47 := fun e => h2' l (by rw [hd, e])
      have hne : ¬ s.toList = [] := by rw [ByteArray.toList_eq, hd]; simp
      have hne' : s.toList.isEmpty = false := by rw [ByteArray.toList_eq, hd]; rfl
      have hpos : 0 < s.size := by
        have : s.data.toList.length = l.length + 1 := by rw [hd]; rfl
        simp at this
        omega
      have hpos' : (0 : Int) < (s.size : Int) := by omega
      have hfst : s[0] = b := by
        have h : s[0] = s.data.toList[0]'(by simpa using hpos) := rfl
        rw [h]
        simp [hd]
      obtain ⟨n, hn⟩ : ∃ n : Nat, s[0].toNat = n := ⟨_, rfl⟩
      have hn2 : ((n : Int) != 47) = true := by
        rw [hfst] at hn
        have : n ≠ 47 := fun e => hb (UInt8.toNat_inj.mp (hn.trans e))
        simp
        omega
      clear hfst h2 h2' h1 hd hb
      go_enter Tryz.func67, Tryz.ntmps67
      go_wp2
      go_ret2
      exact HP.out
end Go.Proofs.YthelfbdkbldhjaaGreatDoor
namespace Go.Proofs.YthelfbdkbldhjaaGreatDoor
open Go.RowKit

theorem flat_step {xs : List ByteArray} {k : Nat} {x : ByteArray} (hx : xs[k]? = some x) : mk (flatN (xs.take k)) ++ ⟨#[47]⟩ ++ x = mk (flatN (xs.take (k + 1))) := by
  have e : xs.take (k + 1) = xs.take k ++ [x] := by rw [List.take_add_one, hx]; rfl
  rw [e]
  have e1 : flatN (xs.take k ++ [x]) = flatN (xs.take k) ++ ([47] ++ x.data.toList) := by simp [flatN]
  rw [e1]
  have h1 : mk (flatN (xs.take k)) ++ ⟨#[47]⟩ = mk (flatN (xs.take k) ++ [47]) := ByteArray.mk_append_mk _ [47]
  have h2 : mk (flatN (xs.take k) ++ [47]) ++ x = mk (flatN (xs.take k) ++ [47] ++ x.data.toList) := by
    conv => lhs; rw [← mk_data x]
    exact ByteArray.mk_append_mk _ _
  rw [h1, h2, List.append_assoc]
theorem flat_take_le {xs : List ByteArray} (h : xs.all isNm = true) (k : Nat) (hN : xs.length ≤ 6) : (flatN (xs.take k)).length ≤ 102 := by
  have hall : (xs.take k).all isNm = true := by
    rw [List.all_eq_true] at h ⊢
    exact fun x hx => h x (List.mem_of_mem_take hx)
  have h1 := flat_len (xs.take k) hall
  have h2 : (xs.take k).length ≤ 6 := by rw [List.length_take]; omega
  omega
theorem nm_size {xs : List ByteArray} {k : Nat} {x : ByteArray} (h : xs.all isNm = true) (hx : xs[k]? = some x) : x.size ≤ 16 := by
  rw [List.all_eq_true] at h
  have := h x (List.mem_of_getElem? hx)
  simp only [isNm, Bool.and_eq_true, decide_eq_true_eq] at this
  exact this.1.1.1.2
theorem flat_nil {xs : List ByteArray} (h : (mk (flatN xs)).toList = []) : xs = [] := by
  rw [ByteArray.toList_eq, data_mk] at h
  cases xs with
  | nil => rfl
  | cons x r => simp [flatN] at h

theorem of_none (a : Option Addr) (c : Nat) (w : World) :
    Calls Tryz.prog 93 #[.slice a 0 c] w fun e w' => e = .returned (.string (placeB [])) ∧ w' = w := by
  go_enter Tryz.func93, Tryz.ntmps93
  go_wp2
  refine wp_loop_rounds 1 ?_
  rw [rounds_succ]
  go_wp2
  go_ret
  exact ⟨rfl, rfl⟩

set_option maxRecDepth 100000 in
theorem of_any (a : Option Addr) (c : Nat) (xs : List ByteArray) (w : World) (hl : Lst w a xs) (hN : xs.length ≤ 6) (hall : xs.all isNm = true) :
    Calls Tryz.prog 93 #[.slice a xs.length c] w fun e w' => e = .returned (.string (placeB xs)) ∧ w' = w := by
  by_cases hx : xs = []
  · subst hx
    exact of_none a c w
  rcases hl with h | ⟨b, o, rfl, hlt, hs⟩
  · exact absurd h hx
  have hp : placeB xs = mk (flatN xs) := by rw [placeB, if_neg hx]
  have HP : Hid _ := hp
  have HS : Hid _ := hs
  have HA : Hid _ := hall
  have HX : Hid _ := hx
  have h0 : (ByteArray.mk #[]) = mk (flatN (xs.take 0)) := rfl
  have H0 : Hid _ := h0
  clear hp hs hall hx h0 hlt
  go_enter Tryz.func93, Tryz.ntmps93
  go_wp2
  go_loop [3, 4] (fun t i => ∃ k : Nat, i = .int .i64 k ∧ k ≤ xs.length ∧ t = .string (mk (flatN (xs.take k)))) (fun _ i => xs.length - (intOf i).toNat)
  case atStart => exact ⟨0, rfl, by omega, rfl⟩
  case round =>
    obtain ⟨k, rfl, hk, rfl⟩ := hrel
    by_cases hlt : k < xs.length
    · obtain ⟨x, hx⟩ : ∃ x, xs[k]? = some x := ⟨xs[k], List.getElem?_eq_getElem hlt⟩
      have hc := HS.out k x hx
      have hz := flat_take_le HA.out k hN
      have hz2 := nm_size HA.out hx
      have h47 : (⟨#[47]⟩ : ByteArray).size = 1 := rfl
      have hadd1 : (Op.stringOp .add (mk (flatN (xs.take k))) ⟨#[47]⟩).run Tryz.prog w = .ok (.string (mk (flatN (xs.take k)) ++ ⟨#[47]⟩)) w :=
        run_string_add_sum w _ _ (by rw [size_mk, h47]; omega)
      have hadd2 : (Op.stringOp .add (mk (flatN (xs.take k)) ++ ⟨#[47]⟩) x).run Tryz.prog w = .ok (.string (mk (flatN (xs.take (k + 1))))) w := by
        rw [run_string_add_sum w _ _ (by rw [ByteArray.size_append, size_mk, h47]; omega), flat_step hx]
      clear hx hz hz2 h47
      generalize hA : mk (flatN (xs.take k)) = A at *
      generalize hB : mk (flatN (xs.take (k + 1))) = B at *
      have HB : Hid _ := hB
      clear hA hB
      go_wp2
      go_round
      case rel => exact ⟨k + 1, by go_num, by omega, by rw [HB.out]⟩
      case measure => simp [intOf]; omega
    · obtain rfl : k = xs.length := by omega
      have hne : ¬ (mk (flatN (xs.take xs.length))).toList = [] := fun h => by
        rw [List.take_length] at h
        exact HX.out (flat_nil h)
      have hne' : (mk (flatN (xs.take xs.length))).toList.isEmpty = false := by simpa using hne
      have hpe : placeB xs = mk (flatN (xs.take xs.length)) := by rw [List.take_length, HP.out]
      generalize hA : mk (flatN (xs.take xs.length)) = A at *
      have HPE : Hid _ := hpe
      clear hpe hA
      go_wp2
      go_ret
      exact ⟨by rw [HPE.out]; rfl, rfl⟩

theorem refParse_none {s : ByteArray} {code : Int} (h : parse s = (code, [])) (w : World) :
    Calls Tryz.prog 67 #[.string s] w fun e w' => ∃ a c, e = .returned (.tuple #[.slice a 0 c, .int .i64 code]) ∧ Below w.heap.size w w' := by
  refine (refParse_any s w).mono ?_
  rintro e w' ⟨a, c, he, _, _, hb⟩
  rw [h] at he
  exact ⟨a, c, he, hb⟩
theorem refParse_some {s : ByteArray} {code : Int} {xs : List ByteArray} (h : parse s = (code, xs)) (hne : xs ≠ []) (w : World) :
    Calls Tryz.prog 67 #[.string s] w fun e w' =>
      ∃ b o c, e = .returned (.tuple #[.slice (some ⟨b, o, none⟩) xs.length c, .int .i64 code]) ∧ b < w'.heap.size ∧ Strs w' b o xs ∧ (xs.length ≤ c ∧ c ≤ maxLen) ∧ Below w.heap.size w w' := by
  refine (refParse_any s w).mono ?_
  rintro e w' ⟨a, c, he, hL, hcap, hb⟩
  rw [h] at he hL hcap
  rcases hL with h0 | ⟨b, o, rfl, hlt, hs⟩
  · exact absurd h0 hne
  · exact ⟨b, o, c, he, hlt, hs, hcap, hb⟩

theorem lst_take' {w : World} {b o : Nat} {xs : List ByteArray} (hlt : b < w.heap.size) (h : Strs w b o xs) (k : Nat) : Lst w (some ⟨b, o, none⟩) (xs.take k) := by
  refine .inr ⟨b, o, rfl, hlt, fun j x hx => h j x ?_⟩
  rw [List.getElem?_take] at hx
  split at hx
  · exact hx
  · cases hx
theorem all_take' {xs : List ByteArray} (h : xs.all isNm = true) (k : Nat) : (xs.take k).all isNm = true := by
  rw [List.all_eq_true] at h ⊢
  exact fun x hx => h x (List.mem_of_mem_take hx)

end Go.Proofs.YthelfbdkbldhjaaGreatDoor
