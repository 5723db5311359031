import Derived.Test.YtbblckcjedjbcaaGreatDoorRefParse
import Derived.Test.YtbblckcjedjbcaaGreatDoorOf
namespace Go.Proofs.YtbblckcjedjbcaaGreatDoor.J
open Go.RowKit

theorem flat_step {xs : List ByteArray} {k : Nat} {x : ByteArray} (hx : xs[k]? = some x) : mk (flatN (xs.take k)) ++ ⟨#[47]⟩ ++ x = mk (flatN (xs.take (k + 1))) := by
  have e : xs.take (k + 1) = xs.take k ++ [x] := by rw [List.take_add_one, hx]; rfl
  rw [e]
  have e1 : flatN (xs.take k ++ [x]) = flatN (xs.take k) ++ ([47] ++ x.data.toList) := by simp [flatN]
  rw [e1]
  have h1 : mk (flatN (xs.take k)) ++ ⟨#[47]⟩ = mk (flatN (xs.take k) ++ [47]) := ByteArray.mk_append_mk _ [47]
  have h2 : mk (flatN (xs.take k) ++ [47]) ++ x = mk (flatN (xs.take k) ++ [47] ++ x.data.toList) := by
    conv => lhs; rw [← mk_data x]
    exact ByteArray.mk_append_mk _ _
  rw [h1, h2, List.append_assoc]
theorem flat_take_le {xs : List ByteArray} (h : xs.all isNm = true) (k : Nat) (hN : xs.length ≤ 6) : (flatN (xs.take k)).length ≤ 102 := by
  have hall : (xs.take k).all isNm = true := by
    rw [List.all_eq_true] at h ⊢
    exact fun x hx => h x (List.mem_of_mem_take hx)
  have h1 := flat_len (xs.take k) hall
  have h2 : (xs.take k).length ≤ 6 := by rw [List.length_take]; omega
  omega
theorem nm_size {xs : List ByteArray} {k : Nat} {x : ByteArray} (h : xs.all isNm = true) (hx : xs[k]? = some x) : x.size ≤ 16 := by
  rw [List.all_eq_true] at h
  have := h x (List.mem_of_getElem? hx)
  simp only [isNm, Bool.and_eq_true, decide_eq_true_eq] at this
  exact this.1.1.1.2
theorem flat_nil {xs : List ByteArray} (h : (mk (flatN xs)).toList = []) : xs = [] := by
  rw [ByteArray.toList_eq, data_mk] at h
  cases xs with
  | nil => rfl
  | cons x r => simp [flatN] at h

theorem of_none (a : Option Addr) (c : Nat) (w : World) :
    Calls Tryz.prog 108 #[.slice a 0 c] w fun e w' => e = .returned (.string (placeB [])) ∧ w' = w := by
  go_enter Tryz.func108, Tryz.ntmps108
  go_wp2
  refine wp_loop_rounds 1 ?_
  rw [rounds_succ]
  go_wp2
  go_ret
  exact ⟨rfl, rfl⟩

set_option maxRecDepth 100000 in
theorem of_any (a : Option Addr) (c : Nat) (xs : List ByteArray) (w : World) (hl : Lst w a xs) (hN : xs.length ≤ 6) (hall : xs.all isNm = true) :
    Calls Tryz.prog 108 #[.slice a xs.length c] w fun e w' => e = .returned (.string (placeB xs)) ∧ w' = w := by
  by_cases hx : xs = []
  · subst hx
    exact of_none a c w
  rcases hl with h | ⟨b, o, rfl, hlt, hs⟩
  · exact absurd h hx
  have hp : placeB xs = mk (flatN xs) := by rw [placeB, if_neg hx]
  have HP : Hid _ := hp
  have HS : Hid _ := hs
  have HA : Hid _ := hall
  have HX : Hid _ := hx
  have h0 : (ByteArray.mk #[]) = mk (flatN (xs.take 0)) := rfl
  have H0 : Hid _ := h0
  clear hp hs hall hx h0 hlt
  go_enter Tryz.func108, Tryz.ntmps108
  go_wp2
  go_loop [3, 4] (fun t i => ∃ k : Nat, i = .int .i64 k ∧ k ≤ xs.length ∧ t = .string (mk (flatN (xs.take k)))) (fun _ i => xs.length - (intOf i).toNat)
  case atStart => exact ⟨0, rfl, by omega, rfl⟩
  case round =>
    obtain ⟨k, rfl, hk, rfl⟩ := hrel
    by_cases hlt : k < xs.length
    · obtain ⟨x, hx⟩ : ∃ x, xs[k]? = some x := ⟨xs[k], List.getElem?_eq_getElem hlt⟩
      have hc := HS.out k x hx
      have hz := flat_take_le HA.out k hN
      have hz2 := nm_size HA.out hx
      have h47 : (⟨#[47]⟩ : ByteArray).size = 1 := rfl
      have hadd1 : (Op.stringOp .add (mk (flatN (xs.take k))) ⟨#[47]⟩).run Tryz.prog w = .ok (.string (mk (flatN (xs.take k)) ++ ⟨#[47]⟩)) w :=
        run_string_add_sum w _ _ (by rw [size_mk, h47]; omega)
      have hadd2 : (Op.stringOp .add (mk (flatN (xs.take k)) ++ ⟨#[47]⟩) x).run Tryz.prog w = .ok (.string (mk (flatN (xs.take (k + 1))))) w := by
        rw [run_string_add_sum w _ _ (by rw [ByteArray.size_append, size_mk, h47]; omega), flat_step hx]
      clear hx hz hz2 h47
      generalize hA : mk (flatN (xs.take k)) = A at *
      generalize hB : mk (flatN (xs.take (k + 1))) = B at *
      have HB : Hid _ := hB
      clear hA hB
      go_wp2
      go_round
      case rel => exact ⟨k + 1, by go_num, by omega, by rw [HB.out]⟩
      case measure => simp [intOf]; omega
    · obtain rfl : k = xs.length := by omega
      have hne : ¬ (mk (flatN (xs.take xs.length))).toList = [] := fun h => by
        rw [List.take_length] at h
        exact HX.out (flat_nil h)
      have hne' : (mk (flatN (xs.take xs.length))).toList.isEmpty = false := by simpa using hne
      have hpe : placeB xs = mk (flatN (xs.take xs.length)) := by rw [List.take_length, HP.out]
      generalize hA : mk (flatN (xs.take xs.length)) = A at *
      have HPE : Hid _ := hpe
      clear hpe hA
      go_wp2
      go_ret
      exact ⟨by rw [HPE.out]; rfl, rfl⟩

theorem refParse_none {s : ByteArray} {code : Int} (h : parse s = (code, [])) (w : World) :
    Calls Tryz.prog 75 #[.string s] w fun e w' => ∃ a c, e = .returned (.tuple #[.slice a 0 c, .int .i64 code]) ∧ Below w.heap.size w w' := by
  refine (refParse_any s w).mono ?_
  rintro e w' ⟨a, c, he, _, _, hb⟩
  rw [h] at he
  exact ⟨a, c, he, hb⟩
theorem refParse_some {s : ByteArray} {code : Int} {xs : List ByteArray} (h : parse s = (code, xs)) (hne : xs ≠ []) (w : World) :
    Calls Tryz.prog 75 #[.string s] w fun e w' =>
      ∃ b o c, e = .returned (.tuple #[.slice (some ⟨b, o, none⟩) xs.length c, .int .i64 code]) ∧ b < w'.heap.size ∧ Strs w' b o xs ∧ (xs.length ≤ c ∧ c ≤ maxLen) ∧ Below w.heap.size w w' := by
  refine (refParse_any s w).mono ?_
  rintro e w' ⟨a, c, he, hL, hcap, hb⟩
  rw [h] at he hL hcap
  rcases hL with h0 | ⟨b, o, rfl, hlt, hs⟩
  · exact absurd h0 hne
  · exact ⟨b, o, c, he, hlt, hs, hcap, hb⟩

theorem lst_take' {w : World} {b o : Nat} {xs : List ByteArray} (hlt : b < w.heap.size) (h : Strs w b o xs) (k : Nat) : Lst w (some ⟨b, o, none⟩) (xs.take k) := by
  refine .inr ⟨b, o, rfl, hlt, fun j x hx => h j x ?_⟩
  rw [List.getElem?_take] at hx
  split at hx
  · exact hx
  · cases hx
theorem all_take' {xs : List ByteArray} (h : xs.all isNm = true) (k : Nat) : (xs.take k).all isNm = true := by
  rw [List.all_eq_true] at h ⊢
  exact fun x hx => h x (List.mem_of_mem_take hx)

end Go.Proofs.YtbblckcjedjbcaaGreatDoor.J
namespace Go.Proofs.YtbblckcjedjbcaaGreatDoor.J
open Go.RowKit

theorem refParent_err {s : ByteArray} {code : Int} (h : parse s = (code, [])) (hc : code ≠ 0) (w : World) :
    Calls Tryz.prog 80 #[.string s] w fun e w' => e = .returned (.tuple #[.string ⟨#[]⟩, .int .i64 code]) ∧ Below w.heap.size w w' := by
  have HP : Hid _ := refParse_none h
  have hc' : (code != 0) = true := by simpa using hc
  clear h
  go_enter Tryz.func80, Tryz.ntmps80
  go_wp2_with (first | (go_at_call 75; refine (HP.out _).mono ?_; rintro e w1 ⟨a, c, rfl, hb⟩; have HB : Hid _ := hb; clear hb))
  go_ret2
  exact ⟨rfl, HB.out⟩
theorem refParent_root {s : ByteArray} (h : parse s = (0, [])) (w : World) :
    Calls Tryz.prog 80 #[.string s] w fun e w' => e = .returned (.tuple #[.string ⟨#[]⟩, .int .i64 47]) ∧ Below w.heap.size w w' := by
  have HP : Hid _ := refParse_none h
  clear h
  go_enter Tryz.func80, Tryz.ntmps80
  go_wp2_with (first | (go_at_call 75; refine (HP.out _).mono ?_; rintro e w1 ⟨a, c, rfl, hb⟩; have HB : Hid _ := hb; clear hb))
  go_ret2
  exact ⟨rfl, HB.out⟩
set_option maxRecDepth 100000 in
theorem refParent_some {s : ByteArray} {xs : List ByteArray} (h : parse s = (0, xs)) (k : Nat) (hk : xs.length = k + 1) (w : World) :
    Calls Tryz.prog 80 #[.string s] w fun e w' => e = .returned (.tuple #[.string (placeB (xs.take k)), .int .i64 0]) ∧ Below w.heap.size w w' := by
  have hl := parse_len h
  have HP : Hid _ := refParse_some h (fun e => by rw [e] at hk; simp at hk)
  have htl : (xs.take k).length = k := by rw [List.length_take]; omega
  have hk6 : k ≤ 5 := by omega
  have HN : Hid (xs.all isNm = true) := hl.2
  have HT : Hid ((xs.take k).length = k) := htl
  have hk0 : ((k : Int) + 1 == 0) = false := by simp; omega
  obtain ⟨pb, hpb⟩ : ∃ pb, placeB (xs.take k) = pb := ⟨_, rfl⟩
  rw [hpb]
  have HPB : Hid (placeB (xs.take k) = pb) := hpb
  clear h hl htl hpb
  go_enter Tryz.func80, Tryz.ntmps80
  go_wp2_with fail
  refine (HP.out _).mono ?_
  rintro e w1 ⟨b, o, c, rfl, hlt, hs, hcap, hb⟩
  have HB : Hid _ := hb
  have hcap1 : k + 1 ≤ c := by have := hcap.1; omega
  have hcap2 : c ≤ 9223372036854775807 := by have := hcap.2; unfold maxLen at this; omega
  have HO : Hid (∀ c, Calls Tryz.prog 108 #[.slice (some ⟨b, o, none⟩) k c] w1 fun e w' => e = .returned (.string pb) ∧ w' = w1) := fun c => by
    have := of_any (some ⟨b, o, none⟩) c (xs.take k) w1 (lst_take' hlt hs k) (by rw [HT.out]; omega) (all_take' HN.out k)
    rw [HT.out, HPB.out] at this
    exact this
  clear hb hs hlt hcap
  go_wp2_with (first | (go_at_call 108; refine (HO.out _).mono ?_; rintro e w2 ⟨rfl, rfl⟩))
  go_ret2
  exact ⟨rfl, HB.out⟩

end Go.Proofs.YtbblckcjedjbcaaGreatDoor.J
