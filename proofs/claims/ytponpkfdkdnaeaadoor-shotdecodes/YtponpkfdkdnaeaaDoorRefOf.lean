/-
  heraldref1.Of by a contract.
-/
import Derived.Test.YtponpkfdkdnaeaaDoorRefParse
import Derived.Test.YtponpkfdkdnaeaaDoorOf
namespace Go.Proofs.YtponpkfdkdnaeaaDoor
open Go.RowKit

theorem flat_step {xs : List ByteArray} {k : Nat} {x : ByteArray} (hx : xs[k]? = some x) : mk (flatN (xs.take k)) ++ ⟨#[47]⟩ ++ x = mk (flatN (xs.take (k + 1))) := by
  have e : xs.take (k + 1) = xs.take k ++ [x] := by rw [List.take_add_one, hx]; rfl
  rw [e]
  have e1 : flatN (xs.take k ++ [x]) = flatN (xs.take k) ++ ([47] ++ x.data.toList) := by simp [flatN]
  rw [e1]
  have h1 : mk (flatN (xs.take k)) ++ ⟨#[47]⟩ = mk (flatN (xs.take k) ++ [47]) := ByteArray.mk_append_mk _ [47]
  have h2 : mk (flatN (xs.take k) ++ [47]) ++ x = mk (flatN (xs.take k) ++ [47] ++ x.data.toList) := by
    conv => lhs; rw [← mk_data x]
    exact ByteArray.mk_append_mk _ _
  rw [h1, h2, List.append_assoc]
theorem flat_take_le {xs : List ByteArray} (h : xs.all isNm = true) (k : Nat) (hN : xs.length ≤ 6) : (flatN (xs.take k)).length ≤ 102 := by
  have hall : (xs.take k).all isNm = true := by
    rw [List.all_eq_true] at h ⊢
    exact fun x hx => h x (List.mem_of_mem_take hx)
  have h1 := flat_len (xs.take k) hall
  have h2 : (xs.take k).length ≤ 6 := by rw [List.length_take]; omega
  omega
theorem nm_size {xs : List ByteArray} {k : Nat} {x : ByteArray} (h : xs.all isNm = true) (hx : xs[k]? = some x) : x.size ≤ 16 := by
  rw [List.all_eq_true] at h
  have := h x (List.mem_of_getElem? hx)
  simp only [isNm, Bool.and_eq_true, decide_eq_true_eq] at this
  exact this.1.1.1.2
theorem flat_nil {xs : List ByteArray} (h : (mk (flatN xs)).toList = []) : xs = [] := by
  rw [ByteArray.toList_eq, data_mk] at h
  cases xs with
  | nil => rfl
  | cons x r => simp [flatN] at h

theorem of_none (a : Option Addr) (c : Nat) (w : World) :
    Calls Tryd.prog 50 #[.slice a 0 c] w fun e w' => e = .returned (.string (placeB [])) ∧ w' = w := by
  go_enter Tryd.func50, Tryd.ntmps50
  go_wp2
  refine wp_loop_rounds 1 ?_
  rw [rounds_succ]
  go_wp2
  go_ret
  exact ⟨rfl, rfl⟩

set_option maxRecDepth 100000 in
theorem of_any (a : Option Addr) (c : Nat) (xs : List ByteArray) (w : World) (hl : Lst w a xs) (hN : xs.length ≤ 6) (hall : xs.all isNm = true) :
    Calls Tryd.prog 50 #[.slice a xs.length c] w fun e w' => e = .returned (.string (placeB xs)) ∧ w' = w := by
  by_cases hx : xs = []
  · subst hx
    exact of_none a c w
  rcases hl with h | ⟨b, o, rfl, hlt, hs⟩
  · exact absurd h hx
  have hp : placeB xs = mk (flatN xs) := by rw [placeB, if_neg hx]
  have HP : Hid _ := hp
  have HS : Hid _ := hs
  have HA : Hid _ := hall
  have HX : Hid _ := hx
  have h0 : (ByteArray.mk #[]) = mk (flatN (xs.take 0)) := rfl
  have H0 : Hid _ := h0
  clear hp hs hall hx h0 hlt
  go_enter Tryd.func50, Tryd.ntmps50
  go_wp2
  go_loop [3, 4] (fun t i => ∃ k : Nat, i = .int .i64 k ∧ k ≤ xs.length ∧ t = .string (mk (flatN (xs.take k)))) (fun _ i => xs.length - (intOf i).toNat)
  case atStart => exact ⟨0, rfl, by omega, rfl⟩
  case round =>
    obtain ⟨k, rfl, hk, rfl⟩ := hrel
    by_cases hlt : k < xs.length
    · obtain ⟨x, hx⟩ : ∃ x, xs[k]? = some x := ⟨xs[k], List.getElem?_eq_getElem hlt⟩
      have hc := HS.out k x hx
      have hz := flat_take_le HA.out k hN
      have hz2 := nm_size HA.out hx
      have h47 : (⟨#[47]⟩ : ByteArray).size = 1 := rfl
      have hadd1 : (Op.stringOp .add (mk (flatN (xs.take k))) ⟨#[47]⟩).run Tryd.prog w = .ok (.string (mk (flatN (xs.take k)) ++ ⟨#[47]⟩)) w :=
        run_string_add_sum w _ _ (by rw [size_mk, h47]; omega)
      have hadd2 : (Op.stringOp .add (mk (flatN (xs.take k)) ++ ⟨#[47]⟩) x).run Tryd.prog w = .ok (.string (mk (flatN (xs.take (k + 1))))) w := by
        rw [run_string_add_sum w _ _ (by rw [ByteArray.size_append, size_mk, h47]; omega), flat_step hx]
      clear hx hz hz2 h47
      generalize hA : mk (flatN (xs.take k)) = A at *
      generalize hB : mk (flatN (xs.take (k + 1))) = B at *
      have HB : Hid _ := hB
      clear hA hB
      go_wp2
      go_round
      case rel => exact ⟨k + 1, by go_num, by omega, by rw [HB.out]⟩
      case measure => simp [intOf]; omega
    · obtain rfl : k = xs.length := by omega
      have hne : ¬ (mk (flatN (xs.take xs.length))).toList = [] := fun h => by
        rw [List.take_length] at h
        exact HX.out (flat_nil h)
      have hne' : (mk (flatN (xs.take xs.length))).toList.isEmpty = false := by simpa using hne
      have hpe : placeB xs = mk (flatN (xs.take xs.length)) := by rw [List.take_length, HP.out]
      generalize hA : mk (flatN (xs.take xs.length)) = A at *
      have HPE : Hid _ := hpe
      clear hpe hA
      go_wp2
      go_ret
      exact ⟨by rw [HPE.out]; rfl, rfl⟩

theorem refParse_none {s : ByteArray} {code : Int} (h : parse s = (code, [])) (w : World) :
    Calls Tryd.prog 36 #[.string s] w fun e w' => ∃ a c, e = .returned (.tuple #[.slice a 0 c, .int .i64 code]) ∧ Below w.heap.size w w' := by
  refine (refParse_any s w).mono ?_
  rintro e w' ⟨a, c, he, _, _, hb⟩
  rw [h] at he
  exact ⟨a, c, he, hb⟩
theorem refParse_some {s : ByteArray} {code : Int} {xs : List ByteArray} (h : parse s = (code, xs)) (hne : xs ≠ []) (w : World) :
    Calls Tryd.prog 36 #[.string s] w fun e w' =>
      ∃ b o c, e = .returned (.tuple #[.slice (some ⟨b, o, none⟩) xs.length c, .int .i64 code]) ∧ b < w'.heap.size ∧ Strs w' b o xs ∧ (xs.length ≤ c ∧ c ≤ maxLen) ∧ Below w.heap.size w w' := by
  refine (refParse_any s w).mono ?_
  rintro e w' ⟨a, c, he, hL, hcap, hb⟩
  rw [h] at he hL hcap
  rcases hL with h0 | ⟨b, o, rfl, hlt, hs⟩
  · exact absurd h0 hne
  · exact ⟨b, o, c, he, hlt, hs, hcap, hb⟩

theorem lst_take' {w : World} {b o : Nat} {xs : List ByteArray} (hlt : b < w.heap.size) (h : Strs w b o xs) (k : Nat) : Lst w (some ⟨b, o, none⟩) (xs.take k) := by
  refine .inr ⟨b, o, rfl, hlt, fun j x hx => h j x ?_⟩
  rw [List.getElem?_take] at hx
  split at hx
  · exact hx
  · cases hx
theorem all_take' {xs : List ByteArray} (h : xs.all isNm = true) (k : Nat) : (xs.take k).all isNm = true := by
  rw [List.all_eq_true] at h ⊢
  exact fun x hx => h x (List.mem_of_mem_take hx)

end Go.Proofs.YtponpkfdkdnaeaaDoor
