/-
  placeOf and heraldref1.Of: the place of names.
-/
import Derived.Test.YtcoicoijllpgnaaDoorKnown
import Derived.Laws.Concat
namespace Go.Proofs.YtcoicoijllpgnaaDoor
open Go.RowKit

/-- Each name with a slash ahead. -/
def flatN (xs : List ByteArray) : List UInt8 := xs.flatMap fun x => 47 :: x.data.toList
/-- The place of names. -/
def placeB (xs : List ByteArray) : ByteArray := if xs = [] then mk [47] else mk (flatN xs)

theorem join_flat : ∀ (xs : List ByteArray), xs ≠ [] → 47 :: Lib.join (xs.map (·.data.toList)) [47] = flatN xs
  | [], h => absurd rfl h
  | [x], _ => by simp [Lib.join, flatN, List.intercalate]
  | x :: y :: r, _ => by
    have ih := join_flat (y :: r) (by simp)
    unfold Lib.join at ih ⊢
    simp only [flatN, List.flatMap_cons, List.map_cons, List.intercalate, List.intersperse_cons_cons, List.flatten_cons] at ih ⊢
    rw [← ih]
    simp

theorem flat_len : ∀ (xs : List ByteArray), xs.all isNm = true → (flatN xs).length ≤ 17 * xs.length
  | [], _ => by simp [flatN]
  | x :: r, h => by
    rw [List.all_cons, Bool.and_eq_true] at h
    have ih := flat_len r h.2
    have hx : x.size ≤ 16 := by
      have := h.1
      simp only [isNm, Bool.and_eq_true, decide_eq_true_eq] at this
      exact this.1.1.1.2
    simp only [flatN, List.flatMap_cons, List.length_append, List.length_cons] at ih ⊢
    have e : x.data.toList.length = x.size := by simp
    omega

theorem add_slash (l : List UInt8) : (⟨#[47]⟩ : ByteArray) ++ mk l = mk (47 :: l) := by
  show ByteArray.mk [47].toArray ++ ByteArray.mk l.toArray = _
  rw [ByteArray.mk_append_mk]
  rfl

theorem placeOf_any (a : Option Addr) (c : Nat) (xs : List ByteArray) (w : World) (hl : Lst w a xs) (hc : xs.length ≤ c) (hN : xs.length ≤ 6) (hall : xs.all isNm = true) :
    Calls Tryd.prog 57 #[.slice a xs.length c] w fun e w' => e = .returned (.string (placeB xs)) ∧ Below w.heap.size w w' := by
  have hflat := flat_len xs hall
  rcases hl with rfl | ⟨b, o, rfl, hlt, hs⟩
  · have hj : Hid (∀ w, Calls Tryd.prog 72 #[.slice a 0 c, .string ⟨#[47]⟩] w fun e w' => e = .returned (.string ⟨#[]⟩) ∧ w' = w) := fun w => Tryd.strings_Join_none a c ⟨#[47]⟩ w
    have hadd : (Op.stringOp .add (⟨#[47]⟩ : ByteArray) ⟨#[]⟩).run Tryd.prog w = .ok (.string (placeB [])) w := by
      rw [run_string_add_sum w _ _ (by decide)]
      rfl
    clear hc hN hall hflat
    go_enter Tryd.func57, Tryd.ntmps57
    go_wp2_with (first | (go_at_call 72; refine (hj.out _).mono ?_; rintro e w' ⟨rfl, rfl⟩))
    go_ret
    exact ⟨rfl, Below.refl _ _⟩
  · by_cases hx : xs = []
    · subst hx
      have hj : Hid (∀ w, Calls Tryd.prog 72 #[.slice (some ⟨b, o, none⟩) 0 c, .string ⟨#[47]⟩] w fun e w' => e = .returned (.string ⟨#[]⟩) ∧ w' = w) := fun w => Tryd.strings_Join_none _ c ⟨#[47]⟩ w
      have hadd : (Op.stringOp .add (⟨#[47]⟩ : ByteArray) ⟨#[]⟩).run Tryd.prog w = .ok (.string (placeB [])) w := by
        rw [run_string_add_sum w _ _ (by decide)]
        rfl
      clear hc hN hall hflat hs hlt
      go_enter Tryd.func57, Tryd.ntmps57
      go_wp2_with (first | (go_at_call 72; refine (hj.out _).mono ?_; rintro e w' ⟨rfl, rfl⟩))
      go_ret
      exact ⟨rfl, Below.refl _ _⟩
    · obtain ⟨j, hjd⟩ : ∃ j, j = Lib.join (xs.map (·.data.toList)) [47] := ⟨_, rfl⟩
      have hjl : j.length + 1 ≤ 102 := by
        have := congrArg List.length (join_flat xs hx)
        simp only [List.length_cons] at this
        rw [hjd]
        omega
      have hp : placeB xs = mk (47 :: j) := by rw [placeB, if_neg hx, hjd, join_flat xs hx]
      have hj : Hid (Calls Tryd.prog 72 #[.slice (some ⟨b, o, none⟩) xs.length c, .string ⟨#[47]⟩] w fun e w' => e = .returned (.string (mk j)) ∧ Below w.heap.size w w') := by
        have := Tryd.strings_Join b o c xs ⟨#[47]⟩ w hs hlt (by omega) hc (by show (Lib.join _ [47]).length ≤ _; rw [← hjd]; omega)
        refine this.mono fun e w' ⟨he, hb⟩ => ⟨?_, hb⟩
        rw [he, hjd]
        rfl
      have hadd : Hid (∀ w, (Op.stringOp .add (⟨#[47]⟩ : ByteArray) (mk j)).run Tryd.prog w = .ok (.string (placeB xs)) w) := fun w => by
        have h47 : (⟨#[47]⟩ : ByteArray).size = 1 := rfl
        rw [run_string_add_sum w _ _ (by rw [size_mk, h47]; omega), add_slash, hp]
      clear hp hjd hjl hc hN hall hflat hs hlt hx
      generalize mk j = js at *
      generalize placeB xs = pb at *
      go_enter Tryd.func57, Tryd.ntmps57
      go_wp2_with (first | (go_at_call 72; refine Calls.mono hj.out ?_; rintro e w1 ⟨rfl, hb⟩; have HB : Hid _ := hb; clear hb; have hadd1 := hadd.out w1))
      go_ret
      exact ⟨rfl, HB.out⟩
end Go.Proofs.YtcoicoijllpgnaaDoor
