/-
  shot: turned.
-/
import Derived.Test.YtbamkdohaofgdaaGreatDoorSTurn
namespace Go.Proofs.YtbamkdohaofgdaaGreatDoor
open Go.RowKit
set_option linter.unusedVariables false
set_option linter.unusedSimpArgs false

theorem owns_form {w : World} {B e s n : Nat} {v : Value} {xs : List Value} (h : w.ownsRow B e s v n xs) : ∃ a c, v = .slice a n c ∧ (a = none → c = 0) := by
  rcases h.2 with ⟨rfl, rfl⟩ | ⟨g, cap, cur, rfl, _⟩
  · exact ⟨none, 0, rfl, fun _ => rfl⟩
  · exact ⟨_, _, rfl, fun h => by cases h⟩
theorem ss_of_row {w : World} {base n c : Nat} {a : Option Addr} {l : List SeenT} (h : w.ownsRow base 52 3 (.slice a n c) n (seCs l)) : Ss w a l := by
  cases a with
  | none =>
    rcases h.2 with ⟨_, rfl⟩ | ⟨g, cap, cur, hv, _⟩
    · have := h.1
      rw [seCs_len] at this
      exact .inl (List.eq_nil_of_length_eq_zero (by omega))
    · cases hv
  | some ad =>
    rcases h.2 with ⟨hv, _⟩ | ⟨g, cap, cur, hv, _⟩
    · cases hv
    · cases hv
      exact ss_of_owns (rest := []) (by rw [List.append_nil]; exact h)
theorem ss_chg {w w' : World} {S : Nat → Prop} {a : Option Addr} {l : List SeenT} (h : Ss w a l) (hc : Chg w w' S) (hs : ∀ b o, a = some ⟨b, o, none⟩ → ¬ S b) : Ss w' a l := by
  rcases h with h | ⟨b, o, ha, hlt, hx⟩
  · exact .inl h
  · refine .inr ⟨b, o, ha, Nat.lt_of_lt_of_le hlt hc.size, fun i s hi j x hj => ?_⟩
    rw [World.cell?_of_block (w := w) (hc.block b hlt (hs b o ha))]
    exact hx i s hi j x hj

end Go.Proofs.YtbamkdohaofgdaaGreatDoor
