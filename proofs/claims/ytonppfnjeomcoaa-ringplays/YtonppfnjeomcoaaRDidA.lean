/-
  did, whatever the kind.
-/
import Derived.Test.YtonppfnjeomcoaaRDid1
import Derived.Test.YtonppfnjeomcoaaRDid3
import Derived.Test.YtonppfnjeomcoaaRDid4
import Derived.Test.YtonppfnjeomcoaaRDid5
import Derived.Test.YtonppfnjeomcoaaRDid6
import Derived.Test.YtonppfnjeomcoaaRDidElse
namespace Go.Proofs.Ytonppfnjeomcoaa
open Go.RowKit Classical
set_option linter.unusedVariables false
set_option linter.unusedSimpArgs false

/-- What an act means for a ring: was it taken, what is held, what the ring is then. -/
structure Acted (A : ActT) (held : Int) (R : RingT) (t : Bool) (h' : Int) (R' : RingT) : Prop where
  app : A.kd = 1 ∨ A.kd = 2 → h' = held ∧ ∃ e, (A.kd = 1 → e = A.nearE R.last R.top) ∧ (A.kd = 2 → e = A.e) ∧ e.ops = A.e.ops ∧ (t = true → R.may e = 0 ∧ R' = R.app e) ∧ (t = false → R.may e ≠ 0 ∧ R' = R)
  hold : A.kd = 3 ∨ A.kd = 4 → ∃ n, (A.kd = 3 → n = wrap64 (held + A.n)) ∧ (A.kd = 4 → n = A.n) ∧ (t = true → R.free n = 0 ∧ h' = n ∧ R' = { R with hold := n.toNat }) ∧ (t = false → R.free n ≠ 0 ∧ h' = held ∧ R' = R)
  cut : A.kd = 5 ∨ A.kd = 6 → h' = held ∧ ∃ n, (A.kd = 5 → n = wrap64 ((R.last : Int) - A.n)) ∧ (A.kd = 6 → n = A.n) ∧ (t = true → R.free n = 0 ∧ R' = R.cut n) ∧ (t = false → R.free n ≠ 0 ∧ R' = R)
  other : A.kd ≠ 1 → A.kd ≠ 2 → A.kd ≠ 3 → A.kd ≠ 4 → A.kd ≠ 5 → A.kd ≠ 6 → t = false ∧ h' = held ∧ R' = R
theorem did_any (b : Nat) (R : RingT) (A : ActT) (held : Int) (a : Option Addr) (c n : Nat) (w : World) (h : RingAt w b R) (ho : Os w a A.e.ops) (hn : A.e.ops.length = n) (hs : A.e.Small) :
    Calls Try.prog 22 #[.pointer (some ⟨b, 0, none⟩), A.val (.slice a n c), .int .i64 held] w fun e' w' => ∃ t h' R', Acted A held R t h' R' ∧ e' = .returned (.tuple #[.bool t, .int .i64 h']) ∧ RStep w w' (some ⟨b, 0, none⟩) R' := by
  by_cases k1 : A.kd = 1
  · refine (did_1 b R A held a c n w h ho hn hs k1).mono ?_
    rintro e' w' ⟨rfl, hst⟩
    refine ⟨_, _, _, ⟨fun _ => ⟨rfl, _, fun _ => rfl, fun h => absurd h (by omega), nearE_ops _ _ _, fun ht => ?_, fun ht => ?_⟩, fun h => ?_, fun h => ?_, fun h => absurd k1 h⟩, rfl, hst⟩
    · have ht' := of_decide_eq_true ht
      exact ⟨ht', if_pos ht'⟩
    · have ht' := of_decide_eq_false ht
      exact ⟨ht', if_neg ht'⟩
    · exact absurd h (by omega)
    · exact absurd h (by omega)
  by_cases k2 : A.kd = 2
  · refine (did_2 b R A held a c n w h ho hn hs k2).mono ?_
    rintro e' w' ⟨rfl, hst⟩
    refine ⟨_, _, _, ⟨fun _ => ⟨rfl, _, fun h => absurd h k1, fun _ => rfl, rfl, fun ht => ?_, fun ht => ?_⟩, fun h => ?_, fun h => ?_, fun _ h => absurd k2 h⟩, rfl, hst⟩
    · have ht' := of_decide_eq_true ht
      exact ⟨ht', if_pos ht'⟩
    · have ht' := of_decide_eq_false ht
      exact ⟨ht', if_neg ht'⟩
    · exact absurd h (by omega)
    · exact absurd h (by omega)
  by_cases k3 : A.kd = 3
  · refine (did_3 b R A held a c n w h k3).mono ?_
    rintro e' w' ⟨rfl, hst⟩
    refine ⟨_, _, _, ⟨fun h => absurd h (by omega), fun h => ⟨_, fun _ => rfl, fun h => absurd h (by omega), fun ht => ?_, fun ht => ?_⟩, fun h => absurd h (by omega), fun _ _ h => absurd k3 h⟩, rfl, hst⟩
    · have ht' := of_decide_eq_true ht
      exact ⟨ht', if_pos ht', if_pos ht'⟩
    · have ht' := of_decide_eq_false ht
      exact ⟨ht', if_neg ht', if_neg ht'⟩
  by_cases k4 : A.kd = 4
  · refine (did_4 b R A held a c n w h k4).mono ?_
    rintro e' w' ⟨rfl, hst⟩
    refine ⟨_, _, _, ⟨fun h => absurd h (by omega), fun h => ⟨_, fun h => absurd h (by omega), fun _ => rfl, fun ht => ?_, fun ht => ?_⟩, fun h => absurd h (by omega), fun _ _ _ h => absurd k4 h⟩, rfl, hst⟩
    · have ht' := of_decide_eq_true ht
      exact ⟨ht', if_pos ht', if_pos ht'⟩
    · have ht' := of_decide_eq_false ht
      exact ⟨ht', if_neg ht', if_neg ht'⟩
  by_cases k5 : A.kd = 5
  · refine (did_5 b R A held a c n w h k5).mono ?_
    rintro e' w' ⟨rfl, hst⟩
    refine ⟨_, _, _, ⟨fun h => absurd h (by omega), fun h => absurd h (by omega), fun h => ⟨rfl, _, fun _ => rfl, fun h => absurd h (by omega), fun ht => ?_, fun ht => ?_⟩, fun _ _ _ _ h => absurd k5 h⟩, rfl, hst⟩
    · have ht' := of_decide_eq_true ht
      exact ⟨ht', if_pos ht'⟩
    · have ht' := of_decide_eq_false ht
      exact ⟨ht', if_neg ht'⟩
  by_cases k6 : A.kd = 6
  · refine (did_6 b R A held a c n w h k6).mono ?_
    rintro e' w' ⟨rfl, hst⟩
    refine ⟨_, _, _, ⟨fun h => absurd h (by omega), fun h => absurd h (by omega), fun h => ⟨rfl, _, fun h => absurd h (by omega), fun _ => rfl, fun ht => ?_, fun ht => ?_⟩, fun _ _ _ _ _ h => absurd k6 h⟩, rfl, hst⟩
    · have ht' := of_decide_eq_true ht
      exact ⟨ht', if_pos ht'⟩
    · have ht' := of_decide_eq_false ht
      exact ⟨ht', if_neg ht'⟩
  refine (did_else b R A held a c n w h k1 k2 k3 k4 k5 k6).mono ?_
  rintro e' w' ⟨rfl, hst⟩
  exact ⟨_, _, _, ⟨fun h => absurd h (by omega), fun h => absurd h (by omega), fun h => absurd h (by omega), fun _ _ _ _ _ _ => ⟨rfl, rfl, rfl⟩⟩, rfl, hst⟩
end Go.Proofs.Ytonppfnjeomcoaa
