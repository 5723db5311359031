/-
  line: what operations on the map of messages do.
-/
import Derived.Test.YtfcobhgjkibdgaaLMap
namespace Go.Proofs.Ytfcobhgjkibdgaa
open Go.RowKit Go.Maps
set_option linter.unusedVariables false
set_option linter.unusedSimpArgs false

theorem keyedI : Keyed Try.prog 3 := int_keyed Try.underlying3
theorem keyI {n : Int} (h : (Lit.int .i64 n).wf = true) : keyOf Try.prog 3 (.int .i64 n) = some (kyI n) := keyOf_int_mk Try.underlying3 h
/-- A map of messages in flight: nil, or a block. -/
def FlM (w : World) (K : Nat → Prop) (mv : Value) (fl : List PcT) (val : PcT → Value) : Prop :=
  (mv = .map none ∧ fl = [] ∧ ∀ j, ¬ K j) ∨ ∃ mb D, mv = .map (some mb) ∧ (∀ j, K j ↔ j = mb) ∧ w.ownsMap Try.prog 3 raw mb fl.length D ∧ RepM D fl val
theorem FlM.keep {w w' : World} {K : Nat → Prop} {mv : Value} {fl : List PcT} {val : PcT → Value} (h : FlM w K mv fl val) (hk : Kp w w' K) : FlM w' K mv fl val := by
  rcases h with h | ⟨mb, D, h1, h2, h3, h4⟩
  · exact .inl h
  · refine .inr ⟨mb, D, h1, h2, ?_, h4⟩
    have hlt := h3.lt
    obtain ⟨es, clock, hb, F, hs, hD⟩ := h3
    exact ⟨es, clock, (hk.block mb hlt ((h2 mb).2 rfl)).trans hb, F, hs, hD⟩
theorem FlM.lt {w : World} {K : Nat → Prop} {mv : Value} {fl : List PcT} {val : PcT → Value} (h : FlM w K mv fl val) : ∀ j, K j → j < w.heap.size := fun j hj => by
  rcases h with ⟨_, _, h⟩ | ⟨mb, D, _, h2, h3, _⟩
  · exact absurd hj (h j)
  · rw [(h2 j).1 hj]; exact h3.lt
theorem FlM.sort {w : World} {K : Nat → Prop} {mv : Value} {fl : List PcT} {val : PcT → Value} (h : FlM w K mv fl val) : ∀ j cur t, K j → w.heap[j]? ≠ some (.cells cur t (0, 0)) := fun j cur t hj e => by
  rcases h with ⟨_, _, h⟩ | ⟨mb, D, _, h2, h3, _⟩
  · exact absurd hj (h j)
  · obtain ⟨es, clock, hb, _⟩ := h3
    rw [(h2 j).1 hj, hb] at e
    cases e
theorem FlM.len {w : World} {K : Nat → Prop} {mv : Value} {fl : List PcT} {val : PcT → Value} {tM tE : TypeId} (ht : Try.prog.underlying tM = some (.map 3 tE)) (h : FlM w K mv fl val) (ty : TypeId) : (Builtin.len_ #[tM] ty #[mv]).run Try.prog w = .ok (.int .i64 (fl.length : Int)) w := by
  rcases h with ⟨rfl, rfl, _⟩ | ⟨mb, D, rfl, _, h3, h4⟩
  · exact Maps.len_nil ht ty
  · rw [← h4.size]
    exact h3.len ht ty
/-- What a look-up gives. -/
def atV (fl : List PcT) (val : PcT → Value) (z : Value) (n : Int) : Value := match fnd fl n with | some p => val p | none => z
theorem FlM.look {w : World} {K : Nat → Prop} {mv : Value} {fl : List PcT} {val : PcT → Value} {tM tE : TypeId} {z : Value} (ht : Try.prog.underlying tM = some (.map 3 tE)) (hz : (zeroValue tE).run Try.prog w = .ok z w) (h : FlM w K mv fl val) {n : Int} (hn : (Lit.int .i64 n).wf = true) : (Instr.lookup tM mv (.int .i64 n) true).run Try.prog w = .ok (.tuple #[atV fl val z n, .bool (fnd fl n).isSome]) w := by
  rcases h with ⟨rfl, rfl, _⟩ | ⟨mb, D, rfl, _, h3, h4⟩
  · exact Maps.look_nil true keyedI ht hz (keyI hn)
  · obtain ⟨v, ps, hrun, hv⟩ := h3.look_ok keyedI ht hz (zd := .held z) (zp := []) rfl (keyI hn)
    rw [hrun, h4.has]
    have e : v = atV fl val z n := by
      unfold atV
      cases hf : fnd fl n with
      | some p => rw [h4.at' n p _ hf] at hv; exact raw_inv hv
      | none => rw [Maps.atKey_of_not_has (by rw [h4.has, hf]; rfl)] at hv; exact raw_inv hv
    rw [e]
theorem wf_nat {n : Nat} (h : n ≤ 1099511627777) : (Lit.int .i64 (n : Int)).wf = true := WalkArith.wf_i64 (by omega)
end Go.Proofs.Ytfcobhgjkibdgaa
