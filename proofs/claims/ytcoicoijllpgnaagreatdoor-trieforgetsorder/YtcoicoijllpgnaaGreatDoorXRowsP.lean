/-
  heraldlaw9: places that came in.
-/
import Derived.Test.YtcoicoijllpgnaaGreatDoorXRowsy
import Derived.Test.YtcoicoijllpgnaaGreatDoorXAlike
namespace Go.Proofs.YtcoicoijllpgnaaGreatDoor
open Go.RowKit Go.ChangeShapes Go.WideShapes Go.ChangeAt
set_option linter.unusedVariables false
set_option linter.unusedSimpArgs false

theorem pls_of {H : Type} {enc : TypeId × Value → H} {W : World} {n : Nat} {v : Value} {y : DataW H × List MemPlace} (h : DataW.trod enc Tryz.prog W 0 (fun _ => true) true n 55 [v] = some y) :
    ∃ a c L, v = .slice a L.length c ∧ PsAt W a L ∧ True ∧ L.length ≤ maxLen := by
  rcases Go.Deep.open_slice Tryz.underlying55 h with ⟨hcs, _⟩ | ⟨x, len, cap, m, n', D, Pl, hcs, _, hl, hm, hmm, _, hx⟩
  · have hv : v = .slice none 0 0 := by simpa using hcs
    subst hv
    exact ⟨none, 0, [], rfl, .inl rfl, trivial, Nat.zero_le _⟩
  · have hv : v = .slice (some x) len cap := by simpa using hcs
    subst hv
    have hmc : m = cap := by simpa using hmm
    subst hmc
    have each : ∀ i, i < len → ∃ s : ByteArray, W.cell? ((x.add (i * 1)).add 0) = some (.string s) := by
      intro i hi
      obtain ⟨cs', h1, h2⟩ := hx i (by omega)
      obtain ⟨s, hs, _⟩ := DataW.trod_string Tryz.underlying9 h2
      subst hs
      rw [Tryz.cells9x] at h1
      obtain ⟨_, _, hc⟩ := World.cells?_some h1
      exact ⟨s, hc 0 (by omega)⟩
    obtain ⟨l, hll, hls⟩ := listsOf len each
    subst hll
    refine ⟨some x, m, l, rfl, ?_, trivial, Nat.le_trans hl hm⟩
    by_cases h0 : l = []
    · exact .inl h0
    · right
      obtain ⟨b, o, spot⟩ := x
      obtain ⟨s0, hs0⟩ : ∃ s, l[0]? = some s := ⟨l[0]'(List.length_pos_iff.2 h0), List.getElem?_eq_getElem _⟩
      have hc0 := hls 0 s0 hs0
      have hspot : spot = none := by simpa [Addr.add] using World.cell?_spot hc0
      subst hspot
      refine ⟨b, o, rfl, ?_, fun i s hi => ?_⟩
      · have := World.block_lt_of_cell? _ _ hc0
        simpa [Addr.add] using this
      · have := hls i s hi
        rw [addr_add, addr_add, Nat.mul_one, Nat.add_zero] at this
        exact this
theorem wf_rng {a : Int} (h : (Lit.int .i64 a).wf = true) : -9223372036854775808 ≤ a ∧ a ≤ 9223372036854775807 := by
  unfold Lit.wf at h
  rw [Bool.and_eq_true, decide_eq_true_eq, decide_eq_true_eq] at h
  exact ⟨h.1, h.2⟩
end Go.Proofs.YtcoicoijllpgnaaGreatDoor
