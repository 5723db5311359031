/-
  heraldlaw9: changes that came in.
-/
import Derived.Test.YtbblckcjedjbcaaGreatDoorXRowsy
import Derived.Test.YtbblckcjedjbcaaGreatDoorJSame
namespace Go.Proofs.YtbblckcjedjbcaaGreatDoor.J
open Go.RowKit Go.ChangeShapes Go.WideShapes Go.ChangeAt
set_option linter.unusedVariables false
set_option linter.unusedSimpArgs false

theorem cg_of {H : Type} {enc : TypeId × Value → H} {W : World} {n : Nat} {cs : List Value} {y : DataW H × List MemPlace} (h : DataW.trod enc Tryz.prog W 0 (fun _ => true) true n 24 cs = some y) : ∃ x : Cg, cs = x.cs := by
  obtain ⟨xs, m, _, hx, hl, hxl, hf⟩ := DataW.trod_struct Tryz.underlying24 h
  rw [Tryz.cellsC9] at hl
  obtain ⟨c0, c1, c2, c3, rfl⟩ := li4 hl
  obtain ⟨x0, x1, x2, x3, rfl⟩ := li4 (l := xs) hxl
  obtain ⟨z0, q0, _⟩ := DataW.trod_int Tryz.underlying3 (hf 0 _ rfl)
  obtain ⟨z1, q1, _⟩ := DataW.trod_string Tryz.underlying9 (hf 1 _ rfl)
  obtain ⟨z2, q2, _⟩ := DataW.trod_string Tryz.underlying9 (hf 2 _ rfl)
  obtain ⟨z3, q3, _⟩ := DataW.trod_int Tryz.underlying3 (hf 3 _ rfl)
  simp [Tryz.cells3x, Tryz.cells9x] at q0 q1 q2 q3
  subst q0 q1 q2 q3
  exact ⟨⟨z0, z1, z2, z3⟩, rfl⟩
theorem chs9_of {H : Type} {enc : TypeId × Value → H} {W : World} {n : Nat} {v : Value} {y : DataW H × List MemPlace} (h : DataW.trod enc Tryz.prog W 0 (fun _ => true) true n 55 [v] = some y) :
    ∃ a c L, v = .slice a L.length c ∧ CsAt W a L ∧ L.length ≤ c ∧ L.length ≤ maxLen := by
  rcases Go.Deep.open_slice Tryz.underlying55 h with ⟨hcs, _⟩ | ⟨x, len, cap, m, n', D, Pl, hcs, _, hl, hm, hmm, _, hx⟩
  · have hv : v = .slice none 0 0 := by simpa using hcs
    subst hv
    exact ⟨none, 0, [], rfl, .inl rfl, Nat.zero_le _, Nat.zero_le _⟩
  · have hv : v = .slice (some x) len cap := by simpa using hcs
    subst hv
    have hmc : m = cap := by simpa using hmm
    subst hmc
    have each : ∀ i, i < len → ∃ s : Cg, ∀ j x', s.cs[j]? = some x' → W.cell? ((x.add (i * 4)).add j) = some x' := by
      intro i hi
      obtain ⟨cs', h1, h2⟩ := hx i (by omega)
      obtain ⟨s, rfl⟩ := cg_of h2
      rw [Tryz.cellsC9] at h1
      obtain ⟨_, _, hc⟩ := World.cells?_some h1
      exact ⟨s, fun j x' hj => by rw [hc j (by have := (List.getElem?_eq_some_iff.1 hj).1; simpa using this)]; exact hj⟩
    obtain ⟨l, hll, hls⟩ := listsOf len each
    subst hll
    refine ⟨some x, m, l, rfl, ?_, hl, Nat.le_trans hl hm⟩
    by_cases h0 : l = []
    · exact .inl h0
    · right
      obtain ⟨b, o, spot⟩ := x
      obtain ⟨s0, hs0⟩ : ∃ s, l[0]? = some s := ⟨l[0]'(List.length_pos_iff.2 h0), List.getElem?_eq_getElem _⟩
      have hc0 := hls 0 s0 hs0 0 _ rfl
      have hspot : spot = none := by simpa [Addr.add] using World.cell?_spot hc0
      subst hspot
      refine ⟨b, o, rfl, ?_, fun i j s x' hi hj => ?_⟩
      · have := World.block_lt_of_cell? _ _ hc0
        simpa [Addr.add] using this
      · have := hls i s hi j x' hj
        rw [addr_add, addr_add, Nat.add_assoc] at this
        exact this
end Go.Proofs.YtbblckcjedjbcaaGreatDoor.J
