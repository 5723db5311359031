/-
  heraldlaw9: acts that came in.
-/
import Derived.Test.YtbblckcjedjbcaaGreatDoorXRowsy
import Derived.Test.YtbblckcjedjbcaaGreatDoorJOf
namespace Go.Proofs.YtbblckcjedjbcaaGreatDoor.J
open Go.RowKit Go.ChangeShapes Go.WideShapes Go.ChangeAt
set_option linter.unusedVariables false
set_option linter.unusedSimpArgs false

theorem Tryz.cellsA9 : Tryz.prog.cellsOf 72 = 6 := by kernel_rfl
theorem li3 {α : Type} {l : List α} (h : l.length = 3) : ∃ a b c, l = [a, b, c] := by
  match l, h with
  | [a, b, c], _ => exact ⟨a, b, c, rfl⟩
theorem li6 {α : Type} {l : List α} (h : l.length = 6) : ∃ a b c d e f, l = [a, b, c, d, e, f] := by
  match l, h with
  | [a, b, c, d, e, f], _ => exact ⟨a, b, c, d, e, f, rfl⟩
theorem act_of {H : Type} {enc : TypeId × Value → H} {W : World} {n : Nat} {cs : List Value} {y : DataW H × List MemPlace} (h : DataW.trod enc Tryz.prog W 0 (fun _ => true) true n 72 cs = some y) : ∃ x : AcT, cs = x.cl ∧ wfI x.K ∧ wfI x.s ∧ wfI x.i ∧ wfI x.k ∧ wfI x.f := by
  obtain ⟨xs, m, _, hx, hl, hxl, hf⟩ := DataW.trod_struct Tryz.underlying72 h
  rw [Tryz.cellsA9] at hl
  obtain ⟨c0, c1, c2, c3, c4, c5, rfl⟩ := li6 hl
  obtain ⟨x0, x1, x2, rfl⟩ := li3 (l := xs) hxl
  have g1 : DataW.trod enc Tryz.prog W 0 (fun _ => true) true m 40 (([c0, c1, c2, c3, c4, c5].drop 2).take (Tryz.prog.cellsOf 40)) = [x0, x1, x2][2]? := hf 2 _ rfl
  rw [Tryz.cellsW9] at g1
  have g1' : DataW.trod enc Tryz.prog W 0 (fun _ => true) true m 40 [c2, c3, c4, c5] = some x2 := g1
  obtain ⟨z0, q0, _, w0⟩ := DataW.trod_int Tryz.underlying3 (hf 0 _ rfl)
  obtain ⟨z5, q5, _, w5⟩ := DataW.trod_int Tryz.underlying3 (hf 1 _ rfl)
  obtain ⟨ys, m', _, hy, hl', hyl, hg⟩ := DataW.trod_struct Tryz.underlying40 g1'
  obtain ⟨y0, y1, y2, y3, rfl⟩ := li4 (l := ys) hyl
  obtain ⟨z1, q1, _, w1⟩ := DataW.trod_int Tryz.underlying3 (hg 0 _ rfl)
  obtain ⟨z2, q2, _⟩ := DataW.trod_string Tryz.underlying9 (hg 1 _ rfl)
  obtain ⟨z3, q3, _, w3⟩ := DataW.trod_int Tryz.underlying3 (hg 2 _ rfl)
  obtain ⟨z4, q4, _, w4⟩ := DataW.trod_int Tryz.underlying3 (hg 3 _ rfl)
  simp [Tryz.cells3x, Tryz.cells9x] at q0 q1 q2 q3 q4 q5
  subst q0 q1 q2 q3 q4 q5
  exact ⟨⟨z0, z5, z1, z2, z3, z4⟩, rfl, w0, w5, w1, w3, w4⟩
theorem acts9_of {H : Type} {enc : TypeId × Value → H} {W : World} {n : Nat} {v : Value} {y : DataW H × List MemPlace} (h : DataW.trod enc Tryz.prog W 0 (fun _ => true) true n 65 [v] = some y) :
    ∃ a c L, v = .slice a L.length c ∧ AcAt W a L ∧ (∀ x ∈ L, wfI x.K ∧ wfI x.s ∧ wfI x.i ∧ wfI x.k ∧ wfI x.f) ∧ L.length ≤ maxLen := by
  rcases Go.Deep.open_slice Tryz.underlying65 h with ⟨hcs, _⟩ | ⟨x, len, cap, m, n', D, Pl, hcs, _, hl, hm, hmm, _, hx⟩
  · have hv : v = .slice none 0 0 := by simpa using hcs
    subst hv
    exact ⟨none, 0, [], rfl, .inl rfl, fun o ho => (by cases ho), Nat.zero_le _⟩
  · have hv : v = .slice (some x) len cap := by simpa using hcs
    subst hv
    have hmc : m = cap := by simpa using hmm
    subst hmc
    have each : ∀ i, i < len → ∃ s : AcT, (∀ j x', s.cl[j]? = some x' → W.cell? ((x.add (i * 6)).add j) = some x') ∧ wfI s.K ∧ wfI s.s ∧ wfI s.i ∧ wfI s.k ∧ wfI s.f := by
      intro i hi
      obtain ⟨cs', h1, h2⟩ := hx i (by omega)
      obtain ⟨s, rfl, hw⟩ := act_of h2
      rw [Tryz.cellsA9] at h1
      obtain ⟨_, _, hc⟩ := World.cells?_some h1
      exact ⟨s, fun j x' hj => by rw [hc j (by have := (List.getElem?_eq_some_iff.1 hj).1; simpa using this)]; exact hj, hw⟩
    obtain ⟨l, hll, hls⟩ := listsOf len each
    subst hll
    refine ⟨some x, m, l, rfl, ?_, fun o ho => ?_, Nat.le_trans hl hm⟩
    · by_cases h0 : l = []
      · exact .inl h0
      · right
        obtain ⟨b, o, spot⟩ := x
        obtain ⟨s0, hs0⟩ : ∃ s, l[0]? = some s := ⟨l[0]'(List.length_pos_iff.2 h0), List.getElem?_eq_getElem _⟩
        have hc0 := (hls 0 s0 hs0).1 0 _ rfl
        have hspot : spot = none := by simpa [Addr.add] using World.cell?_spot hc0
        subst hspot
        refine ⟨b, o, rfl, ?_, fun i j s x' hi hj => ?_⟩
        · have := World.block_lt_of_cell? _ _ hc0
          simpa [Addr.add] using this
        · have := (hls i s hi).1 j x' hj
          rw [addr_add, addr_add, Nat.add_assoc] at this
          exact this
    · obtain ⟨j, hj⟩ := List.getElem?_of_mem ho
      exact (hls j o hj).2
end Go.Proofs.YtbblckcjedjbcaaGreatDoor.J
