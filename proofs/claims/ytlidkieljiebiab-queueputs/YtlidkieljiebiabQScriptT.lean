/-
  queue: scripts that came in, with room for one thing more.
-/
import Derived.Test.YtlidkieljiebiabQTwinsP
namespace Go.Proofs.Ytlidkieljiebiab
open Go.RowKit Go.ChangeShapes Go.WideShapes Go.ChangeAt
set_option linter.unusedVariables false
set_option linter.unusedSimpArgs false

structure StT.Tight (t : StT) : Prop where
  cs : TgsTight t.cs
  ps : PasTight t.ps
theorem tagged_ofT {H : Type} {enc : TypeId × Value → H} {W : World} (n : Nat) (cs : List Value) (y : DataW H × List MemPlace) (h : DataW.trod enc Try.prog W 0 (fun _ => true) true n 71 cs = some y) (hz : ∀ m ∈ y.1.weights Try.prog 71, m ≤ reachBytes) : ∃ x : TgT, (x.Small ∧ (x.tags.length + 1) * 8 ≤ 140737488355328) ∧ ∀ b o, (∀ j x', cs[j]? = some x' → W.cell? ⟨b, o + j, none⟩ = some x') → ∃ u, tgE W (fun b => b < W.heap.size) b o x u := by
  obtain ⟨xs, m, _, hx, hl, hxl, hf⟩ := DataW.trod_struct Try.underlying71 h
  rw [Try.cellsTg] at hl
  obtain ⟨c0, c1, c2, c3, c4, rfl⟩ := list5 hl
  obtain ⟨x0, x1, rfl⟩ := list2 (l := xs) hxl
  have g0 : DataW.trod enc Try.prog W 0 (fun _ => true) true m 68 (([c0, c1, c2, c3, c4].drop 0).take (Try.prog.cellsOf 68)) = [x0, x1][0]? := hf 0 _ rfl
  rw [Try.cellsChq] at g0
  have g0' : DataW.trod enc Try.prog W 0 (fun _ => true) true m 68 [c0, c1, c2, c3] = some x0 := g0
  have g1 : DataW.trod enc Try.prog W 0 (fun _ => true) true m 69 (([c0, c1, c2, c3, c4].drop 4).take (Try.prog.cellsOf 69)) = [x0, x1][1]? := hf 1 _ rfl
  rw [Try.cellsIns] at g1
  have g1' : DataW.trod enc Try.prog W 0 (fun _ => true) true m 69 [c4] = some x1 := g1
  clear g0 g1
  obtain ⟨ys, m', _, hy, hl', hyl, hg⟩ := DataW.trod_struct Try.underlying68 g0'
  obtain ⟨y0, y1, y2, y3, rfl⟩ := list4 (l := ys) hyl
  obtain ⟨z0, q0, _⟩ := DataW.trod_int Try.underlying3 (hg 0 _ rfl)
  obtain ⟨z1, q1, e1, _⟩ := DataW.trod_string Try.underlying9 (hg 1 _ rfl)
  obtain ⟨z2, q2, e2, _⟩ := DataW.trod_string Try.underlying9 (hg 2 _ rfl)
  obtain ⟨z3, q3, _⟩ := DataW.trod_int Try.underlying3 (hg 3 _ rfl)
  simp [Try.cells3', Try.cells9'] at q0 q1 q2 q3
  subst q0 q1 q2 q3
  have s1 : z1.size ≤ reachBytes := hz z1.size (by
    rw [hx]
    simp only [DataW.weights, Try.underlying71]
    refine DataW.weights_mem_each (j := 0) rfl rfl _ ?_
    rw [hy]
    simp only [DataW.weights, Try.underlying68]
    refine DataW.weights_mem_each (j := 1) rfl rfl _ ?_
    rw [e1]
    simp [DataW.weights])
  have s2 : z2.size ≤ reachBytes := hz z2.size (by
    rw [hx]
    simp only [DataW.weights, Try.underlying71]
    refine DataW.weights_mem_each (j := 0) rfl rfl _ ?_
    rw [hy]
    simp only [DataW.weights, Try.underlying68]
    refine DataW.weights_mem_each (j := 2) rfl rfl _ ?_
    rw [e2]
    simp [DataW.weights])
  obtain ⟨tl, ht, hb, _, _⟩ := row_of Try.underlying69 Try.cells3' Try.bytes3' (by decide) (inE W) (fun _ => True) int_of g1' (fun k hk => hz k (by
    rw [hx]
    simp only [DataW.weights, Try.underlying71]
    exact DataW.weights_mem_each (j := 1) rfl rfl k hk))
  unfold reachBytes at s1 s2 hb
  exact ⟨⟨z0, z1, z2, z3, tl⟩, ⟨⟨by show z1.size ≤ MaxText; unfold MaxText; omega, by show z2.size ≤ MaxText; unfold MaxText; omega, by show tl.length * 8 ≤ MaxRow; unfold MaxRow; omega⟩, by show (tl.length + 1) * 8 ≤ _; omega⟩, fun b o hc => ⟨c4, hc 0 _ rfl, hc 1 _ rfl, hc 2 _ rfl, hc 3 _ rfl, hc 4 _ rfl, ht⟩⟩
theorem part_ofT {H : Type} {enc : TypeId × Value → H} {W : World} (n : Nat) (cs : List Value) (y : DataW H × List MemPlace) (h : DataW.trod enc Try.prog W 0 (fun _ => true) true n 80 cs = some y) (hz : ∀ m ∈ y.1.weights Try.prog 80, m ≤ reachBytes) : ∃ x : PaT, (x.Small ∧ (x.nodes.length + 1) * 40 ≤ 140737488355328) ∧ ∀ b o, (∀ j x', cs[j]? = some x' → W.cell? ⟨b, o + j, none⟩ = some x') → ∃ u, paE W (fun b => b < W.heap.size) b o x u := by
  obtain ⟨xs, m, _, hx, hl, hxl, hf⟩ := DataW.trod_struct Try.underlying80 h
  rw [Try.cellsPa] at hl
  obtain ⟨c0, c1, c2, c3, c4, rfl⟩ := list5 hl
  obtain ⟨x0, x1, rfl⟩ := list2 (l := xs) hxl
  obtain ⟨z0, q0, _⟩ := DataW.trod_int Try.underlying3 (hf 0 _ rfl)
  have g0 : DataW.trod enc Try.prog W 0 (fun _ => true) true m 78 (([c0, c1, c2, c3, c4].drop 1).take (Try.prog.cellsOf 78)) = [x0, x1][1]? := hf 1 _ rfl
  rw [Try.cellsShq] at g0
  have g0' : DataW.trod enc Try.prog W 0 (fun _ => true) true m 78 [c1, c2, c3, c4] = some x1 := g0
  clear g0
  obtain ⟨ys, m', _, hy, hl', hyl, hg⟩ := DataW.trod_struct Try.underlying78 g0'
  obtain ⟨y0, y1, y2, y3, rfl⟩ := list4 (l := ys) hyl
  obtain ⟨z1, q1, _⟩ := DataW.trod_int Try.underlying3 (hg 0 _ rfl)
  obtain ⟨z2, q2, e2, _⟩ := DataW.trod_string Try.underlying9 (hg 1 _ rfl)
  obtain ⟨z3, q3, _⟩ := DataW.trod_int Try.underlying3 (hg 2 _ rfl)
  have g1 : DataW.trod enc Try.prog W 0 (fun _ => true) true m' 76 (([c1, c2, c3, c4].drop 3).take (Try.prog.cellsOf 76)) = [y0, y1, y2, y3][3]? := hg 3 _ rfl
  rw [Try.cellsSns] at g1
  have g1' : DataW.trod enc Try.prog W 0 (fun _ => true) true m' 76 [c4] = some y3 := g1
  clear g1
  simp [Try.cells3', Try.cells9'] at q0 q1 q2 q3
  subst q0 q1 q2 q3
  have s2 : z2.size ≤ reachBytes := hz z2.size (by
    rw [hx]
    simp only [DataW.weights, Try.underlying80]
    refine DataW.weights_mem_each (j := 1) rfl rfl _ ?_
    rw [hy]
    simp only [DataW.weights, Try.underlying78]
    refine DataW.weights_mem_each (j := 1) rfl rfl _ ?_
    rw [e2]
    simp [DataW.weights])
  obtain ⟨tl, ht, hb, hsm, _⟩ := row_of Try.underlying76 Try.cellsSn Try.bytesSn (by decide) (seE W) SeT.Small seen_of g1' (fun k hk => hz k (by
    rw [hx]
    simp only [DataW.weights, Try.underlying80]
    refine DataW.weights_mem_each (j := 1) rfl rfl _ ?_
    rw [hy]
    simp only [DataW.weights, Try.underlying78]
    exact DataW.weights_mem_each (j := 3) rfl rfl k hk))
  unfold reachBytes at s2 hb
  exact ⟨⟨z0, z1, z2, z3, tl⟩, ⟨⟨by show z2.size ≤ MaxText; unfold MaxText; omega, by show tl.length * 40 ≤ MaxRow; unfold MaxRow; omega, hsm⟩, by show (tl.length + 1) * 40 ≤ _; omega⟩, fun b o hc => ⟨c4, hc 0 _ rfl, hc 1 _ rfl, hc 2 _ rfl, hc 3 _ rfl, hc 4 _ rfl, ht⟩⟩
theorem step_ofT {H : Type} {enc : TypeId × Value → H} {W : World} (n : Nat) (cs : List Value) (y : DataW H × List MemPlace) (h : DataW.trod enc Try.prog W 0 (fun _ => true) true n 46 cs = some y) (hz : ∀ m ∈ y.1.weights Try.prog 46, m ≤ reachBytes) : ∃ x : StT, (x.Small ∧ x.Tight) ∧ ∀ b o, (∀ j x', cs[j]? = some x' → W.cell? ⟨b, o + j, none⟩ = some x') → ∃ u1 u2, stE W (fun b => b < W.heap.size) b o x u1 u2 := by
  obtain ⟨xs, m, _, hx, hl, hxl, hf⟩ := DataW.trod_struct Try.underlying46 h
  rw [Try.cellsStq] at hl
  obtain ⟨c0, c1, c2, c3, c4, rfl⟩ := list5 hl
  obtain ⟨x0, x1, x2, x3, x4, rfl⟩ := list5 (l := xs) hxl
  obtain ⟨z0, q0, _⟩ := DataW.trod_int Try.underlying3 (hf 0 _ rfl)
  obtain ⟨z1, q1, _⟩ := DataW.trod_int Try.underlying3 (hf 1 _ rfl)
  obtain ⟨z2, q2, _⟩ := DataW.trod_int Try.underlying3 (hf 2 _ rfl)
  have g3 : DataW.trod enc Try.prog W 0 (fun _ => true) true m 37 (([c0, c1, c2, c3, c4].drop 3).take (Try.prog.cellsOf 37)) = [x0, x1, x2, x3, x4][3]? := hf 3 _ rfl
  rw [Try.cellsTgs] at g3
  have g3' : DataW.trod enc Try.prog W 0 (fun _ => true) true m 37 [c3] = some x3 := g3
  have g4 : DataW.trod enc Try.prog W 0 (fun _ => true) true m 38 (([c0, c1, c2, c3, c4].drop 4).take (Try.prog.cellsOf 38)) = [x0, x1, x2, x3, x4][4]? := hf 4 _ rfl
  rw [Try.cellsPas] at g4
  have g4' : DataW.trod enc Try.prog W 0 (fun _ => true) true m 38 [c4] = some x4 := g4
  clear g3 g4
  simp [Try.cells3'] at q0 q1 q2
  subst q0 q1 q2
  obtain ⟨tl, ht, hb, hts, _⟩ := row_of Try.underlying37 Try.cellsTg Try.bytesTg (by decide) (fun b o t => ∃ u, tgE W (fun b => b < W.heap.size) b o t u) (fun x => x.Small ∧ (x.tags.length + 1) * 8 ≤ 140737488355328) tagged_ofT g3' (fun k hk => hz k (by
    rw [hx]
    simp only [DataW.weights, Try.underlying46]
    exact DataW.weights_mem_each (j := 3) rfl rfl k hk))
  obtain ⟨pl, hp, hbp, hps, _⟩ := row_of Try.underlying38 Try.cellsPa Try.bytesPa (by decide) (fun b o t => ∃ u, paE W (fun b => b < W.heap.size) b o t u) (fun x => x.Small ∧ (x.nodes.length + 1) * 40 ≤ 140737488355328) part_ofT g4' (fun k hk => hz k (by
    rw [hx]
    simp only [DataW.weights, Try.underlying46]
    exact DataW.weights_mem_each (j := 4) rfl rfl k hk))
  unfold reachBytes at hb hbp
  exact ⟨⟨z0, z1, z2, tl, pl⟩, ⟨⟨⟨by show tl.length * 72 ≤ MaxRow; unfold MaxRow; omega, fun t ht => (hts t ht).1⟩, ⟨by show pl.length * 64 ≤ MaxRow; unfold MaxRow; omega, fun t ht => (hps t ht).1⟩⟩, ⟨⟨by show (tl.length + 1) * 72 ≤ _; omega, fun t ht => (hts t ht).2⟩, ⟨by show (pl.length + 1) * 64 ≤ _; omega, fun t ht => (hps t ht).2⟩⟩⟩, fun b o hc => ⟨c3, c4, hc 0 _ rfl, hc 1 _ rfl, hc 2 _ rfl, hc 3 _ rfl, hc 4 _ rfl, ht, hp⟩⟩

theorem tights_of {H : Type} {enc : TypeId × Value → H} {W : World} {v : Value} {d : DataW H} {p : List MemPlace} (h : DataW.Trod enc Try.prog W 0 (fun _ => true) true 22 v d p) (hv : v.cells.toList = [v]) (hz : ∀ m ∈ d.weights Try.prog 22, m ≤ reachBytes) :
    ∃ l : List StT, StepsAt W (fun b => b < W.heap.size) v l ∧ l.length ≤ maxLen ∧ ∀ x ∈ l, x.Small ∧ x.Tight := by
  obtain ⟨fuel, hf⟩ := h
  rw [hv] at hf
  obtain ⟨l, h1, _, h3, h4⟩ := row_of Try.underlying22 Try.cellsStq Try.bytesStq (by decide) (fun b o t => ∃ u1 u2, stE W (fun b => b < W.heap.size) b o t u1 u2) (fun x => x.Small ∧ x.Tight) step_ofT hf hz
  exact ⟨l, h1, h4, h3⟩
end Go.Proofs.Ytlidkieljiebiab
