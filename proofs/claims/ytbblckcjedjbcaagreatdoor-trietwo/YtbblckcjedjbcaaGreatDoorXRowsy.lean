/-
  heraldlaw9: watches and changes that came in.
-/
import Derived.Test.YtbblckcjedjbcaaGreatDoorXLaid
import Derived.ProofKit
import Derived.ChangeSlices
import Derived.OpenShut
import Derived.ChangeOld
import Derived.Deep.Slices
import Derived.Deep.Strs
import Derived.Lib.SmallJoins
namespace Go.Proofs.YtbblckcjedjbcaaGreatDoor
open Go.RowKit Go.ChangeShapes Go.WideShapes Go.ChangeAt
set_option linter.unusedVariables false
set_option linter.unusedSimpArgs false

theorem Tryz.cellsO9 : Tryz.prog.cellsOf 42 = 5 := by kernel_rfl
theorem Tryz.cellsW9 : Tryz.prog.cellsOf 40 = 4 := by kernel_rfl
theorem Tryz.cellsC9 : Tryz.prog.cellsOf 24 = 4 := by kernel_rfl
theorem Tryz.cells9x : Tryz.prog.cellsOf 9 = 1 := by kernel_rfl
theorem Tryz.cells3x : Tryz.prog.cellsOf 3 = 1 := by kernel_rfl
theorem listsOf {α : Type} {P : Nat → α → Prop} : ∀ n, (∀ i, i < n → ∃ x, P i x) → ∃ l : List α, l.length = n ∧ ∀ (j : Nat) (x : α), l[j]? = some x → P j x
  | 0, _ => ⟨[], rfl, fun j x h => by simp at h⟩
  | n + 1, h => by
    obtain ⟨l, hl, hp⟩ := listsOf n (fun i hi => h i (by omega))
    obtain ⟨x, hx⟩ := h n (by omega)
    refine ⟨l ++ [x], by simp [hl], fun j y hy => ?_⟩
    by_cases hj : j < l.length
    · rw [List.getElem?_append_left hj] at hy
      exact hp j y hy
    · rw [List.getElem?_append_right (by omega)] at hy
      have hj0 : j - l.length = 0 := by
        rcases Nat.eq_zero_or_pos (j - l.length) with g | g
        · exact g
        · rw [List.getElem?_eq_none (by simp; omega)] at hy
          cases hy
      rw [hj0] at hy
      have : j = n := by omega
      subst this
      have e : x = y := by simpa using hy
      subst e
      exact hx
theorem li2 {α : Type} {l : List α} (h : l.length = 2) : ∃ a b, l = [a, b] := by
  match l, h with
  | [a, b], _ => exact ⟨a, b, rfl⟩
theorem li4 {α : Type} {l : List α} (h : l.length = 4) : ∃ a b c d, l = [a, b, c, d] := by
  match l, h with
  | [a, b, c, d], _ => exact ⟨a, b, c, d, rfl⟩
theorem li5 {α : Type} {l : List α} (h : l.length = 5) : ∃ a b c d e, l = [a, b, c, d, e] := by
  match l, h with
  | [a, b, c, d, e], _ => exact ⟨a, b, c, d, e, rfl⟩
theorem on_of {H : Type} {enc : TypeId × Value → H} {W : World} {n : Nat} {cs : List Value} {y : DataW H × List MemPlace} (h : DataW.trod enc Tryz.prog W 0 (fun _ => true) true n 42 cs = some y) : ∃ x : On, cs = x.cs ∧ wfI x.s ∧ wfI x.i := by
  obtain ⟨xs, m, _, hx, hl, hxl, hf⟩ := DataW.trod_struct Tryz.underlying42 h
  rw [Tryz.cellsO9] at hl
  obtain ⟨c0, c1, c2, c3, c4, rfl⟩ := li5 hl
  obtain ⟨x0, x1, rfl⟩ := li2 (l := xs) hxl
  have g1 : DataW.trod enc Tryz.prog W 0 (fun _ => true) true m 40 (([c0, c1, c2, c3, c4].drop 1).take (Tryz.prog.cellsOf 40)) = [x0, x1][1]? := hf 1 _ rfl
  rw [Tryz.cellsW9] at g1
  have g1' : DataW.trod enc Tryz.prog W 0 (fun _ => true) true m 40 [c1, c2, c3, c4] = some x1 := g1
  obtain ⟨z0, q0, _, w0⟩ := DataW.trod_int Tryz.underlying3 (hf 0 _ rfl)
  obtain ⟨ys, m', _, hy, hl', hyl, hg⟩ := DataW.trod_struct Tryz.underlying40 g1'
  obtain ⟨y0, y1, y2, y3, rfl⟩ := li4 (l := ys) hyl
  obtain ⟨z1, q1, _, w1⟩ := DataW.trod_int Tryz.underlying3 (hg 0 _ rfl)
  obtain ⟨z2, q2, _⟩ := DataW.trod_string Tryz.underlying9 (hg 1 _ rfl)
  obtain ⟨z3, q3, _⟩ := DataW.trod_int Tryz.underlying3 (hg 2 _ rfl)
  obtain ⟨z4, q4, _⟩ := DataW.trod_int Tryz.underlying3 (hg 3 _ rfl)
  simp [Tryz.cells3x, Tryz.cells9x] at q0 q1 q2 q3 q4
  subst q0 q1 q2 q3 q4
  exact ⟨⟨z0, z1, z2, z3, z4⟩, rfl, w0, w1⟩
theorem ons_of {H : Type} {enc : TypeId × Value → H} {W : World} {n : Nat} {v : Value} {y : DataW H × List MemPlace} (h : DataW.trod enc Tryz.prog W 0 (fun _ => true) true n 22 [v] = some y) :
    ∃ a c L, v = .slice a L.length c ∧ OsAt W a L ∧ (∀ o ∈ L, wfI o.s) ∧ L.length ≤ maxLen := by
  rcases Go.Deep.open_slice Tryz.underlying22 h with ⟨hcs, _⟩ | ⟨x, len, cap, m, n', D, Pl, hcs, _, hl, hm, hmm, _, hx⟩
  · have hv : v = .slice none 0 0 := by simpa using hcs
    subst hv
    exact ⟨none, 0, [], rfl, .inl rfl, fun o ho => (by cases ho), Nat.zero_le _⟩
  · have hv : v = .slice (some x) len cap := by simpa using hcs
    subst hv
    have hmc : m = cap := by simpa using hmm
    subst hmc
    have each : ∀ i, i < len → ∃ s : On, wfI s.s ∧ ∀ j x', s.cs[j]? = some x' → W.cell? ((x.add (i * 5)).add j) = some x' := by
      intro i hi
      obtain ⟨cs', h1, h2⟩ := hx i (by omega)
      obtain ⟨s, rfl, hk, _⟩ := on_of h2
      rw [Tryz.cellsO9] at h1
      obtain ⟨_, _, hc⟩ := World.cells?_some h1
      exact ⟨s, hk, fun j x' hj => by rw [hc j (by have := (List.getElem?_eq_some_iff.1 hj).1; simpa using this)]; exact hj⟩
    obtain ⟨l, hll, hls⟩ := listsOf len each
    have hok : ∀ s ∈ l, wfI s.s := fun s hs => by
      obtain ⟨j, hj⟩ := List.getElem?_of_mem hs
      exact (hls j s hj).1
    subst hll
    refine ⟨some x, m, l, rfl, ?_, hok, Nat.le_trans hl hm⟩
    by_cases h0 : l = []
    · exact .inl h0
    · right
      obtain ⟨b, o, spot⟩ := x
      obtain ⟨s0, hs0⟩ : ∃ s, l[0]? = some s := ⟨l[0]'(List.length_pos_iff.2 h0), List.getElem?_eq_getElem _⟩
      have hc0 := (hls 0 s0 hs0).2 0 _ rfl
      have hspot : spot = none := by simpa [Addr.add] using World.cell?_spot hc0
      subst hspot
      refine ⟨b, o, rfl, ?_, fun i j s x' hi hj => ?_⟩
      · have := World.block_lt_of_cell? _ _ hc0
        simpa [Addr.add] using this
      · have := (hls i s hi).2 j x' hj
        rw [addr_add, addr_add, Nat.add_assoc] at this
        exact this
set_option maxRecDepth 100000 in
/-- A change by value. -/
theorem chv_of {H : Type} {enc : TypeId × Value → H} {W : World} {r : Reach} {b0 : Nat} {v : Value} {d : DataW H} {p : List MemPlace} (hv : Value.okWide Tryz.prog W r b0 24 v) (h : DataW.Trod enc Tryz.prog W 0 (fun _ => true) true 24 v d p) :
    ∃ (k : Int) (q e : ByteArray) (x : Int), v = chV k q e x := by
  obtain ⟨c0, c1, c2, c3, y0, y1, y2, y3, m, rfl, _, _, h0, h1, h2, h3⟩ := Go.Joins.open_agg4 Tryz.underlying24 (by kernel_rfl) Tryz.cellsC9 hv h
  obtain ⟨k, e0, _⟩ := DataW.trod_int Tryz.underlying3 h0
  obtain ⟨q, e1, _⟩ := DataW.trod_string Tryz.underlying9 h1
  obtain ⟨e, e2, _⟩ := DataW.trod_string Tryz.underlying9 h2
  obtain ⟨x, e3, _⟩ := DataW.trod_int Tryz.underlying3 h3
  simp at e0 e1 e2 e3
  subst e0 e1 e2 e3
  exact ⟨k, q, e, x, rfl⟩
end Go.Proofs.YtbblckcjedjbcaaGreatDoor
