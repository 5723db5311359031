import Derived.Test.YtbamkdohaofgdaaGreatDoorSBase
import Derived.ProofKit
import Derived.ChangeSlices
import Derived.OpenShut
import Derived.ChangeOld
import Derived.Deep.Slices
import Derived.Deep.Strs
import Derived.Lib.SmallJoins
namespace Go.Proofs.YtbamkdohaofgdaaGreatDoor
open Go.RowKit Go.ChangeShapes Go.WideShapes Go.ChangeAt

theorem Tryz.cellsSe : Tryz.prog.cellsOf 52 = 3 := by kernel_rfl
theorem Tryz.cellsSh : Tryz.prog.cellsOf 24 = 4 := by kernel_rfl
theorem Tryz.cells9' : Tryz.prog.cellsOf 9 = 1 := by kernel_rfl
theorem Tryz.cells3' : Tryz.prog.cellsOf 3 = 1 := by kernel_rfl

theorem list_of {α : Type} {P : Nat → α → Prop} : ∀ n, (∀ i, i < n → ∃ x, P i x) → ∃ l : List α, l.length = n ∧ ∀ (j : Nat) (x : α), l[j]? = some x → P j x
  | 0, _ => ⟨[], rfl, fun j x h => by simp at h⟩
  | n + 1, h => by
    obtain ⟨l, hl, hp⟩ := list_of n (fun i hi => h i (by omega))
    obtain ⟨x, hx⟩ := h n (by omega)
    refine ⟨l ++ [x], by simp [hl], fun j y hy => ?_⟩
    by_cases hj : j < l.length
    · rw [List.getElem?_append_left hj] at hy
      exact hp j y hy
    · rw [List.getElem?_append_right (by omega)] at hy
      have hj0 : j - l.length = 0 := by
        rcases Nat.eq_zero_or_pos (j - l.length) with g | g
        · exact g
        · rw [List.getElem?_eq_none (by simp; omega)] at hy
          cases hy
      rw [hj0] at hy
      have : j = n := by omega
      subst this
      have e : x = y := by simpa using hy
      subst e
      exact hx
theorem list3 {α : Type} {l : List α} (h : l.length = 3) : ∃ a b c, l = [a, b, c] := by
  match l, h with
  | [a, b, c], _ => exact ⟨a, b, c, rfl⟩

def SeenT.ok (s : SeenT) : Prop := s.p.size ≤ maxLen ∧ s.d.size ≤ maxLen ∧ (Lit.int .i64 s.v).wf = true
theorem seen_of {H : Type} {enc : TypeId × Value → H} {W : World} {n : Nat} {cs : List Value} {y : DataW H × List MemPlace} (h : DataW.trod enc Tryz.prog W 0 (fun _ => true) true n 52 cs = some y) : ∃ s : SeenT, cs = s.cells ∧ s.ok := by
  obtain ⟨y0, y1, y2, m, _, hl, h0, h1, h2⟩ := Go.Deep.trod_struct3 Tryz.underlying52 h
  rw [Tryz.cellsSe] at hl
  obtain ⟨v0, v1, v2, rfl⟩ := list3 hl
  obtain ⟨p, e0, _, hp⟩ := DataW.trod_string Tryz.underlying9 h0
  obtain ⟨d, e1, _, hd⟩ := DataW.trod_string Tryz.underlying9 h1
  obtain ⟨v, e2, _, hv⟩ := DataW.trod_int Tryz.underlying3 h2
  simp [Tryz.cells9'] at e0
  simp [Tryz.cells9'] at e1
  simp [Tryz.cells3'] at e2
  subst e0 e1 e2
  exact ⟨⟨p, d, v⟩, rfl, hp, hd, hv⟩
theorem seens_of {H : Type} {enc : TypeId × Value → H} {W : World} {n : Nat} {v : Value} {y : DataW H × List MemPlace} (h : DataW.trod enc Tryz.prog W 0 (fun _ => true) true n 22 [v] = some y) :
    ∃ a c l, v = .slice a l.length c ∧ Ss W a l ∧ (a = none → c = 0) ∧ (∀ s ∈ l, s.ok) ∧ l.length ≤ maxLen := by
  rcases Go.Deep.open_slice Tryz.underlying22 h with ⟨hcs, _⟩ | ⟨x, len, cap, m, n', D, Pl, hcs, _, hl, hm, hmm, _, hx⟩
  · have hv : v = .slice none 0 0 := by simpa using hcs
    subst hv
    exact ⟨none, 0, [], rfl, .inl rfl, fun _ => rfl, fun s hs => absurd hs List.not_mem_nil, Nat.zero_le _⟩
  · have hv : v = .slice (some x) len cap := by simpa using hcs
    subst hv
    have hmc : m = cap := by simpa using hmm
    subst hmc
    have each : ∀ i, i < len → ∃ s : SeenT, s.ok ∧ ∀ j x', s.cells[j]? = some x' → W.cell? ((x.add (i * 3)).add j) = some x' := by
      intro i hi
      obtain ⟨cs', h1, h2⟩ := hx i (by omega)
      obtain ⟨s, rfl, hk⟩ := seen_of h2
      rw [Tryz.cellsSe] at h1
      obtain ⟨_, _, hc⟩ := World.cells?_some h1
      exact ⟨s, hk, fun j x' hj => by rw [hc j (by have := (List.getElem?_eq_some_iff.1 hj).1; simpa using this)]; exact hj⟩
    obtain ⟨l, hll, hls⟩ := list_of len each
    have hok : ∀ s ∈ l, s.ok := fun s hs => by
      obtain ⟨j, hj⟩ := List.getElem?_of_mem hs
      exact (hls j s hj).1
    subst hll
    refine ⟨some x, m, l, rfl, ?_, (fun h => by cases h), hok, Nat.le_trans hl hm⟩
    by_cases h0 : l = []
    · exact .inl h0
    · right
      obtain ⟨b, o, spot⟩ := x
      obtain ⟨s0, hs0⟩ : ∃ s, l[0]? = some s := ⟨l[0]'(List.length_pos_iff.2 h0), List.getElem?_eq_getElem _⟩
      have hc0 := (hls 0 s0 hs0).2 0 _ rfl
      have hspot : spot = none := by simpa [Addr.add] using World.cell?_spot hc0
      subst hspot
      refine ⟨b, o, rfl, ?_, fun i s hi j x' hj => ?_⟩
      · have := World.block_lt_of_cell? _ _ hc0
        simpa [Addr.add] using this
      · have := (hls i s hi).2 j x' hj
        rw [addr_add, addr_add] at this
        exact this
set_option maxRecDepth 100000 in
/-- A shot by value. -/
theorem shot_of {H : Type} {enc : TypeId × Value → H} {W : World} {r : Reach} {b0 : Nat} {v : Value} {d : DataW H} {p : List MemPlace} (hv : Value.okWide Tryz.prog W r b0 24 v) (h : DataW.Trod enc Tryz.prog W 0 (fun _ => true) true 24 v d p) :
    ∃ s : ShT, v = s.val ∧ (Ss W s.a s.l ∧ (s.a = none → s.c = 0) ∧ (∀ x ∈ s.l, x.ok) ∧ s.l.length ≤ maxLen ∧ (Lit.int .i64 s.st).wf = true ∧ (Lit.int .i64 s.k).wf = true ∧ s.p.size ≤ maxLen) := by
  obtain ⟨c0, c1, c2, c3, y0, y1, y2, y3, m, rfl, _, _, h0, h1, h2, h3⟩ := Go.Joins.open_agg4 Tryz.underlying24 (by kernel_rfl) Tryz.cellsSh hv h
  obtain ⟨st, e0, _, w0⟩ := DataW.trod_int Tryz.underlying3 h0
  obtain ⟨pl, e1, _, w1⟩ := DataW.trod_string Tryz.underlying9 h1
  obtain ⟨k, e2, _, w2⟩ := DataW.trod_int Tryz.underlying3 h2
  obtain ⟨a, c, l, rfl, hs, hn, hok, hl⟩ := seens_of h3
  simp at e0 e1 e2
  subst e0 e1 e2
  exact ⟨⟨st, pl, k, a, c, l⟩, rfl, hs, hn, hok, hl, w0, w2, w1⟩
end Go.Proofs.YtbamkdohaofgdaaGreatDoor
namespace Go.Proofs.YtbamkdohaofgdaaGreatDoor
open Go.RowKit
set_option linter.unusedVariables false
set_option maxRecDepth 100000 in
theorem shot_cap {H : Type} {enc : TypeId × Value → H} {W : World} {r : Reach} {b0 : Nat} {s : ShT} {d : DataW H} {p : List MemPlace} (hv : Value.okWide Tryz.prog W r b0 24 s.val) (h : DataW.Trod enc Tryz.prog W 0 (fun _ => true) true 24 s.val d p) : s.l.length ≤ s.c := by
  obtain ⟨c0, c1, c2, c3, y0, y1, y2, y3, m, hc, _, _, h0, h1, h2, h3⟩ := Go.Joins.open_agg4 Tryz.underlying24 (by kernel_rfl) Tryz.cellsSh hv h
  have e3 : c3 = .slice s.a s.l.length s.c := by
    simp only [Value.agg.injEq] at hc
    have := congrArg (fun x : Array Value => x[3]?) hc
    simpa using this.symm
  subst e3
  rcases Go.Deep.open_slice Tryz.underlying22 h3 with ⟨hcs, _⟩ | ⟨x, len, cap, m', n', D, Pl, hcs, _, hl, _⟩
  · have hv : Value.slice s.a s.l.length s.c = .slice none 0 0 := by simpa using hcs
    simp only [Value.slice.injEq] at hv
    omega
  · have hv : Value.slice s.a s.l.length s.c = .slice (some x) len cap := by simpa using hcs
    simp only [Value.slice.injEq] at hv
    omega
end Go.Proofs.YtbamkdohaofgdaaGreatDoor
