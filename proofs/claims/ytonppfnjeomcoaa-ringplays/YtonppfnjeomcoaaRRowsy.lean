/-
  Scripts that came in.
-/
import Derived.Test.YtonppfnjeomcoaaRNoWalk
import Derived.ProofKit
import Derived.ChangeSlices
import Derived.OpenShut
import Derived.ChangeOld
import Derived.SizedLaws
import Derived.Deep.Slices
import Derived.Deep.Strs
namespace Go.Proofs.Ytonppfnjeomcoaa
open Go.RowKit Go.ChangeShapes Go.WideShapes Go.ChangeAt

theorem list4 {α : Type} {l : List α} (h : l.length = 4) : ∃ a b c d, l = [a, b, c, d] := by
  match l, h with
  | [a, b, c, d], _ => exact ⟨a, b, c, d, rfl⟩
theorem list5 {α : Type} {l : List α} (h : l.length = 5) : ∃ a b c d e, l = [a, b, c, d, e] := by
  match l, h with
  | [a, b, c, d, e], _ => exact ⟨a, b, c, d, e, rfl⟩
theorem list6 {α : Type} {l : List α} (h : l.length = 6) : ∃ a b c d e f, l = [a, b, c, d, e, f] := by
  match l, h with
  | [a, b, c, d, e, f], _ => exact ⟨a, b, c, d, e, f, rfl⟩
theorem list9 {α : Type} {l : List α} (h : l.length = 9) : ∃ a b c d e f g i j, l = [a, b, c, d, e, f, g, i, j] := by
  match l, h with
  | [a, b, c, d, e, f, g, i, j], _ => exact ⟨a, b, c, d, e, f, g, i, j, rfl⟩
theorem Try.cells3' : Try.prog.cellsOf 3 = 1 := by kernel_rfl
theorem Try.cells9' : Try.prog.cellsOf 9 = 1 := by kernel_rfl
theorem Try.cellsOps : Try.prog.cellsOf 31 = 1 := by kernel_rfl
theorem Try.cellsOp : Try.prog.cellsOf 44 = 5 := by kernel_rfl
theorem Try.cellsEn : Try.prog.cellsOf 33 = 6 := by kernel_rfl
theorem Try.cellsAct : Try.prog.cellsOf 55 = 9 := by kernel_rfl
theorem Try.bytesOp : Try.prog.bytesOf 44 = 56 := by kernel_rfl
theorem list_of {α : Type} {P : Nat → α → Prop} : ∀ n, (∀ i, i < n → ∃ x, P i x) → ∃ l : List α, l.length = n ∧ ∀ (j : Nat) (x : α), l[j]? = some x → P j x
  | 0, _ => ⟨[], rfl, fun j x h => by simp at h⟩
  | n + 1, h => by
    obtain ⟨l, hl, hp⟩ := list_of n (fun i hi => h i (by omega))
    obtain ⟨x, hx⟩ := h n (by omega)
    refine ⟨l ++ [x], by simp [hl], fun j y hy => ?_⟩
    by_cases hj : j < l.length
    · rw [List.getElem?_append_left hj] at hy
      exact hp j y hy
    · rw [List.getElem?_append_right (by omega)] at hy
      have hj0 : j - l.length = 0 := by
        rcases Nat.eq_zero_or_pos (j - l.length) with g | g
        · exact g
        · rw [List.getElem?_eq_none (by simp; omega)] at hy
          cases hy
      rw [hj0] at hy
      have : j = n := by omega
      subst this
      have e : x = y := by simpa using hy
      subst e
      exact hx
theorem weights_all {H : Type} {P : Program} {e : TypeId} {d : DataW H} {n : Nat} : ∀ {l : List (DataW H)}, d ∈ l → n ∈ d.weights P e → n ∈ DataW.weightsAll P e l
  | x :: r, hd, hn => by
    simp only [DataW.weightsAll, List.mem_append]
    rcases List.mem_cons.1 hd with rfl | hd
    · exact .inl hn
    · exact .inr (weights_all hd hn)
theorem op_of {H : Type} {enc : TypeId × Value → H} {W : World} {n : Nat} {cs : List Value} {y : DataW H × List MemPlace} (h : DataW.trod enc Try.prog W 0 (fun _ => true) true n 44 cs = some y) : ∃ o : OpT, cs = o.cells := by
  obtain ⟨xs, m, _, hx, hl, hxl, hf⟩ := DataW.trod_struct Try.underlying44 h
  rw [Try.cellsOp] at hl
  obtain ⟨c0, c1, c2, c3, c4, rfl⟩ := list5 hl
  obtain ⟨x0, x1, x2, x3, x4, rfl⟩ := list5 (l := xs) hxl
  obtain ⟨z0, q0, _⟩ := DataW.trod_int Try.underlying3 (hf 0 _ rfl)
  obtain ⟨z1, q1, _⟩ := DataW.trod_string Try.underlying9 (hf 1 _ rfl)
  obtain ⟨z2, q2, _⟩ := DataW.trod_string Try.underlying9 (hf 2 _ rfl)
  obtain ⟨z3, q3, _⟩ := DataW.trod_int Try.underlying3 (hf 3 _ rfl)
  obtain ⟨z4, q4, _⟩ := DataW.trod_int Try.underlying3 (hf 4 _ rfl)
  simp [Try.cells3', Try.cells9'] at q0 q1 q2 q3 q4
  subst q0 q1 q2 q3 q4
  exact ⟨⟨z0, z1, z2, z3, z4⟩, rfl⟩
theorem ops_of {H : Type} {enc : TypeId × Value → H} {W : World} {n : Nat} {v : Value} {y : DataW H × List MemPlace} (h : DataW.trod enc Try.prog W 0 (fun _ => true) true n 31 [v] = some y) (hz : ∀ m ∈ y.1.weights Try.prog 31, m ≤ reachBytes) :
    ∃ a c os, v = .slice a os.length c ∧ Os W a os ∧ (os.length + 2) * 56 ≤ 140737488355328 := by
  rcases Go.Deep.open_slice Try.underlying31 h with ⟨hcs, _⟩ | ⟨x, len, cap, m, n', D, Pl, hcs, _, hl, hm, hmm, hxx, hx⟩
  · have hv : v = .slice none 0 0 := by simpa using hcs
    subst hv
    exact ⟨none, 0, [], rfl, .inl rfl, by decide⟩
  · have hv : v = .slice (some x) len cap := by simpa using hcs
    subst hv
    have hmc : m = cap := by simpa using hmm
    subst hmc
    have hw : len * 56 ≤ reachBytes := by
      refine Nat.le_trans ?_ (hz ((((List.range len).map D).length + ((List.range (m - len)).map fun j => D (len + j)).length) * Try.prog.bytesOf 44) (by rw [hxx]; simp [DataW.weights, Try.underlying31]))
      rw [Try.bytesOp]
      simp
      omega
    have each : ∀ i, i < len → ∃ o : OpT, ∀ j x', o.cells[j]? = some x' → W.cell? ((x.add (i * 5)).add j) = some x' := by
      intro i hi
      obtain ⟨cs', h1, h2⟩ := hx i (by omega)
      obtain ⟨o, rfl⟩ := op_of h2
      rw [Try.cellsOp] at h1
      obtain ⟨_, _, hc⟩ := World.cells?_some h1
      exact ⟨o, fun j x' hj => by rw [hc j (by have := (List.getElem?_eq_some_iff.1 hj).1; simpa using this)]; exact hj⟩
    obtain ⟨l, hll, hls⟩ := list_of len each
    subst hll
    refine ⟨some x, m, l, rfl, ?_, ?_⟩
    · rcases Nat.eq_zero_or_pos l.length with h0 | h0
      · exact .inl (List.eq_nil_of_length_eq_zero h0)
      · have hc0 := hls 0 l[0] (List.getElem?_eq_getElem h0) 0 _ rfl
        obtain ⟨b, f, rfl, hb⟩ : ∃ b f, x = ⟨b, f, none⟩ ∧ b < W.heap.size := by
          obtain ⟨b, f, spot⟩ := x
          have hs : spot = none := by simpa [Addr.add] using World.cell?_spot hc0
          subst hs
          exact ⟨b, f, rfl, by have := World.block_lt_of_cell? _ _ hc0; simpa [Addr.add] using this⟩
        refine .inr ⟨b, f, rfl, hb, fun i o hi j x' hj => ?_⟩
        have := hls i o hi j x' hj
        rw [addr_add, addr_add] at this
        exact this
    · unfold reachBytes at hw
      omega
theorem act_of {H : Type} {enc : TypeId × Value → H} {W : World} {n : Nat} {cs : List Value} {y : DataW H × List MemPlace} (h : DataW.trod enc Try.prog W 0 (fun _ => true) true n 55 cs = some y) (hz : ∀ m ∈ y.1.weights Try.prog 55, m ≤ reachBytes) :
    ∃ x : PAct, cs = x.cells ∧ Os W x.a x.A.e.ops ∧ (x.A.e.ops.length + 2) * 56 ≤ 140737488355328 := by
  obtain ⟨xs, m, _, hx, hl, hxl, hf⟩ := DataW.trod_struct Try.underlying55 h
  rw [Try.cellsAct] at hl
  obtain ⟨c0, c1, c2, c3, c4, c5, c6, c7, c8, rfl⟩ := list9 hl
  obtain ⟨x0, x1, x2, x3, rfl⟩ := list4 (l := xs) hxl
  obtain ⟨z0, q0, _⟩ := DataW.trod_int Try.underlying3 (hf 0 _ rfl)
  obtain ⟨z1, q1, _⟩ := DataW.trod_int Try.underlying3 (hf 1 _ rfl)
  obtain ⟨z2, q2, _⟩ := DataW.trod_int Try.underlying3 (hf 2 _ rfl)
  have g3 : DataW.trod enc Try.prog W 0 (fun _ => true) true m 33 (([c0, c1, c2, c3, c4, c5, c6, c7, c8].drop 3).take (Try.prog.cellsOf 33)) = [x0, x1, x2, x3][3]? := hf 3 _ rfl
  rw [Try.cellsEn] at g3
  have g3' : DataW.trod enc Try.prog W 0 (fun _ => true) true m 33 [c3, c4, c5, c6, c7, c8] = some x3 := g3
  clear g3
  obtain ⟨ys, m', _, hy, hl', hyl, hg⟩ := DataW.trod_struct Try.underlying33 g3'
  obtain ⟨y0, y1, y2, y3, y4, y5, rfl⟩ := list6 (l := ys) hyl
  obtain ⟨z3, q3, _⟩ := DataW.trod_int Try.underlying3 (hg 0 _ rfl)
  obtain ⟨z4, q4, _⟩ := DataW.trod_int Try.underlying3 (hg 1 _ rfl)
  obtain ⟨z5, q5, _⟩ := DataW.trod_int Try.underlying3 (hg 2 _ rfl)
  obtain ⟨z6, q6, _⟩ := DataW.trod_int Try.underlying3 (hg 3 _ rfl)
  obtain ⟨z7, q7, _⟩ := DataW.trod_int Try.underlying3 (hg 4 _ rfl)
  have g5 : DataW.trod enc Try.prog W 0 (fun _ => true) true m' 31 (([c3, c4, c5, c6, c7, c8].drop 5).take (Try.prog.cellsOf 31)) = [y0, y1, y2, y3, y4, y5][5]? := hg 5 _ rfl
  rw [Try.cellsOps] at g5
  have g5' : DataW.trod enc Try.prog W 0 (fun _ => true) true m' 31 [c8] = some y5 := g5
  clear g5
  simp [Try.cells3'] at q0 q1 q2 q3 q4 q5 q6 q7
  subst q0 q1 q2 q3 q4 q5 q6 q7
  obtain ⟨a, c, os, rfl, ho, hol⟩ := ops_of g5' (fun k hk => hz k (by
    rw [hx]
    simp only [DataW.weights, Try.underlying55]
    refine DataW.weights_mem_each (j := 3) rfl rfl k ?_
    rw [hy]
    simp only [DataW.weights, Try.underlying33]
    exact DataW.weights_mem_each (j := 5) rfl rfl k hk))
  exact ⟨⟨⟨z0, z1, z2, ⟨z3, z4, z5, z6, z7, os⟩⟩, a, c⟩, rfl, ho, hol⟩
theorem acts_of {H : Type} {enc : TypeId × Value → H} {W : World} {a : Option Addr} {len cap : Nat} {d : DataW H} {p : List MemPlace}
    (h : DataW.Trod enc Try.prog W 0 (fun _ => true) true 49 (.slice a len cap) d p) (hz : ∀ m ∈ d.weights Try.prog 49, m ≤ reachBytes) :
    ∃ l : List PAct, len = l.length ∧ Acts W a l ∧ l.length ≤ maxLen := by
  obtain ⟨fuel, hf⟩ := h
  rcases Go.Deep.open_slice Try.underlying49 hf with ⟨hcs, _⟩ | ⟨x, len', cap', m, n', D, Pl, hcs, _, hl, hm, hmm, hxx, hx⟩
  · simp [Value.cells] at hcs
    obtain ⟨rfl, rfl, rfl⟩ := hcs
    exact ⟨[], rfl, ⟨.inl rfl, fun x hx => by cases hx⟩, Nat.zero_le _⟩
  · simp [Value.cells] at hcs
    obtain ⟨rfl, rfl, rfl⟩ := hcs
    have hmc : m = cap := by simpa using hmm
    subst hmc
    simp only [Prod.mk.injEq] at hxx
    have each : ∀ i, i < len → ∃ s : PAct, (Os W s.a s.A.e.ops ∧ (s.A.e.ops.length + 2) * 56 ≤ 140737488355328) ∧ ∀ j x', s.cells[j]? = some x' → W.cell? ((x.add (i * 9)).add j) = some x' := by
      intro i hi
      obtain ⟨cs', h1, h2⟩ := hx i (by omega)
      obtain ⟨s, rfl, ho, hol⟩ := act_of h2 (fun k hk => hz k (by
        rw [hxx.1]
        simp only [DataW.weights, Try.underlying49, List.mem_cons, List.mem_append]
        exact .inr (.inl (weights_all (List.mem_map.2 ⟨i, List.mem_range.2 hi, rfl⟩) hk))))
      rw [Try.cellsAct] at h1
      obtain ⟨_, _, hc⟩ := World.cells?_some h1
      exact ⟨s, ⟨ho, hol⟩, fun j x' hj => by rw [hc j (by have := (List.getElem?_eq_some_iff.1 hj).1; simpa using this)]; exact hj⟩
    obtain ⟨l, hll, hls⟩ := list_of len each
    subst hll
    refine ⟨l, rfl, ⟨?_, fun s hs => ?_⟩, Nat.le_trans hl hm⟩
    · rcases Nat.eq_zero_or_pos l.length with h0 | h0
      · exact .inl (List.eq_nil_of_length_eq_zero h0)
      · have hc0 := (hls 0 l[0] (List.getElem?_eq_getElem h0)).2 0 _ rfl
        obtain ⟨b, f, rfl, hb⟩ : ∃ b f, x = ⟨b, f, none⟩ ∧ b < W.heap.size := by
          obtain ⟨b, f, spot⟩ := x
          have hs : spot = none := by simpa [Addr.add] using World.cell?_spot hc0
          subst hs
          exact ⟨b, f, rfl, by have := World.block_lt_of_cell? _ _ hc0; simpa [Addr.add] using this⟩
        refine .inr ⟨b, f, rfl, hb, fun i o hi j x' hj => ?_⟩
        have := (hls i o hi).2 j x' hj
        rw [addr_add, addr_add] at this
        exact this
    · obtain ⟨j, hj⟩ := List.getElem?_of_mem hs
      exact (hls j s hj).1
end Go.Proofs.Ytonppfnjeomcoaa
