/-
  queue: scripts that came in.
-/
import Derived.Test.YtlidkieljiebiaaQBase
import Derived.ProofKit
import Derived.ChangeSlices
import Derived.OpenShut
import Derived.ChangeOld
import Derived.SizedLaws
import Derived.Deep.Slices
import Derived.Deep.Strs
namespace Go.Proofs.Ytlidkieljiebiaa
open Go.RowKit Go.ChangeShapes Go.WideShapes Go.ChangeAt
set_option linter.unusedVariables false
set_option linter.unusedSimpArgs false

/-- A step of a script. -/
structure StT where
  kind : Int
  on : Int
  st : Int
  cs : List TgT
  ps : List PaT
structure StT.Small (t : StT) : Prop where
  cs : TgsSmall t.cs
  ps : PasSmall t.ps
structure stE (w : World) (S : Nat → Prop) (b o : Nat) (t : StT) (u1 u2 : Value) : Prop where
  kind : w.cell? ⟨b, o, none⟩ = some (.int .i64 t.kind)
  on : w.cell? ⟨b, o + 1, none⟩ = some (.int .i64 t.on)
  st : w.cell? ⟨b, o + 2, none⟩ = some (.int .i64 t.st)
  c1 : w.cell? ⟨b, o + 3, none⟩ = some u1
  c2 : w.cell? ⟨b, o + 4, none⟩ = some u2
  cs : TgsAt w S u1 t.cs
  ps : PasAt w S u2 t.ps
abbrev StepsAt (w : World) (S : Nat → Prop) (v : Value) (l : List StT) : Prop := RowAt w S 5 (fun b o t => ∃ u1 u2, stE w S b o t u1 u2) v l
theorem stE.keep {w w' : World} {S : Nat → Prop} {b o : Nat} {t : StT} {u1 u2 : Value} (h : stE w S b o t u1 u2) (hk : Kp w w' S) (hb : b < w.heap.size) (hS : S b) : stE w' S b o t u1 u2 :=
  ⟨hk.cell hb hS h.kind, hk.cell hb hS h.on, hk.cell hb hS h.st, hk.cell hb hS h.c1, hk.cell hb hS h.c2, TgsAt.keep h.cs hk, PasAt.keep h.ps hk⟩
theorem StepsAt.keep {w w' : World} {S : Nat → Prop} {v : Value} {l : List StT} (h : StepsAt w S v l) (hk : Kp w w' S) : StepsAt w' S v l :=
  h.map hk.size (fun _ _ h => h) (fun b o x hb hS ⟨u1, u2, hx⟩ => ⟨u1, u2, hx.keep hk hb hS⟩)
theorem listOf {α : Type} {P : Nat → α → Prop} : ∀ n, (∀ i, i < n → ∃ x, P i x) → ∃ l : List α, l.length = n ∧ ∀ (j : Nat) (x : α), l[j]? = some x → P j x
  | 0, _ => ⟨[], rfl, fun j x h => by simp at h⟩
  | n + 1, h => by
    obtain ⟨l, hl, hp⟩ := listOf n (fun i hi => h i (by omega))
    obtain ⟨x, hx⟩ := h n (by omega)
    refine ⟨l ++ [x], by simp [hl], fun j y hy => ?_⟩
    by_cases hj : j < l.length
    · rw [List.getElem?_append_left hj] at hy
      exact hp j y hy
    · rw [List.getElem?_append_right (by omega)] at hy
      have hj0 : j - l.length = 0 := by
        rcases Nat.eq_zero_or_pos (j - l.length) with g | g
        · exact g
        · rw [List.getElem?_eq_none (by simp; omega)] at hy
          cases hy
      rw [hj0] at hy
      have : j = n := by omega
      subst this
      have e : x = y := by simpa using hy
      subst e
      exact hx
theorem weightsAll_mem {H : Type} {P : Program} {e : TypeId} {d : DataW H} {n : Nat} : ∀ {l : List (DataW H)}, d ∈ l → n ∈ d.weights P e → n ∈ DataW.weightsAll P e l
  | x :: r, hd, hn => by
    simp only [DataW.weightsAll, List.mem_append]
    rcases List.mem_cons.1 hd with rfl | hd
    · exact .inl hn
    · exact .inr (weightsAll_mem hd hn)
theorem row_of {α H : Type} {enc : TypeId × Value → H} {W : World} {tS tE sz bt : Nat} (hu : Try.prog.underlying tS = some (.slice tE)) (hc : Try.prog.cellsOf tE = sz) (hby : Try.prog.bytesOf tE = bt) (h0 : 0 < sz)
    (E : Nat → Nat → α → Prop) (G : α → Prop)
    (elem : ∀ (n : Nat) (cs : List Value) (y : DataW H × List MemPlace), DataW.trod enc Try.prog W 0 (fun _ => true) true n tE cs = some y → (∀ m ∈ y.1.weights Try.prog tE, m ≤ reachBytes) → ∃ x : α, G x ∧ ∀ b o, (∀ j x', cs[j]? = some x' → W.cell? ⟨b, o + j, none⟩ = some x') → E b o x)
    {n : Nat} {v : Value} {y : DataW H × List MemPlace} (h : DataW.trod enc Try.prog W 0 (fun _ => true) true n tS [v] = some y) (hz : ∀ m ∈ y.1.weights Try.prog tS, m ≤ reachBytes) :
    ∃ l : List α, RowAt W (fun b => b < W.heap.size) sz E v l ∧ l.length * bt ≤ reachBytes ∧ (∀ x ∈ l, G x) ∧ l.length ≤ maxLen := by
  rcases Go.Deep.open_slice hu h with ⟨hcs, _⟩ | ⟨x, len, cap, m, n', D, Pl, hcs, _, hl, hm, hmm, hxx, hx⟩
  · have hv : v = .slice none 0 0 := by simpa using hcs
    subst hv
    exact ⟨[], RowAt.nil _ _ _ _, (by simp), (fun o ho => by cases ho), Nat.zero_le _⟩
  · have hv : v = .slice (some x) len cap := by simpa using hcs
    subst hv
    have hmc : m = cap := by simpa using hmm
    subst hmc
    have hw : len * bt ≤ reachBytes := by
      refine Nat.le_trans ?_ (hz ((((List.range len).map D).length + ((List.range (m - len)).map fun j => D (len + j)).length) * Try.prog.bytesOf tE) (by rw [hxx]; simp [DataW.weights, hu]))
      rw [hby]
      exact Nat.mul_le_mul_right _ (by simp)
    have each : ∀ i, i < len → ∃ e : α, G e ∧ (∃ z, W.cell? (x.add (i * sz)) = some z) ∧ ∀ b o, (∀ j, x.add (i * sz + j) = ⟨b, o + j, none⟩) → E b o e := by
      intro i hi
      obtain ⟨cs', h1, h2⟩ := hx i (by omega)
      obtain ⟨e, he, hE⟩ := elem _ _ _ h2 (fun k hk => hz k (by
        rw [hxx]
        simp only [DataW.weights, hu, List.mem_cons, List.mem_append]
        exact .inr (.inl (weightsAll_mem (List.mem_map.2 ⟨i, List.mem_range.2 hi, rfl⟩) hk))))
      rw [hc] at h1
      obtain ⟨_, hlen, hcell⟩ := World.cells?_some h1
      have hadd : ∀ j, (x.add (i * sz)).add j = x.add (i * sz + j) := fun j => by
        rw [Addr.add_add]
      refine ⟨e, he, ⟨cs'[0]'(by omega), ?_⟩, fun b o ho => hE b o fun j x' hj => ?_⟩
      · have := hcell 0 h0
        rw [hadd] at this
        rw [Nat.add_zero] at this
        rw [this]
        exact List.getElem?_eq_getElem _
      · rw [← ho j, ← hadd j, hcell j (by have := (List.getElem?_eq_some_iff.1 hj).1; omega)]
        exact hj
    obtain ⟨l, hll, hls⟩ := listOf len each
    subst hll
    refine ⟨l, ⟨some x, m, rfl, hl, (fun h => by cases h), ?_⟩, hw, fun e he => ?_, Nat.le_trans hl hm⟩
    · rcases Nat.eq_zero_or_pos l.length with g0 | g0
      · exact .inl (List.eq_nil_of_length_eq_zero g0)
      · obtain ⟨_, ⟨z, hc0⟩, _⟩ := hls 0 l[0] (List.getElem?_eq_getElem g0)
        obtain ⟨b, f, rfl, hb⟩ : ∃ b f, x = ⟨b, f, none⟩ ∧ b < W.heap.size := by
          obtain ⟨b, f, spot⟩ := x
          have hs : spot = none := by simpa [Addr.add] using World.cell?_spot hc0
          subst hs
          exact ⟨b, f, rfl, by have := World.block_lt_of_cell? _ _ hc0; simpa [Addr.add] using this⟩
        exact .inr ⟨b, f, rfl, hb, hb, fun i e hi => (hls i e hi).2.2 b (f + i * sz) (fun j => by rw [addr_add, Nat.add_assoc])⟩
    · obtain ⟨j, hj⟩ := List.getElem?_of_mem he
      exact (hls j e hj).1
theorem list3 {α : Type} {l : List α} (h : l.length = 3) : ∃ a b c, l = [a, b, c] := by
  match l, h with
  | [a, b, c], _ => exact ⟨a, b, c, rfl⟩
theorem list2 {α : Type} {l : List α} (h : l.length = 2) : ∃ a b, l = [a, b] := by
  match l, h with
  | [a, b], _ => exact ⟨a, b, rfl⟩
theorem list4 {α : Type} {l : List α} (h : l.length = 4) : ∃ a b c d, l = [a, b, c, d] := by
  match l, h with
  | [a, b, c, d], _ => exact ⟨a, b, c, d, rfl⟩
theorem list5 {α : Type} {l : List α} (h : l.length = 5) : ∃ a b c d e, l = [a, b, c, d, e] := by
  match l, h with
  | [a, b, c, d, e], _ => exact ⟨a, b, c, d, e, rfl⟩
theorem Try.cells3' : Try.prog.cellsOf 3 = 1 := by kernel_rfl
theorem Try.cells9' : Try.prog.cellsOf 9 = 1 := by kernel_rfl
theorem Try.bytes3' : Try.prog.bytesOf 3 = 8 := by kernel_rfl
theorem Try.cellsIns : Try.prog.cellsOf 29 = 1 := by kernel_rfl
theorem Try.cellsSn : Try.prog.cellsOf 119 = 3 := by kernel_rfl
theorem Try.cellsSns : Try.prog.cellsOf 92 = 1 := by kernel_rfl
theorem Try.bytesSn : Try.prog.bytesOf 119 = 40 := by kernel_rfl
theorem Try.cellsTg : Try.prog.cellsOf 88 = 5 := by kernel_rfl
theorem Try.cellsTgs : Try.prog.cellsOf 30 = 1 := by kernel_rfl
theorem Try.bytesTg : Try.prog.bytesOf 88 = 72 := by kernel_rfl
theorem Try.cellsChq : Try.prog.cellsOf 86 = 4 := by kernel_rfl
theorem Try.cellsPa : Try.prog.cellsOf 96 = 5 := by kernel_rfl
theorem Try.cellsPas : Try.prog.cellsOf 31 = 1 := by kernel_rfl
theorem Try.bytesPa : Try.prog.bytesOf 96 = 64 := by kernel_rfl
theorem Try.cellsShq : Try.prog.cellsOf 94 = 4 := by kernel_rfl
theorem Try.cellsStq : Try.prog.cellsOf 33 = 5 := by kernel_rfl
theorem Try.bytesStq : Try.prog.bytesOf 33 = 72 := by kernel_rfl
theorem int_of {H : Type} {enc : TypeId × Value → H} {W : World} (n : Nat) (cs : List Value) (y : DataW H × List MemPlace) (h : DataW.trod enc Try.prog W 0 (fun _ => true) true n 3 cs = some y) (hz : ∀ m ∈ y.1.weights Try.prog 3, m ≤ reachBytes) : ∃ x : Int, True ∧ ∀ b o, (∀ j x', cs[j]? = some x' → W.cell? ⟨b, o + j, none⟩ = some x') → inE W b o x := by
  obtain ⟨z, rfl, _⟩ := DataW.trod_int Try.underlying3 h
  exact ⟨z, trivial, fun b o hc => hc 0 _ rfl⟩
theorem seen_of {H : Type} {enc : TypeId × Value → H} {W : World} (n : Nat) (cs : List Value) (y : DataW H × List MemPlace) (h : DataW.trod enc Try.prog W 0 (fun _ => true) true n 119 cs = some y) (hz : ∀ m ∈ y.1.weights Try.prog 119, m ≤ reachBytes) : ∃ x : SeT, x.Small ∧ ∀ b o, (∀ j x', cs[j]? = some x' → W.cell? ⟨b, o + j, none⟩ = some x') → seE W b o x := by
  obtain ⟨xs, m, _, hx, hl, hxl, hf⟩ := DataW.trod_struct Try.underlying119 h
  rw [Try.cellsSn] at hl
  obtain ⟨c0, c1, c2, rfl⟩ := list3 hl
  obtain ⟨x0, x1, x2, rfl⟩ := list3 (l := xs) hxl
  obtain ⟨z0, q0, e0, _⟩ := DataW.trod_string Try.underlying9 (hf 0 _ rfl)
  obtain ⟨z1, q1, e1, _⟩ := DataW.trod_string Try.underlying9 (hf 1 _ rfl)
  obtain ⟨z2, q2, _⟩ := DataW.trod_int Try.underlying3 (hf 2 _ rfl)
  simp [Try.cells3', Try.cells9'] at q0 q1 q2
  subst q0 q1 q2
  have s0 : z0.size ≤ reachBytes := hz z0.size (by
    rw [hx]
    simp only [DataW.weights, Try.underlying119]
    refine DataW.weights_mem_each (j := 0) rfl rfl _ ?_
    rw [e0]
    simp [DataW.weights])
  have s1 : z1.size ≤ reachBytes := hz z1.size (by
    rw [hx]
    simp only [DataW.weights, Try.underlying119]
    refine DataW.weights_mem_each (j := 1) rfl rfl _ ?_
    rw [e1]
    simp [DataW.weights])
  unfold reachBytes at s0 s1
  exact ⟨⟨z0, z1, z2⟩, ⟨by show z0.size ≤ MaxText; unfold MaxText; omega, by show z1.size ≤ MaxText; unfold MaxText; omega⟩, fun b o hc => ⟨hc 0 _ rfl, hc 1 _ rfl, hc 2 _ rfl⟩⟩
theorem tagged_of {H : Type} {enc : TypeId × Value → H} {W : World} (n : Nat) (cs : List Value) (y : DataW H × List MemPlace) (h : DataW.trod enc Try.prog W 0 (fun _ => true) true n 88 cs = some y) (hz : ∀ m ∈ y.1.weights Try.prog 88, m ≤ reachBytes) : ∃ x : TgT, x.Small ∧ ∀ b o, (∀ j x', cs[j]? = some x' → W.cell? ⟨b, o + j, none⟩ = some x') → ∃ u, tgE W (fun b => b < W.heap.size) b o x u := by
  obtain ⟨xs, m, _, hx, hl, hxl, hf⟩ := DataW.trod_struct Try.underlying88 h
  rw [Try.cellsTg] at hl
  obtain ⟨c0, c1, c2, c3, c4, rfl⟩ := list5 hl
  obtain ⟨x0, x1, rfl⟩ := list2 (l := xs) hxl
  have g0 : DataW.trod enc Try.prog W 0 (fun _ => true) true m 86 (([c0, c1, c2, c3, c4].drop 0).take (Try.prog.cellsOf 86)) = [x0, x1][0]? := hf 0 _ rfl
  rw [Try.cellsChq] at g0
  have g0' : DataW.trod enc Try.prog W 0 (fun _ => true) true m 86 [c0, c1, c2, c3] = some x0 := g0
  have g1 : DataW.trod enc Try.prog W 0 (fun _ => true) true m 29 (([c0, c1, c2, c3, c4].drop 4).take (Try.prog.cellsOf 29)) = [x0, x1][1]? := hf 1 _ rfl
  rw [Try.cellsIns] at g1
  have g1' : DataW.trod enc Try.prog W 0 (fun _ => true) true m 29 [c4] = some x1 := g1
  clear g0 g1
  obtain ⟨ys, m', _, hy, hl', hyl, hg⟩ := DataW.trod_struct Try.underlying86 g0'
  obtain ⟨y0, y1, y2, y3, rfl⟩ := list4 (l := ys) hyl
  obtain ⟨z0, q0, _⟩ := DataW.trod_int Try.underlying3 (hg 0 _ rfl)
  obtain ⟨z1, q1, e1, _⟩ := DataW.trod_string Try.underlying9 (hg 1 _ rfl)
  obtain ⟨z2, q2, e2, _⟩ := DataW.trod_string Try.underlying9 (hg 2 _ rfl)
  obtain ⟨z3, q3, _⟩ := DataW.trod_int Try.underlying3 (hg 3 _ rfl)
  simp [Try.cells3', Try.cells9'] at q0 q1 q2 q3
  subst q0 q1 q2 q3
  have s1 : z1.size ≤ reachBytes := hz z1.size (by
    rw [hx]
    simp only [DataW.weights, Try.underlying88]
    refine DataW.weights_mem_each (j := 0) rfl rfl _ ?_
    rw [hy]
    simp only [DataW.weights, Try.underlying86]
    refine DataW.weights_mem_each (j := 1) rfl rfl _ ?_
    rw [e1]
    simp [DataW.weights])
  have s2 : z2.size ≤ reachBytes := hz z2.size (by
    rw [hx]
    simp only [DataW.weights, Try.underlying88]
    refine DataW.weights_mem_each (j := 0) rfl rfl _ ?_
    rw [hy]
    simp only [DataW.weights, Try.underlying86]
    refine DataW.weights_mem_each (j := 2) rfl rfl _ ?_
    rw [e2]
    simp [DataW.weights])
  obtain ⟨tl, ht, hb, _, _⟩ := row_of Try.underlying29 Try.cells3' Try.bytes3' (by decide) (inE W) (fun _ => True) int_of g1' (fun k hk => hz k (by
    rw [hx]
    simp only [DataW.weights, Try.underlying88]
    exact DataW.weights_mem_each (j := 1) rfl rfl k hk))
  unfold reachBytes at s1 s2 hb
  exact ⟨⟨z0, z1, z2, z3, tl⟩, ⟨by show z1.size ≤ MaxText; unfold MaxText; omega, by show z2.size ≤ MaxText; unfold MaxText; omega, by show tl.length * 8 ≤ MaxRow; unfold MaxRow; omega⟩, fun b o hc => ⟨c4, hc 0 _ rfl, hc 1 _ rfl, hc 2 _ rfl, hc 3 _ rfl, hc 4 _ rfl, ht⟩⟩
theorem part_of {H : Type} {enc : TypeId × Value → H} {W : World} (n : Nat) (cs : List Value) (y : DataW H × List MemPlace) (h : DataW.trod enc Try.prog W 0 (fun _ => true) true n 96 cs = some y) (hz : ∀ m ∈ y.1.weights Try.prog 96, m ≤ reachBytes) : ∃ x : PaT, x.Small ∧ ∀ b o, (∀ j x', cs[j]? = some x' → W.cell? ⟨b, o + j, none⟩ = some x') → ∃ u, paE W (fun b => b < W.heap.size) b o x u := by
  obtain ⟨xs, m, _, hx, hl, hxl, hf⟩ := DataW.trod_struct Try.underlying96 h
  rw [Try.cellsPa] at hl
  obtain ⟨c0, c1, c2, c3, c4, rfl⟩ := list5 hl
  obtain ⟨x0, x1, rfl⟩ := list2 (l := xs) hxl
  obtain ⟨z0, q0, _⟩ := DataW.trod_int Try.underlying3 (hf 0 _ rfl)
  have g0 : DataW.trod enc Try.prog W 0 (fun _ => true) true m 94 (([c0, c1, c2, c3, c4].drop 1).take (Try.prog.cellsOf 94)) = [x0, x1][1]? := hf 1 _ rfl
  rw [Try.cellsShq] at g0
  have g0' : DataW.trod enc Try.prog W 0 (fun _ => true) true m 94 [c1, c2, c3, c4] = some x1 := g0
  clear g0
  obtain ⟨ys, m', _, hy, hl', hyl, hg⟩ := DataW.trod_struct Try.underlying94 g0'
  obtain ⟨y0, y1, y2, y3, rfl⟩ := list4 (l := ys) hyl
  obtain ⟨z1, q1, _⟩ := DataW.trod_int Try.underlying3 (hg 0 _ rfl)
  obtain ⟨z2, q2, e2, _⟩ := DataW.trod_string Try.underlying9 (hg 1 _ rfl)
  obtain ⟨z3, q3, _⟩ := DataW.trod_int Try.underlying3 (hg 2 _ rfl)
  have g1 : DataW.trod enc Try.prog W 0 (fun _ => true) true m' 92 (([c1, c2, c3, c4].drop 3).take (Try.prog.cellsOf 92)) = [y0, y1, y2, y3][3]? := hg 3 _ rfl
  rw [Try.cellsSns] at g1
  have g1' : DataW.trod enc Try.prog W 0 (fun _ => true) true m' 92 [c4] = some y3 := g1
  clear g1
  simp [Try.cells3', Try.cells9'] at q0 q1 q2 q3
  subst q0 q1 q2 q3
  have s2 : z2.size ≤ reachBytes := hz z2.size (by
    rw [hx]
    simp only [DataW.weights, Try.underlying96]
    refine DataW.weights_mem_each (j := 1) rfl rfl _ ?_
    rw [hy]
    simp only [DataW.weights, Try.underlying94]
    refine DataW.weights_mem_each (j := 1) rfl rfl _ ?_
    rw [e2]
    simp [DataW.weights])
  obtain ⟨tl, ht, hb, hsm, _⟩ := row_of Try.underlying92 Try.cellsSn Try.bytesSn (by decide) (seE W) SeT.Small seen_of g1' (fun k hk => hz k (by
    rw [hx]
    simp only [DataW.weights, Try.underlying96]
    refine DataW.weights_mem_each (j := 1) rfl rfl _ ?_
    rw [hy]
    simp only [DataW.weights, Try.underlying94]
    exact DataW.weights_mem_each (j := 3) rfl rfl k hk))
  unfold reachBytes at s2 hb
  exact ⟨⟨z0, z1, z2, z3, tl⟩, ⟨by show z2.size ≤ MaxText; unfold MaxText; omega, by show tl.length * 40 ≤ MaxRow; unfold MaxRow; omega, hsm⟩, fun b o hc => ⟨c4, hc 0 _ rfl, hc 1 _ rfl, hc 2 _ rfl, hc 3 _ rfl, hc 4 _ rfl, ht⟩⟩
theorem step_of {H : Type} {enc : TypeId × Value → H} {W : World} (n : Nat) (cs : List Value) (y : DataW H × List MemPlace) (h : DataW.trod enc Try.prog W 0 (fun _ => true) true n 33 cs = some y) (hz : ∀ m ∈ y.1.weights Try.prog 33, m ≤ reachBytes) : ∃ x : StT, x.Small ∧ ∀ b o, (∀ j x', cs[j]? = some x' → W.cell? ⟨b, o + j, none⟩ = some x') → ∃ u1 u2, stE W (fun b => b < W.heap.size) b o x u1 u2 := by
  obtain ⟨xs, m, _, hx, hl, hxl, hf⟩ := DataW.trod_struct Try.underlying33 h
  rw [Try.cellsStq] at hl
  obtain ⟨c0, c1, c2, c3, c4, rfl⟩ := list5 hl
  obtain ⟨x0, x1, x2, x3, x4, rfl⟩ := list5 (l := xs) hxl
  obtain ⟨z0, q0, _⟩ := DataW.trod_int Try.underlying3 (hf 0 _ rfl)
  obtain ⟨z1, q1, _⟩ := DataW.trod_int Try.underlying3 (hf 1 _ rfl)
  obtain ⟨z2, q2, _⟩ := DataW.trod_int Try.underlying3 (hf 2 _ rfl)
  have g3 : DataW.trod enc Try.prog W 0 (fun _ => true) true m 30 (([c0, c1, c2, c3, c4].drop 3).take (Try.prog.cellsOf 30)) = [x0, x1, x2, x3, x4][3]? := hf 3 _ rfl
  rw [Try.cellsTgs] at g3
  have g3' : DataW.trod enc Try.prog W 0 (fun _ => true) true m 30 [c3] = some x3 := g3
  have g4 : DataW.trod enc Try.prog W 0 (fun _ => true) true m 31 (([c0, c1, c2, c3, c4].drop 4).take (Try.prog.cellsOf 31)) = [x0, x1, x2, x3, x4][4]? := hf 4 _ rfl
  rw [Try.cellsPas] at g4
  have g4' : DataW.trod enc Try.prog W 0 (fun _ => true) true m 31 [c4] = some x4 := g4
  clear g3 g4
  simp [Try.cells3'] at q0 q1 q2
  subst q0 q1 q2
  obtain ⟨tl, ht, hb, hts, _⟩ := row_of Try.underlying30 Try.cellsTg Try.bytesTg (by decide) (fun b o t => ∃ u, tgE W (fun b => b < W.heap.size) b o t u) TgT.Small tagged_of g3' (fun k hk => hz k (by
    rw [hx]
    simp only [DataW.weights, Try.underlying33]
    exact DataW.weights_mem_each (j := 3) rfl rfl k hk))
  obtain ⟨pl, hp, hbp, hps, _⟩ := row_of Try.underlying31 Try.cellsPa Try.bytesPa (by decide) (fun b o t => ∃ u, paE W (fun b => b < W.heap.size) b o t u) PaT.Small part_of g4' (fun k hk => hz k (by
    rw [hx]
    simp only [DataW.weights, Try.underlying33]
    exact DataW.weights_mem_each (j := 4) rfl rfl k hk))
  unfold reachBytes at hb hbp
  exact ⟨⟨z0, z1, z2, tl, pl⟩, ⟨⟨by show tl.length * 72 ≤ MaxRow; unfold MaxRow; omega, hts⟩, ⟨by show pl.length * 64 ≤ MaxRow; unfold MaxRow; omega, hps⟩⟩, fun b o hc => ⟨c3, c4, hc 0 _ rfl, hc 1 _ rfl, hc 2 _ rfl, hc 3 _ rfl, hc 4 _ rfl, ht, hp⟩⟩
theorem steps_of {H : Type} {enc : TypeId × Value → H} {W : World} {v : Value} {d : DataW H} {p : List MemPlace} (h : DataW.Trod enc Try.prog W 0 (fun _ => true) true 22 v d p) (hv : v.cells.toList = [v]) (hz : ∀ m ∈ d.weights Try.prog 22, m ≤ reachBytes) :
    ∃ l : List StT, StepsAt W (fun b => b < W.heap.size) v l ∧ l.length ≤ maxLen ∧ ∀ x ∈ l, x.Small := by
  obtain ⟨fuel, hf⟩ := h
  rw [hv] at hf
  obtain ⟨l, h1, _, h3, h4⟩ := row_of Try.underlying22 Try.cellsStq Try.bytesStq (by decide) (fun b o t => ∃ u1 u2, stE W (fun b => b < W.heap.size) b o t u1 u2) StT.Small step_of hf hz
  exact ⟨l, h1, h4, h3⟩
end Go.Proofs.Ytlidkieljiebiaa
