/-
  view: scripts that came in.
-/
import Derived.Test.YtlbhnlpdijhmlaaVNote
import Derived.ProofKit
import Derived.ChangeSlices
import Derived.OpenShut
import Derived.ChangeOld
import Derived.SizedLaws
import Derived.Deep.Slices
import Derived.Deep.Strs
namespace Go.Proofs.Ytlbhnlpdijhmlaa
open Go.RowKit Go.ChangeShapes Go.WideShapes Go.ChangeAt
set_option linter.unusedVariables false
set_option linter.unusedSimpArgs false

theorem listOf {α : Type} {P : Nat → α → Prop} : ∀ n, (∀ i, i < n → ∃ x, P i x) → ∃ l : List α, l.length = n ∧ ∀ (j : Nat) (x : α), l[j]? = some x → P j x
  | 0, _ => ⟨[], rfl, fun j x h => by simp at h⟩
  | n + 1, h => by
    obtain ⟨l, hl, hp⟩ := listOf n (fun i hi => h i (by omega))
    obtain ⟨x, hx⟩ := h n (by omega)
    refine ⟨l ++ [x], by simp [hl], fun j y hy => ?_⟩
    by_cases hj : j < l.length
    · rw [List.getElem?_append_left hj] at hy
      exact hp j y hy
    · rw [List.getElem?_append_right (by omega)] at hy
      have hj0 : j - l.length = 0 := by
        rcases Nat.eq_zero_or_pos (j - l.length) with g | g
        · exact g
        · rw [List.getElem?_eq_none (by simp; omega)] at hy
          cases hy
      rw [hj0] at hy
      have : j = n := by omega
      subst this
      have e : x = y := by simpa using hy
      subst e
      exact hx
theorem weightsAll_mem {H : Type} {P : Program} {e : TypeId} {d : DataW H} {n : Nat} : ∀ {l : List (DataW H)}, d ∈ l → n ∈ d.weights P e → n ∈ DataW.weightsAll P e l
  | x :: r, hd, hn => by
    simp only [DataW.weightsAll, List.mem_append]
    rcases List.mem_cons.1 hd with rfl | hd
    · exact .inl hn
    · exact .inr (weightsAll_mem hd hn)
theorem row_of {α H : Type} {enc : TypeId × Value → H} {W : World} {tS tE sz bt : Nat} (hu : Try.prog.underlying tS = some (.slice tE)) (hc : Try.prog.cellsOf tE = sz) (hby : Try.prog.bytesOf tE = bt) (h0 : 0 < sz)
    (E : Nat → Nat → α → Prop) (G : α → Prop)
    (elem : ∀ (n : Nat) (cs : List Value) (y : DataW H × List MemPlace), DataW.trod enc Try.prog W 0 (fun _ => true) true n tE cs = some y → (∀ m ∈ y.1.weights Try.prog tE, m ≤ reachBytes) → ∃ x : α, G x ∧ ∀ b o, (∀ j x', cs[j]? = some x' → W.cell? ⟨b, o + j, none⟩ = some x') → E b o x)
    {n : Nat} {v : Value} {y : DataW H × List MemPlace} (h : DataW.trod enc Try.prog W 0 (fun _ => true) true n tS [v] = some y) (hz : ∀ m ∈ y.1.weights Try.prog tS, m ≤ reachBytes) :
    ∃ l : List α, RowAt W (fun b => b < W.heap.size) sz E v l ∧ l.length * bt ≤ reachBytes ∧ (∀ x ∈ l, G x) ∧ l.length ≤ maxLen := by
  rcases Go.Deep.open_slice hu h with ⟨hcs, _⟩ | ⟨x, len, cap, m, n', D, Pl, hcs, _, hl, hm, hmm, hxx, hx⟩
  · have hv : v = .slice none 0 0 := by simpa using hcs
    subst hv
    exact ⟨[], RowAt.nil _ _ _ _, (by simp), (fun o ho => by cases ho), Nat.zero_le _⟩
  · have hv : v = .slice (some x) len cap := by simpa using hcs
    subst hv
    have hmc : m = cap := by simpa using hmm
    subst hmc
    have hw : len * bt ≤ reachBytes := by
      refine Nat.le_trans ?_ (hz ((((List.range len).map D).length + ((List.range (m - len)).map fun j => D (len + j)).length) * Try.prog.bytesOf tE) (by rw [hxx]; simp [DataW.weights, hu]))
      rw [hby]
      exact Nat.mul_le_mul_right _ (by simp)
    have each : ∀ i, i < len → ∃ e : α, G e ∧ (∃ z, W.cell? (x.add (i * sz)) = some z) ∧ ∀ b o, (∀ j, x.add (i * sz + j) = ⟨b, o + j, none⟩) → E b o e := by
      intro i hi
      obtain ⟨cs', h1, h2⟩ := hx i (by omega)
      obtain ⟨e, he, hE⟩ := elem _ _ _ h2 (fun k hk => hz k (by
        rw [hxx]
        simp only [DataW.weights, hu, List.mem_cons, List.mem_append]
        exact .inr (.inl (weightsAll_mem (List.mem_map.2 ⟨i, List.mem_range.2 hi, rfl⟩) hk))))
      rw [hc] at h1
      obtain ⟨_, hlen, hcell⟩ := World.cells?_some h1
      have hadd : ∀ j, (x.add (i * sz)).add j = x.add (i * sz + j) := fun j => by
        rw [Addr.add_add]
      refine ⟨e, he, ⟨cs'[0]'(by omega), ?_⟩, fun b o ho => hE b o fun j x' hj => ?_⟩
      · have := hcell 0 h0
        rw [hadd] at this
        rw [Nat.add_zero] at this
        rw [this]
        exact List.getElem?_eq_getElem _
      · rw [← ho j, ← hadd j, hcell j (by have := (List.getElem?_eq_some_iff.1 hj).1; omega)]
        exact hj
    obtain ⟨l, hll, hls⟩ := listOf len each
    subst hll
    refine ⟨l, ⟨some x, m, rfl, hl, (fun h => by cases h), ?_⟩, hw, fun e he => ?_, Nat.le_trans hl hm⟩
    · rcases Nat.eq_zero_or_pos l.length with g0 | g0
      · exact .inl (List.eq_nil_of_length_eq_zero g0)
      · obtain ⟨_, ⟨z, hc0⟩, _⟩ := hls 0 l[0] (List.getElem?_eq_getElem g0)
        obtain ⟨b, f, rfl, hb⟩ : ∃ b f, x = ⟨b, f, none⟩ ∧ b < W.heap.size := by
          obtain ⟨b, f, spot⟩ := x
          have hs : spot = none := by simpa [Addr.add] using World.cell?_spot hc0
          subst hs
          exact ⟨b, f, rfl, by have := World.block_lt_of_cell? _ _ hc0; simpa [Addr.add] using this⟩
        exact .inr ⟨b, f, rfl, hb, hb, fun i e hi => (hls i e hi).2.2 b (f + i * sz) (fun j => by rw [addr_add, Nat.add_assoc])⟩
    · obtain ⟨j, hj⟩ := List.getElem?_of_mem he
      exact (hls j e hj).1
/-- Acts in memory. -/
abbrev ActsAt (w : World) (S : Nat → Prop) (v : Value) (l : List WhT) : Prop := RowAt w S 24 (fun b o x => ∃ cs, x.At cs ∧ w.rangeAt b o cs) v l
theorem ActsAt.keep {w w' : World} {S : Nat → Prop} {v : Value} {l : List WhT} (h : ActsAt w S v l) (hk : Kp w w' S) : ActsAt w' S v l :=
  RowAt.map h hk.size (fun _ _ hS => hS) (fun b o t hb hS ⟨cs, h1, h2⟩ => ⟨cs, h1, fun j u hu => hk.cell hb hS (h2 j u hu)⟩)
theorem list21 {α : Type} {l : List α} (h : l.length = 21) : ∃ a0 a1 a2 a3 a4 a5 a6 a7 a8 a9 a10 a11 a12 a13 a14 a15 a16 a17 a18 a19 a20, l = [a0, a1, a2, a3, a4, a5, a6, a7, a8, a9, a10, a11, a12, a13, a14, a15, a16, a17, a18, a19, a20] := by
  match l, h with
  | [a0, a1, a2, a3, a4, a5, a6, a7, a8, a9, a10, a11, a12, a13, a14, a15, a16, a17, a18, a19, a20], _ => exact ⟨a0, a1, a2, a3, a4, a5, a6, a7, a8, a9, a10, a11, a12, a13, a14, a15, a16, a17, a18, a19, a20, rfl⟩
theorem list16 {α : Type} {l : List α} (h : l.length = 16) : ∃ a0 a1 a2 a3 a4 a5 a6 a7 a8 a9 a10 a11 a12 a13 a14 a15, l = [a0, a1, a2, a3, a4, a5, a6, a7, a8, a9, a10, a11, a12, a13, a14, a15] := by
  match l, h with
  | [a0, a1, a2, a3, a4, a5, a6, a7, a8, a9, a10, a11, a12, a13, a14, a15], _ => exact ⟨a0, a1, a2, a3, a4, a5, a6, a7, a8, a9, a10, a11, a12, a13, a14, a15, rfl⟩
theorem list24 {α : Type} {l : List α} (h : l.length = 24) : ∃ a0 a1 a2 a3 a4 a5 a6 a7 a8 a9 a10 a11 a12 a13 a14 a15 a16 a17 a18 a19 a20 a21 a22 a23, l = [a0, a1, a2, a3, a4, a5, a6, a7, a8, a9, a10, a11, a12, a13, a14, a15, a16, a17, a18, a19, a20, a21, a22, a23] := by
  match l, h with
  | [a0, a1, a2, a3, a4, a5, a6, a7, a8, a9, a10, a11, a12, a13, a14, a15, a16, a17, a18, a19, a20, a21, a22, a23], _ => exact ⟨a0, a1, a2, a3, a4, a5, a6, a7, a8, a9, a10, a11, a12, a13, a14, a15, a16, a17, a18, a19, a20, a21, a22, a23, rfl⟩
theorem list4 {α : Type} {l : List α} (h : l.length = 4) : ∃ a b c d, l = [a, b, c, d] := by
  match l, h with
  | [a, b, c, d], _ => exact ⟨a, b, c, d, rfl⟩
theorem list3 {α : Type} {l : List α} (h : l.length = 3) : ∃ a b c, l = [a, b, c] := by
  match l, h with
  | [a, b, c], _ => exact ⟨a, b, c, rfl⟩
theorem Try.cellsNote : Try.prog.cellsOf 47 = 21 := by kernel_rfl
theorem Try.cellsAct : Try.prog.cellsOf 49 = 24 := by kernel_rfl
theorem Try.bytesAct : Try.prog.bytesOf 49 = 296 := by kernel_rfl
theorem Try.cellsVw : Try.prog.cellsOf 28 = 3 := by kernel_rfl
theorem Try.cellsRe : Try.prog.cellsOf 42 = 4 := by kernel_rfl
theorem Try.cellsInt : Try.prog.cellsOf 3 = 1 := by kernel_rfl
theorem Try.cellsStr : Try.prog.cellsOf 9 = 1 := by kernel_rfl
theorem Try.cellsErr : Try.prog.cellsOf 24 = 1 := by kernel_rfl
theorem Try.cellsOps : Try.prog.cellsOf 38 = 1 := by kernel_rfl
theorem Try.cellsEntries : Try.prog.cellsOf 39 = 1 := by kernel_rfl
theorem Try.cellsWatches : Try.prog.cellsOf 43 = 1 := by kernel_rfl
theorem Try.cellsParts : Try.prog.cellsOf 44 = 1 := by kernel_rfl
theorem Try.cellsItems : Try.prog.cellsOf 45 = 1 := by kernel_rfl
theorem Try.cellsRes : Try.prog.cellsOf 40 = 1 := by kernel_rfl
theorem slice_one {H : Type} {enc : TypeId × Value → H} {W : World} {n tS tE : Nat} {c : Value} {y : DataW H × List MemPlace} (hu : Try.prog.underlying tS = some (.slice tE)) (h : DataW.trod enc Try.prog W 0 (fun _ => true) true n tS [c] = some y) : c.oneCell' = true := by
  rcases Go.Deep.open_slice hu h with ⟨hcs, _⟩ | ⟨x, len, cap, m, n', D, Pl, hcs, _⟩
  · have hv : c = .slice none 0 0 := by simpa using hcs
    rw [hv]; rfl
  · have hv : c = .slice (some x) len cap := by simpa using hcs
    rw [hv]; rfl
set_option maxHeartbeats 1600000 in
theorem note_of {H : Type} {enc : TypeId × Value → H} {W : World} (n : Nat) (cs : List Value) (y : DataW H × List MemPlace) (h : DataW.trod enc Try.prog W 0 (fun _ => true) true n 47 cs = some y) : ∃ k v, NoAt cs k v := by
  obtain ⟨xs, m, _, hx, hl, hxl, hf⟩ := DataW.trod_struct Try.underlying47 h
  rw [Try.cellsNote] at hl
  obtain ⟨c0, c1, c2, c3, c4, c5, c6, c7, c8, c9, c10, c11, c12, c13, c14, c15, c16, c17, c18, c19, c20, rfl⟩ := list21 hl
  obtain ⟨x0, x1, x2, x3, x4, x5, x6, x7, x8, x9, x10, x11, x12, x13, x14, x15, rfl⟩ := list16 (l := xs) hxl
  have g0 : DataW.trod enc Try.prog W 0 (fun _ => true) true m 3 ((([c0, c1, c2, c3, c4, c5, c6, c7, c8, c9, c10, c11, c12, c13, c14, c15, c16, c17, c18, c19, c20] : List Value).drop 0).take (Try.prog.cellsOf 3)) = [x0, x1, x2, x3, x4, x5, x6, x7, x8, x9, x10, x11, x12, x13, x14, x15][0]? := hf 0 _ rfl
  rw [Try.cellsInt] at g0
  have g1 : DataW.trod enc Try.prog W 0 (fun _ => true) true m 28 ((([c0, c1, c2, c3, c4, c5, c6, c7, c8, c9, c10, c11, c12, c13, c14, c15, c16, c17, c18, c19, c20] : List Value).drop 1).take (Try.prog.cellsOf 28)) = [x0, x1, x2, x3, x4, x5, x6, x7, x8, x9, x10, x11, x12, x13, x14, x15][1]? := hf 1 _ rfl
  rw [Try.cellsVw] at g1
  have g2 : DataW.trod enc Try.prog W 0 (fun _ => true) true m 3 ((([c0, c1, c2, c3, c4, c5, c6, c7, c8, c9, c10, c11, c12, c13, c14, c15, c16, c17, c18, c19, c20] : List Value).drop 4).take (Try.prog.cellsOf 3)) = [x0, x1, x2, x3, x4, x5, x6, x7, x8, x9, x10, x11, x12, x13, x14, x15][2]? := hf 2 _ rfl
  rw [Try.cellsInt] at g2
  have g3 : DataW.trod enc Try.prog W 0 (fun _ => true) true m 3 ((([c0, c1, c2, c3, c4, c5, c6, c7, c8, c9, c10, c11, c12, c13, c14, c15, c16, c17, c18, c19, c20] : List Value).drop 5).take (Try.prog.cellsOf 3)) = [x0, x1, x2, x3, x4, x5, x6, x7, x8, x9, x10, x11, x12, x13, x14, x15][3]? := hf 3 _ rfl
  rw [Try.cellsInt] at g3
  have g4 : DataW.trod enc Try.prog W 0 (fun _ => true) true m 3 ((([c0, c1, c2, c3, c4, c5, c6, c7, c8, c9, c10, c11, c12, c13, c14, c15, c16, c17, c18, c19, c20] : List Value).drop 6).take (Try.prog.cellsOf 3)) = [x0, x1, x2, x3, x4, x5, x6, x7, x8, x9, x10, x11, x12, x13, x14, x15][4]? := hf 4 _ rfl
  rw [Try.cellsInt] at g4
  have g5 : DataW.trod enc Try.prog W 0 (fun _ => true) true m 3 ((([c0, c1, c2, c3, c4, c5, c6, c7, c8, c9, c10, c11, c12, c13, c14, c15, c16, c17, c18, c19, c20] : List Value).drop 7).take (Try.prog.cellsOf 3)) = [x0, x1, x2, x3, x4, x5, x6, x7, x8, x9, x10, x11, x12, x13, x14, x15][5]? := hf 5 _ rfl
  rw [Try.cellsInt] at g5
  have g6 : DataW.trod enc Try.prog W 0 (fun _ => true) true m 3 ((([c0, c1, c2, c3, c4, c5, c6, c7, c8, c9, c10, c11, c12, c13, c14, c15, c16, c17, c18, c19, c20] : List Value).drop 8).take (Try.prog.cellsOf 3)) = [x0, x1, x2, x3, x4, x5, x6, x7, x8, x9, x10, x11, x12, x13, x14, x15][6]? := hf 6 _ rfl
  rw [Try.cellsInt] at g6
  have g7 : DataW.trod enc Try.prog W 0 (fun _ => true) true m 3 ((([c0, c1, c2, c3, c4, c5, c6, c7, c8, c9, c10, c11, c12, c13, c14, c15, c16, c17, c18, c19, c20] : List Value).drop 9).take (Try.prog.cellsOf 3)) = [x0, x1, x2, x3, x4, x5, x6, x7, x8, x9, x10, x11, x12, x13, x14, x15][7]? := hf 7 _ rfl
  rw [Try.cellsInt] at g7
  have g8 : DataW.trod enc Try.prog W 0 (fun _ => true) true m 24 ((([c0, c1, c2, c3, c4, c5, c6, c7, c8, c9, c10, c11, c12, c13, c14, c15, c16, c17, c18, c19, c20] : List Value).drop 10).take (Try.prog.cellsOf 24)) = [x0, x1, x2, x3, x4, x5, x6, x7, x8, x9, x10, x11, x12, x13, x14, x15][8]? := hf 8 _ rfl
  rw [Try.cellsErr] at g8
  have g9 : DataW.trod enc Try.prog W 0 (fun _ => true) true m 38 ((([c0, c1, c2, c3, c4, c5, c6, c7, c8, c9, c10, c11, c12, c13, c14, c15, c16, c17, c18, c19, c20] : List Value).drop 11).take (Try.prog.cellsOf 38)) = [x0, x1, x2, x3, x4, x5, x6, x7, x8, x9, x10, x11, x12, x13, x14, x15][9]? := hf 9 _ rfl
  rw [Try.cellsOps] at g9
  have g10 : DataW.trod enc Try.prog W 0 (fun _ => true) true m 39 ((([c0, c1, c2, c3, c4, c5, c6, c7, c8, c9, c10, c11, c12, c13, c14, c15, c16, c17, c18, c19, c20] : List Value).drop 12).take (Try.prog.cellsOf 39)) = [x0, x1, x2, x3, x4, x5, x6, x7, x8, x9, x10, x11, x12, x13, x14, x15][10]? := hf 10 _ rfl
  rw [Try.cellsEntries] at g10
  have g11 : DataW.trod enc Try.prog W 0 (fun _ => true) true m 42 ((([c0, c1, c2, c3, c4, c5, c6, c7, c8, c9, c10, c11, c12, c13, c14, c15, c16, c17, c18, c19, c20] : List Value).drop 13).take (Try.prog.cellsOf 42)) = [x0, x1, x2, x3, x4, x5, x6, x7, x8, x9, x10, x11, x12, x13, x14, x15][11]? := hf 11 _ rfl
  rw [Try.cellsRe] at g11
  have g12 : DataW.trod enc Try.prog W 0 (fun _ => true) true m 43 ((([c0, c1, c2, c3, c4, c5, c6, c7, c8, c9, c10, c11, c12, c13, c14, c15, c16, c17, c18, c19, c20] : List Value).drop 17).take (Try.prog.cellsOf 43)) = [x0, x1, x2, x3, x4, x5, x6, x7, x8, x9, x10, x11, x12, x13, x14, x15][12]? := hf 12 _ rfl
  rw [Try.cellsWatches] at g12
  have g13 : DataW.trod enc Try.prog W 0 (fun _ => true) true m 44 ((([c0, c1, c2, c3, c4, c5, c6, c7, c8, c9, c10, c11, c12, c13, c14, c15, c16, c17, c18, c19, c20] : List Value).drop 18).take (Try.prog.cellsOf 44)) = [x0, x1, x2, x3, x4, x5, x6, x7, x8, x9, x10, x11, x12, x13, x14, x15][13]? := hf 13 _ rfl
  rw [Try.cellsParts] at g13
  have g14 : DataW.trod enc Try.prog W 0 (fun _ => true) true m 45 ((([c0, c1, c2, c3, c4, c5, c6, c7, c8, c9, c10, c11, c12, c13, c14, c15, c16, c17, c18, c19, c20] : List Value).drop 19).take (Try.prog.cellsOf 45)) = [x0, x1, x2, x3, x4, x5, x6, x7, x8, x9, x10, x11, x12, x13, x14, x15][14]? := hf 14 _ rfl
  rw [Try.cellsItems] at g14
  have g15 : DataW.trod enc Try.prog W 0 (fun _ => true) true m 9 ((([c0, c1, c2, c3, c4, c5, c6, c7, c8, c9, c10, c11, c12, c13, c14, c15, c16, c17, c18, c19, c20] : List Value).drop 20).take (Try.prog.cellsOf 9)) = [x0, x1, x2, x3, x4, x5, x6, x7, x8, x9, x10, x11, x12, x13, x14, x15][15]? := hf 15 _ rfl
  rw [Try.cellsStr] at g15
  have v1 : DataW.trod enc Try.prog W 0 (fun _ => true) true m 28 [c1, c2, c3] = some x1 := g1
  obtain ⟨ys, m', _, _, hl', hyl, hg⟩ := DataW.trod_struct Try.underlying28 v1
  obtain ⟨y0, y1, y2, rfl⟩ := list3 (l := ys) hyl
  have v11 : DataW.trod enc Try.prog W 0 (fun _ => true) true m 42 [c13, c14, c15, c16] = some x11 := g11
  obtain ⟨zs, m2, _, _, hl2, hzl, hr⟩ := DataW.trod_struct Try.underlying42 v11
  obtain ⟨z0, z1, z2, z3, rfl⟩ := list4 (l := zs) hzl
  obtain ⟨i0, q0, _⟩ := DataW.trod_int Try.underlying3 (show DataW.trod enc Try.prog W 0 (fun _ => true) true _ _ [c0] = some _ from g0)
  obtain rfl : c0 = .int .i64 i0 := by simpa using q0
  obtain ⟨i4, q4, _⟩ := DataW.trod_int Try.underlying3 (show DataW.trod enc Try.prog W 0 (fun _ => true) true _ _ [c4] = some _ from g2)
  obtain rfl : c4 = .int .i64 i4 := by simpa using q4
  obtain ⟨i5, q5, _⟩ := DataW.trod_int Try.underlying3 (show DataW.trod enc Try.prog W 0 (fun _ => true) true _ _ [c5] = some _ from g3)
  obtain rfl : c5 = .int .i64 i5 := by simpa using q5
  obtain ⟨i6, q6, _⟩ := DataW.trod_int Try.underlying3 (show DataW.trod enc Try.prog W 0 (fun _ => true) true _ _ [c6] = some _ from g4)
  obtain rfl : c6 = .int .i64 i6 := by simpa using q6
  obtain ⟨i7, q7, _⟩ := DataW.trod_int Try.underlying3 (show DataW.trod enc Try.prog W 0 (fun _ => true) true _ _ [c7] = some _ from g5)
  obtain rfl : c7 = .int .i64 i7 := by simpa using q7
  obtain ⟨i8, q8, _⟩ := DataW.trod_int Try.underlying3 (show DataW.trod enc Try.prog W 0 (fun _ => true) true _ _ [c8] = some _ from g6)
  obtain rfl : c8 = .int .i64 i8 := by simpa using q8
  obtain ⟨i9, q9, _⟩ := DataW.trod_int Try.underlying3 (show DataW.trod enc Try.prog W 0 (fun _ => true) true _ _ [c9] = some _ from g7)
  obtain rfl : c9 = .int .i64 i9 := by simpa using q9
  obtain ⟨i10, q10, _⟩ := DataW.trod_int Try.underlying24 (show DataW.trod enc Try.prog W 0 (fun _ => true) true _ _ [c10] = some _ from g8)
  obtain rfl : c10 = .int .i64 i10 := by simpa using q10
  have w0 : DataW.trod enc Try.prog W 0 (fun _ => true) true m' 3 ((([c1, c2, c3] : List Value).drop 0).take (Try.prog.cellsOf 3)) = [y0, y1, y2][0]? := hg 0 _ rfl
  rw [Try.cellsInt] at w0
  have w1 : DataW.trod enc Try.prog W 0 (fun _ => true) true m' 3 ((([c1, c2, c3] : List Value).drop 1).take (Try.prog.cellsOf 3)) = [y0, y1, y2][1]? := hg 1 _ rfl
  rw [Try.cellsInt] at w1
  have w2 : DataW.trod enc Try.prog W 0 (fun _ => true) true m' 3 ((([c1, c2, c3] : List Value).drop 2).take (Try.prog.cellsOf 3)) = [y0, y1, y2][2]? := hg 2 _ rfl
  rw [Try.cellsInt] at w2
  have t0 : DataW.trod enc Try.prog W 0 (fun _ => true) true m2 3 ((([c13, c14, c15, c16] : List Value).drop 0).take (Try.prog.cellsOf 3)) = [z0, z1, z2, z3][0]? := hr 0 _ rfl
  rw [Try.cellsInt] at t0
  have t1 : DataW.trod enc Try.prog W 0 (fun _ => true) true m2 24 ((([c13, c14, c15, c16] : List Value).drop 1).take (Try.prog.cellsOf 24)) = [z0, z1, z2, z3][1]? := hr 1 _ rfl
  rw [Try.cellsErr] at t1
  have t2 : DataW.trod enc Try.prog W 0 (fun _ => true) true m2 3 ((([c13, c14, c15, c16] : List Value).drop 2).take (Try.prog.cellsOf 3)) = [z0, z1, z2, z3][2]? := hr 2 _ rfl
  rw [Try.cellsInt] at t2
  have t3 : DataW.trod enc Try.prog W 0 (fun _ => true) true m2 40 ((([c13, c14, c15, c16] : List Value).drop 3).take (Try.prog.cellsOf 40)) = [z0, z1, z2, z3][3]? := hr 3 _ rfl
  rw [Try.cellsRes] at t3
  obtain ⟨i1, q1, _⟩ := DataW.trod_int Try.underlying3 (show DataW.trod enc Try.prog W 0 (fun _ => true) true _ _ [c1] = some _ from w0)
  obtain rfl : c1 = .int .i64 i1 := by simpa using q1
  obtain ⟨i2, q2, _⟩ := DataW.trod_int Try.underlying3 (show DataW.trod enc Try.prog W 0 (fun _ => true) true _ _ [c2] = some _ from w1)
  obtain rfl : c2 = .int .i64 i2 := by simpa using q2
  obtain ⟨i3, q3, _⟩ := DataW.trod_int Try.underlying3 (show DataW.trod enc Try.prog W 0 (fun _ => true) true _ _ [c3] = some _ from w2)
  obtain rfl : c3 = .int .i64 i3 := by simpa using q3
  obtain ⟨i13, q13, _⟩ := DataW.trod_int Try.underlying3 (show DataW.trod enc Try.prog W 0 (fun _ => true) true _ _ [c13] = some _ from t0)
  obtain rfl : c13 = .int .i64 i13 := by simpa using q13
  obtain ⟨i14, q14, _⟩ := DataW.trod_int Try.underlying24 (show DataW.trod enc Try.prog W 0 (fun _ => true) true _ _ [c14] = some _ from t1)
  obtain rfl : c14 = .int .i64 i14 := by simpa using q14
  obtain ⟨i15, q15, _⟩ := DataW.trod_int Try.underlying3 (show DataW.trod enc Try.prog W 0 (fun _ => true) true _ _ [c15] = some _ from t2)
  obtain rfl : c15 = .int .i64 i15 := by simpa using q15
  obtain ⟨s20, q20, _⟩ := DataW.trod_string Try.underlying9 (show DataW.trod enc Try.prog W 0 (fun _ => true) true _ _ [c20] = some _ from g15)
  obtain rfl : c20 = .string s20 := by simpa using q20
  have o11 : c11.oneCell' = true := slice_one Try.underlying38 (show DataW.trod enc Try.prog W 0 (fun _ => true) true _ _ [c11] = some _ from g9)
  have o12 : c12.oneCell' = true := slice_one Try.underlying39 (show DataW.trod enc Try.prog W 0 (fun _ => true) true _ _ [c12] = some _ from g10)
  have o16 : c16.oneCell' = true := slice_one Try.underlying40 (show DataW.trod enc Try.prog W 0 (fun _ => true) true _ _ [c16] = some _ from t3)
  have o17 : c17.oneCell' = true := slice_one Try.underlying43 (show DataW.trod enc Try.prog W 0 (fun _ => true) true _ _ [c17] = some _ from g12)
  have o18 : c18.oneCell' = true := slice_one Try.underlying44 (show DataW.trod enc Try.prog W 0 (fun _ => true) true _ _ [c18] = some _ from g13)
  have o19 : c19.oneCell' = true := slice_one Try.underlying45 (show DataW.trod enc Try.prog W 0 (fun _ => true) true _ _ [c19] = some _ from g14)
  refine ⟨i0, i1, rfl, rfl, rfl, fun v hv => ?_⟩
  simp only [List.mem_cons, List.not_mem_nil, or_false] at hv
  rcases hv with rfl | rfl | rfl | rfl | rfl | rfl | rfl | rfl | rfl | rfl | rfl | rfl | rfl | rfl | rfl | rfl | rfl | rfl | rfl | rfl | rfl
  all_goals first | rfl | assumption
theorem act_of {H : Type} {enc : TypeId × Value → H} {W : World} (n : Nat) (cs : List Value) (y : DataW H × List MemPlace) (h : DataW.trod enc Try.prog W 0 (fun _ => true) true n 49 cs = some y) (hz : ∀ m ∈ y.1.weights Try.prog 49, m ≤ reachBytes) : ∃ x : WhT, True ∧ ∀ b o, (∀ j x', cs[j]? = some x' → W.cell? ⟨b, o + j, none⟩ = some x') → ∃ cs, x.At cs ∧ W.rangeAt b o cs := by
  obtain ⟨xs, m, _, hx, hl, hxl, hf⟩ := DataW.trod_struct Try.underlying49 h
  rw [Try.cellsAct] at hl
  obtain ⟨x0, x1, x2, x3, rfl⟩ := list4 (l := xs) hxl
  obtain ⟨c0, r0, rfl⟩ : ∃ c r, cs = c :: r := by cases cs with | nil => simp at hl | cons c r => exact ⟨c, r, rfl⟩
  obtain ⟨c1, r1, rfl⟩ : ∃ c r, r0 = c :: r := by cases r0 with | nil => simp at hl | cons c r => exact ⟨c, r, rfl⟩
  obtain ⟨c2, ns, rfl⟩ : ∃ c r, r1 = c :: r := by cases r1 with | nil => simp at hl | cons c r => exact ⟨c, r, rfl⟩
  have hn : ns.length = 21 := by simpa using hl
  have g0 : DataW.trod enc Try.prog W 0 (fun _ => true) true m 3 (((c0 :: c1 :: c2 :: ns).drop 0).take (Try.prog.cellsOf 3)) = [x0, x1, x2, x3][0]? := hf 0 _ rfl
  have g1 : DataW.trod enc Try.prog W 0 (fun _ => true) true m 3 (((c0 :: c1 :: c2 :: ns).drop 1).take (Try.prog.cellsOf 3)) = [x0, x1, x2, x3][1]? := hf 1 _ rfl
  have g2 : DataW.trod enc Try.prog W 0 (fun _ => true) true m 3 (((c0 :: c1 :: c2 :: ns).drop 2).take (Try.prog.cellsOf 3)) = [x0, x1, x2, x3][2]? := hf 2 _ rfl
  have g3 : DataW.trod enc Try.prog W 0 (fun _ => true) true m 47 (((c0 :: c1 :: c2 :: ns).drop 3).take (Try.prog.cellsOf 47)) = [x0, x1, x2, x3][3]? := hf 3 _ rfl
  rw [Try.cellsInt] at g0 g1 g2
  rw [Try.cellsNote] at g3
  have g3' : DataW.trod enc Try.prog W 0 (fun _ => true) true m 47 ns = some x3 := by
    have e : ((c0 :: c1 :: c2 :: ns).drop 3).take 21 = ns := by show ns.take 21 = ns; exact List.take_of_length_le (by omega)
    rw [e] at g3
    exact g3
  obtain ⟨i0, q0, _⟩ := DataW.trod_int Try.underlying3 (show DataW.trod enc Try.prog W 0 (fun _ => true) true _ _ [c0] = some _ from g0)
  obtain ⟨i1, q1, _⟩ := DataW.trod_int Try.underlying3 (show DataW.trod enc Try.prog W 0 (fun _ => true) true _ _ [c1] = some _ from g1)
  obtain ⟨i2, q2, _⟩ := DataW.trod_int Try.underlying3 (show DataW.trod enc Try.prog W 0 (fun _ => true) true _ _ [c2] = some _ from g2)
  obtain rfl : c0 = .int .i64 i0 := by simpa using q0
  obtain rfl : c1 = .int .i64 i1 := by simpa using q1
  obtain rfl : c2 = .int .i64 i2 := by simpa using q2
  obtain ⟨k, v, hno⟩ := note_of m ns x3 g3'
  exact ⟨⟨i0, i1, i2, ns, k, v⟩, trivial, fun b o hc => ⟨_, ⟨rfl, hno⟩, fun j u hu => hc j u hu⟩⟩
theorem acts_of {H : Type} {enc : TypeId × Value → H} {W : World} {v : Value} {d : DataW H} {p : List MemPlace} (h : DataW.Trod enc Try.prog W 0 (fun _ => true) true 34 v d p) (hv : v.cells.toList = [v]) (hz : ∀ m ∈ d.weights Try.prog 34, m ≤ reachBytes) :
    ∃ l : List WhT, ActsAt W (fun b => b < W.heap.size) v l ∧ l.length ≤ maxLen := by
  obtain ⟨fuel, hf⟩ := h
  rw [hv] at hf
  obtain ⟨l, h1, _, h3, h4⟩ := row_of Try.underlying34 Try.cellsAct Try.bytesAct (by decide) (fun b o x => ∃ cs, WhT.At x cs ∧ W.rangeAt b o cs) (fun _ => True) act_of hf hz
  exact ⟨l, h1, h4⟩
end Go.Proofs.Ytlbhnlpdijhmlaa
