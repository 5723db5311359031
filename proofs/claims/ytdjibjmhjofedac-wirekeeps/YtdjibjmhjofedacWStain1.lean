/-
  stained: what its loops hold, by memory alone.
-/
import Derived.Test.YtdjibjmhjofedacWKeep1
namespace Go.Proofs.Ytdjibjmhjofedac
open Go.RowKit
set_option linter.unusedVariables false

/-- A list that was told: where it lies, how long it is, what is kept of it, and that copy's bytes. -/
abbrev En := Value × Nat × Value × List Int

/-- The book: three cells for each. -/
structure Bk (w : World) (g : Nat) (es : List En) (gv : Nat → Value) : Prop where
  blk : ∃ cur, w.heap[g]? = some (.cells cur 45 (0, 0)) ∧ ∀ (j : Nat) (e : En), es[j]? = some e → cur[j * 3]? = some e.1 ∧ cur[j * 3 + 1]? = some e.2.2.1 ∧ cur[j * 3 + 2]? = some (gv j)

theorem Bk.at {w : World} {g : Nat} {es : List En} {gv : Nat → Value} (h : Bk w g es gv) {j : Nat} {e : En} (he : es[j]? = some e) : w.cell? ⟨g, j * 3, none⟩ = some e.1 ∧ w.cell? ⟨g, j * 3 + 1, none⟩ = some e.2.2.1 ∧ w.cell? ⟨g, j * 3 + 2, none⟩ = some (gv j) := by
  obtain ⟨cur, hg, hc⟩ := h.blk
  rw [cell_blk hg, cell_blk hg, cell_blk hg]
  exact hc j e he
theorem Bk.free {w : World} {g : Nat} {es : List En} {gv : Nat → Value} (h : Bk w g es gv) (o : Nat) : w.frozen? ⟨g, o, none⟩ = false := by
  obtain ⟨cur, hg, _⟩ := h.blk
  exact frozen_blk hg o
theorem Bk.lt {w : World} {g : Nat} {es : List En} {gv : Nat → Value} (h : Bk w g es gv) : g < w.heap.size := by
  obtain ⟨cur, hg, _⟩ := h.blk
  exact lt_of_blk hg
theorem Bk.fr {S : Nat → Prop} {w w' : World} {g : Nat} {es : List En} {gv : Nat → Value} (h : Bk w g es gv) (hf : Fr S w w') (hS : ¬ S g) : Bk w' g es gv := by
  obtain ⟨cur, hg, hc⟩ := h.blk
  exact ⟨cur, (hf.block g (lt_of_blk hg) hS).trans hg, hc⟩
theorem Bk.put {w : World} {g : Nat} {es : List En} {gv : Nat → Value} (h : Bk w g es gv) {i : Nat} {e : En} (he : es[i]? = some e) (v : Value) : Bk (w.setCell ⟨g, i * 3 + 2, none⟩ v) g es (fun j => if j = i then v else gv j) := by
  obtain ⟨cur, hg, hc⟩ := h.blk
  refine ⟨cur.setIfInBounds (i * 3 + 2) v, set_blk hg _ _, fun j e' he' => ?_⟩
  obtain ⟨h1, h2, h3⟩ := hc j e' he'
  have hi := (hc i e he).2.2
  have hlt : i * 3 + 2 < cur.size := (Array.getElem?_eq_some_iff.1 hi).1
  rw [Array.getElem?_setIfInBounds_ne (by omega), Array.getElem?_setIfInBounds_ne (by omega)]
  refine ⟨h1, h2, ?_⟩
  by_cases hj : j = i
  · subst hj
    rw [if_pos rfl, Array.getElem?_setIfInBounds_self_of_lt hlt]
  · rw [if_neg hj, Array.getElem?_setIfInBounds_ne (by omega)]
    exact h3

/-- The blocks of the lists. -/
def LB (es : List En) : Nat → Prop := fun b => ∃ e ∈ es, e.1.ownBlock = some b

/-- The lists lie apart. -/
def Ap (es : List En) : Prop := ∀ (i j : Nat) (d e : En), es[i]? = some d → es[j]? = some e → i ≠ j → ∀ b, d.1.ownBlock = some b → e.1.ownBlock ≠ some b

/-- The marks of a list. -/
def stains (n m : Nat) : List Int := (List.range m).map (stainV n)
theorem stains_len (n m : Nat) : (stains n m).length = m := by simp [stains]
theorem stains_get {n m p : Nat} (h : p < m) : (stains n m)[p]? = some (stainV n p) := by simp [stains, h]
theorem stains_succ (n m : Nat) : stains n m ++ [stainV n m] = stains n (m + 1) := by simp [stains, List.range_succ]

/-- The lists below i are full of marks, the others as long as they were. -/
def Wrt (N : Nat → Nat) (es : List En) (i : Nat) (W : World) : Prop := ∀ (j : Nat) (e : En), es[j]? = some e → ∃ zs : List Int, zs.length = e.2.1 ∧ W.ownsRow 0 5 1 e.1 e.2.1 (bv zs) ∧ (j < i → zs = stains (N j) e.2.1)
/-- List i is written up to k. -/
structure Wrk (N : Nat → Nat) (es : List En) (i k : Nat) (e : En) (W : World) : Prop where
  rest : ∀ (j : Nat) (d : En), es[j]? = some d → j ≠ i → ∃ zs : List Int, zs.length = d.2.1 ∧ W.ownsRow 0 5 1 d.1 d.2.1 (bv zs) ∧ (j < i → zs = stains (N j) d.2.1)
  mine : ∃ zs : List Int, zs.length = e.2.1 ∧ W.ownsRow 0 5 1 e.1 e.2.1 (bv zs) ∧ zs.take k = stains (N i) k

theorem Wrt.begin {N : Nat → Nat} {es : List En} {i : Nat} {e : En} {W : World} (h : Wrt N es i W) (he : es[i]? = some e) : Wrk N es i 0 e W := by
  obtain ⟨zs, h1, h2, _⟩ := h i e he
  exact ⟨fun j d hd _ => h j d hd, zs, h1, h2, rfl⟩
theorem Wrk.ended {N : Nat → Nat} {es : List En} {i : Nat} {e : En} {W : World} (h : Wrk N es i e.2.1 e W) (he : es[i]? = some e) : Wrt N es (i + 1) W := by
  intro j d hd
  by_cases hj : j = i
  · subst hj
    rw [he] at hd
    cases hd
    obtain ⟨zs, h1, h2, h3⟩ := h.mine
    refine ⟨zs, h1, h2, fun _ => ?_⟩
    rw [← h3, List.take_of_length_le (by omega)]
  · obtain ⟨zs, h1, h2, h3⟩ := h.rest j d hd hj
    exact ⟨zs, h1, h2, fun h => h3 (by omega)⟩
theorem Wrk.step {N : Nat → Nat} {es : List En} {i k g cap : Nat} {e : En} {W : World} (h : Wrk N es i k e W) (ha : Ap es) (he : es[i]? = some e) (hv : e.1 = .slice (some ⟨g, 0, none⟩) e.2.1 cap) (hk : k < e.2.1) :
    Wrk N es i (k + 1) e (W.setCell ⟨g, k, none⟩ (.int .u8 (stainV (N i) k))) := by
  have hf := Fr.of_setCell W ⟨g, k, none⟩ (.int .u8 (stainV (N i) k))
  refine ⟨fun j d hd hj => ?_, ?_⟩
  · obtain ⟨zs, h1, h2, h3⟩ := h.rest j d hd hj
    refine ⟨zs, h1, owns_fr h2 hf (fun b hb eb => ?_), h3⟩
    exact ha i j e d he hd (Ne.symm hj) b (by rw [hv, show b = g from eb]; rfl) hb
  · obtain ⟨zs, h1, h2, h3⟩ := h.mine
    rcases h2.2 with ⟨h0, _⟩ | ⟨g', cap', cur, h0, _, hg, hn, hc, hs, ht⟩
    · rw [hv] at h0; cases h0
    · rw [hv] at h0
      cases h0
      refine ⟨zs.set k (stainV (N i) k), by rw [List.length_set]; exact h1, ⟨by rw [bv_len, List.length_set]; omega, .inr ⟨g, cap, cur.setIfInBounds k (.int .u8 (stainV (N i) k)), hv, Nat.zero_le _, set_blk hg k _, hn, hc, by rw [Array.size_setIfInBounds]; exact hs, ?_⟩⟩, ?_⟩
      · rw [Nat.mul_one] at ht ⊢
        rw [Array.toList_setIfInBounds, List.take_set, ht]
        unfold bv
        rw [List.map_set]
      · rw [List.take_add_one, List.getElem?_set_self (by omega), List.take_set_of_le (Nat.le_refl _), h3, ← stains_succ]
        rfl
theorem Wrk.fr {S : Nat → Prop} {N : Nat → Nat} {es : List En} {i k : Nat} {e : En} {W W' : World} (h : Wrk N es i k e W) (hf : Fr S W W') (hS : ∀ b, LB es b → ¬ S b) (he : es[i]? = some e) : Wrk N es i k e W' := by
  refine ⟨fun j d hd hj => ?_, ?_⟩
  · obtain ⟨zs, h1, h2, h3⟩ := h.rest j d hd hj
    exact ⟨zs, h1, owns_fr h2 hf (fun b hb => hS b ⟨d, List.mem_of_getElem? hd, hb⟩), h3⟩
  · obtain ⟨zs, h1, h2, h3⟩ := h.mine
    exact ⟨zs, h1, owns_fr h2 hf (fun b hb => hS b ⟨e, List.mem_of_getElem? he, hb⟩), h3⟩
end Go.Proofs.Ytdjibjmhjofedac
