/-
  ring: what lies in memory.
-/
import Derived.Test.YtnmengoefpdaiaaRows
import Derived.Below
import Derived.Laws.AppendOwnNone
import Derived.Maps.AppendAt
import Derived.Deep.QuietTactic
import Derived.Deep.AppendLies
import Derived.Deep.RegionHeld3
import Derived.Deep.Cut
import Derived.Deep.DeepFit
import Derived.Deep.MidRow
import Derived.Deep.RegionLaw
import Derived.Deep.DrawnRows
import Derived.BigQuiet
import Derived.WalkKit
import Derived.WalkMore
import Derived.OneCell
import Derived.Laws.Rows
import Derived.Laws.CopyRow
namespace Go.Proofs.Ytnmengoefpdaiaa
open Go.RowKit

theorem trans2 {w w1 w2 : World} (h1 : Below w.heap.size w w1) (h2 : Below w1.heap.size w1 w2) : Below w.heap.size w w2 := h1.trans (h2.mono h1.size)
theorem lt_of_blk {w : World} {b : Nat} {o : Obj} (h : w.heap[b]? = some o) : b < w.heap.size := (Array.getElem?_eq_some_iff.1 h).1
theorem addr_add (b o j : Nat) : (⟨b, o, none⟩ : Addr).add j = ⟨b, o + j, none⟩ := by unfold Addr.add; split <;> simp_all
theorem below_drew {B : Nat} {w W : World} (h : Below B w W) : Below B w W.drew := ⟨h.os, h.tape, h.output, h.size, h.block⟩
theorem of_drew {W w1 : World} (h : Below W.drew.heap.size W.drew w1) : Below W.heap.size W w1 := ⟨h.os, h.tape, h.output, h.size, h.block⟩
theorem below_drewN {B : Nat} {a w : World} (h : Below B a w) (n : Nat) : Below B a (w.drewN n) := ⟨h.os, h.tape, h.output, h.size, h.block⟩
theorem cell_n {w : World} {B e s n g cap k : Nat} {xs : List Value} {x : Value} (h : w.ownsRow B e s (.slice (some ⟨g, 0, none⟩) n cap) n xs) (hx : xs[k]? = some x) : w.cell? ⟨g, k, none⟩ = some x := by
  have hk : k < xs.length := (List.getElem?_eq_some_iff.1 hx).1
  rcases h.2 with ⟨h0, _⟩ | ⟨g', cap', cur, hv, _, hg, _, _, hsz, ht⟩
  · cases h0
  · cases hv
    have hkc : k < n * s := by have := h.1; omega
    have : cur[k]? = some x := by
      rw [← hx, ← ht, List.getElem?_take_of_lt hkc, Array.getElem?_toList]
    unfold World.cell?
    simp only [hg]
    exact this

theorem other_blk {w : World} {g b i : Nat} {v : Value} {o : Obj} (h : w.heap[b]? = some o) (hne : b ≠ g) : (w.setCell ⟨g, i, none⟩ v).heap[b]? = some o := by
  rw [Below.heap_setCell w ⟨g, i, none⟩ v b hne]; exact h
theorem same_blk {w : World} {g i : Nat} {cs cs' : Array Value} {t : TypeId} {v : Value} (h : w.heap[g]? = some (.cells cs t (0, 0))) (he : cs.setIfInBounds i v = cs') : (w.setCell ⟨g, i, none⟩ v).heap[g]? = some (.cells cs' t (0, 0)) := by
  rw [← he]; exact heap_setCell_same w g i cs t v h
abbrev put_1 (w : World) (g : Nat) (x0 : Value) : World := (w.setCell ⟨g, 0, none⟩ x0)
theorem fill_1 {w : World} {g : Nat} {t : TypeId} {x0 y0 : Value} (h : w.heap[g]? = some (.cells #[y0] t (0, 0))) : (put_1 w g x0).heap[g]? = some (.cells #[x0] t (0, 0)) := by
  have h0 := same_blk (i := 0) (v := x0) (cs' := #[x0]) h rfl
  exact h0
theorem fillB_1 {B : Nat} {w0 w : World} {g : Nat} {x0 : Value} (h : Below B w0 w) (hg : B ≤ g) : Below B w0 (put_1 w g x0) := (h.setCell hg _)
theorem fillO_1 {w : World} {g b : Nat} {o : Obj} {x0 : Value} (h : w.heap[b]? = some o) (hne : b ≠ g) : (put_1 w g x0).heap[b]? = some o := (other_blk h hne)
abbrev put_3 (w : World) (g : Nat) (x0 x1 x2 : Value) : World := (((w.setCell ⟨g, 0, none⟩ x0).setCell ⟨g, 1, none⟩ x1).setCell ⟨g, 2, none⟩ x2)
theorem fill_3 {w : World} {g : Nat} {t : TypeId} {x0 x1 x2 y0 y1 y2 : Value} (h : w.heap[g]? = some (.cells #[y0, y1, y2] t (0, 0))) : (put_3 w g x0 x1 x2).heap[g]? = some (.cells #[x0, x1, x2] t (0, 0)) := by
  have h0 := same_blk (i := 0) (v := x0) (cs' := #[x0, y1, y2]) h rfl
  have h1 := same_blk (i := 1) (v := x1) (cs' := #[x0, x1, y2]) h0 rfl
  have h2 := same_blk (i := 2) (v := x2) (cs' := #[x0, x1, x2]) h1 rfl
  exact h2
theorem fillB_3 {B : Nat} {w0 w : World} {g : Nat} {x0 x1 x2 : Value} (h : Below B w0 w) (hg : B ≤ g) : Below B w0 (put_3 w g x0 x1 x2) := (((h.setCell hg _).setCell hg _).setCell hg _)
theorem fillO_3 {w : World} {g b : Nat} {o : Obj} {x0 x1 x2 : Value} (h : w.heap[b]? = some o) (hne : b ≠ g) : (put_3 w g x0 x1 x2).heap[b]? = some o := (other_blk (other_blk (other_blk h hne) hne) hne)
abbrev put_4 (w : World) (g : Nat) (x0 x1 x2 x3 : Value) : World := ((((w.setCell ⟨g, 0, none⟩ x0).setCell ⟨g, 1, none⟩ x1).setCell ⟨g, 2, none⟩ x2).setCell ⟨g, 3, none⟩ x3)
theorem fill_4 {w : World} {g : Nat} {t : TypeId} {x0 x1 x2 x3 y0 y1 y2 y3 : Value} (h : w.heap[g]? = some (.cells #[y0, y1, y2, y3] t (0, 0))) : (put_4 w g x0 x1 x2 x3).heap[g]? = some (.cells #[x0, x1, x2, x3] t (0, 0)) := by
  have h0 := same_blk (i := 0) (v := x0) (cs' := #[x0, y1, y2, y3]) h rfl
  have h1 := same_blk (i := 1) (v := x1) (cs' := #[x0, x1, y2, y3]) h0 rfl
  have h2 := same_blk (i := 2) (v := x2) (cs' := #[x0, x1, x2, y3]) h1 rfl
  have h3 := same_blk (i := 3) (v := x3) (cs' := #[x0, x1, x2, x3]) h2 rfl
  exact h3
theorem fillB_4 {B : Nat} {w0 w : World} {g : Nat} {x0 x1 x2 x3 : Value} (h : Below B w0 w) (hg : B ≤ g) : Below B w0 (put_4 w g x0 x1 x2 x3) := ((((h.setCell hg _).setCell hg _).setCell hg _).setCell hg _)
theorem fillO_4 {w : World} {g b : Nat} {o : Obj} {x0 x1 x2 x3 : Value} (h : w.heap[b]? = some o) (hne : b ≠ g) : (put_4 w g x0 x1 x2 x3).heap[b]? = some o := (other_blk (other_blk (other_blk (other_blk h hne) hne) hne) hne)
theorem cellO_1 {w : World} {g b i j : Nat} {v x : Value} (h : w.cell? ⟨b, i, none⟩ = some v) (hne : b ≠ g) : (w.setCell ⟨g, j, none⟩ x).cell? ⟨b, i, none⟩ = some v := by
  rw [World.cell?_of_block (w := w) (Below.heap_setCell w ⟨g, j, none⟩ x b hne)]; exact h
theorem cellO_4 {w : World} {g b i : Nat} {v x0 x1 x2 x3 : Value} (h : w.cell? ⟨b, i, none⟩ = some v) (hne : b ≠ g) : (put_4 w g x0 x1 x2 x3).cell? ⟨b, i, none⟩ = some v := (cellO_1 (cellO_1 (cellO_1 (cellO_1 h hne) hne) hne) hne)
theorem new_old {w : World} {b : Nat} {o : Obj} (h : w.heap[b]? = some o) (o' : Obj) : (w.alloc o').heap[b]? = some o := by
  rw [Below.heap_alloc w o' b (Array.getElem?_eq_some_iff.1 h).1]; exact h
theorem cells_1 {W : World} {b : Nat} {t : TypeId} {x0 : Value} (h : W.heap[b]? = some (.cells #[x0] t (0, 0))) : W.cell? ⟨b, 0, none⟩ = some x0 := by
  simp [World.cell?, h]
theorem free_1 {W : World} {b : Nat} {t : TypeId} {x0 : Value} (h : W.heap[b]? = some (.cells #[x0] t (0, 0))) (o : Nat) : W.frozen? ⟨b, o, none⟩ = false := by
  simp [World.frozen?, h]
theorem cells_4 {W : World} {b : Nat} {t : TypeId} {x0 x1 x2 x3 : Value} (h : W.heap[b]? = some (.cells #[x0, x1, x2, x3] t (0, 0))) : W.cell? ⟨b, 0, none⟩ = some x0 ∧ W.cell? ⟨b, 1, none⟩ = some x1 ∧ W.cell? ⟨b, 2, none⟩ = some x2 ∧ W.cell? ⟨b, 3, none⟩ = some x3 := by
  simp [World.cell?, h]
theorem free_4 {W : World} {b : Nat} {t : TypeId} {x0 x1 x2 x3 : Value} (h : W.heap[b]? = some (.cells #[x0, x1, x2, x3] t (0, 0))) (o : Nat) : W.frozen? ⟨b, o, none⟩ = false := by
  simp [World.frozen?, h]
theorem owns_same {w w' : World} {B e s n : Nat} {v : Value} {xs : List Value} (h : w.ownsRow B e s v n xs) (hk : ∀ k, v.ownBlock = some k → w'.heap[k]? = w.heap[k]?) : w'.ownsRow B e s v n xs := by
  refine ⟨h.1, ?_⟩
  rcases h.2 with h2 | ⟨g, cap, cur, hv, hB, hg, r⟩
  · exact .inl h2
  · exact .inr ⟨g, cap, cur, hv, hB, by rw [hk g (by rw [hv]; rfl)]; exact hg, r⟩
theorem owns_kind {w : World} {B e s n k : Nat} {v : Value} {xs : List Value} (h : w.ownsRow B e s v n xs) (hk : v.ownBlock = some k) : ∃ cur, w.heap[k]? = some (.cells cur e (0, 0)) := by
  rcases h.2 with ⟨rfl, _⟩ | ⟨g, cap, cur, rfl, _, hg, _⟩
  · cases hk
  · simp only [Value.ownBlock, Option.some.injEq] at hk
    subst hk
    exact ⟨cur, hg⟩
theorem cellN {w : World} {g b i j : Nat} {x : Value} (hne : b ≠ g) : (w.setCell ⟨g, j, none⟩ x).cell? ⟨b, i, none⟩ = w.cell? ⟨b, i, none⟩ := by
  rw [World.cell?_of_block (w := w) (Below.heap_setCell w ⟨g, j, none⟩ x b hne)]
theorem owns_below {w w' : World} {B e s n : Nat} {v : Value} {xs : List Value} (h : w.ownsRow B e s v n xs) (hb : Below w.heap.size w w') : w'.ownsRow B e s v n xs := owns_same h (fun k hk => hb.block k (h.lt k hk).2)
theorem cells_3 {W : World} {b : Nat} {t : TypeId} {x0 x1 x2 : Value} (h : W.heap[b]? = some (.cells #[x0, x1, x2] t (0, 0))) : W.cell? ⟨b, 0, none⟩ = some x0 ∧ W.cell? ⟨b, 1, none⟩ = some x1 ∧ W.cell? ⟨b, 2, none⟩ = some x2 := by
  simp [World.cell?, h]
theorem kept_block {W w1 : World} {b : Nat} {o : Obj} (hb : Below W.heap.size W w1) (h : W.heap[b]? = some o) : w1.heap[b]? = some o := by
  rw [hb.block b (Array.getElem?_eq_some_iff.1 h).1]; exact h
theorem heap_new' {w : World} {o : Obj} {k : Nat} (h : w.heap.size = k) : (w.alloc o).heap[k]? = some o := by subst h; exact heap_alloc_new w o


theorem take_at {α : Type} {l : List α} {q : Nat} {o : α} (h : l[q]? = some o) : l.take (q + 1) = l.take q ++ [o] := by rw [List.take_add_one, h]; rfl

/-- w' is w but for the blocks of S and new ones. -/
structure Chg (w w' : World) (S : Nat → Prop) : Prop where
  os : w'.os = w.os
  tape : w'.tape = w.tape
  output : w'.output = w.output
  size : w.heap.size ≤ w'.heap.size
  block : ∀ k, k < w.heap.size → ¬ S k → w'.heap[k]? = w.heap[k]?

theorem Chg.trans {w w1 w2 : World} {S : Nat → Prop} (h : Chg w w1 S) (k : Chg w1 w2 S) : Chg w w2 S :=
  ⟨k.os.trans h.os, k.tape.trans h.tape, k.output.trans h.output, Nat.le_trans h.size k.size, fun i hi hs => (k.block i (Nat.lt_of_lt_of_le hi h.size) hs).trans (h.block i hi hs)⟩
theorem Chg.mono {w w' : World} {S S' : Nat → Prop} (h : Chg w w' S) (hs : ∀ k, k < w.heap.size → S k → S' k) : Chg w w' S' :=
  ⟨h.os, h.tape, h.output, h.size, fun k hk hn => h.block k hk (fun h' => hn (hs k hk h'))⟩
theorem Chg.refl (w : World) (S : Nat → Prop) : Chg w w S := ⟨rfl, rfl, rfl, Nat.le_refl _, fun _ _ _ => rfl⟩
theorem Chg.grown {w w' : World} {row : Option Nat} (h : w.grownBy w' row) : Chg w w' (fun k => row = some k) :=
  ⟨h.os, h.tape, h.output, h.size, fun k hk hn => h.block k hk (fun e => hn e.symm)⟩
theorem Chg.alloc (w : World) (o : Obj) (S : Nat → Prop) : Chg w (w.alloc o) S := (Chg.grown (World.grownBy_alloc w o none)).mono (fun _ _ h => by cases h)
theorem Chg.set (w : World) (a : Addr) (v : Value) : Chg w (w.setCell a v) (fun k => k = a.block) :=
  ⟨rfl, rfl, rfl, by simp, fun k _ hn => Below.heap_setCell w a v k hn⟩
theorem Chg.of_below {w w' : World} (h : Below w.heap.size w w') (S : Nat → Prop) : Chg w w' S := ⟨h.os, h.tape, h.output, h.size, fun k hk _ => h.block k hk⟩
theorem Chg.below {w w' : World} {S : Nat → Prop} {B : Nat} (h : Chg w w' S) (hB : B ≤ w.heap.size) (hs : ∀ k, k < w.heap.size → S k → B ≤ k) : Below B w w' :=
  ⟨h.os, h.tape, h.output, h.size, fun k hk => h.block k (Nat.lt_of_lt_of_le hk hB) (fun h' => by have := hs k (Nat.lt_of_lt_of_le hk hB) h'; omega)⟩


theorem owns_set {w : World} {B e s n g cap k : Nat} {xs : List Value} (h : w.ownsRow B e s (.slice (some ⟨g, 0, none⟩) n cap) n xs) (x : Value) : (w.setCell ⟨g, k, none⟩ x).ownsRow B e s (.slice (some ⟨g, 0, none⟩) n cap) n (xs.set k x) := by
  refine ⟨by rw [List.length_set]; exact h.1, ?_⟩
  rcases h.2 with ⟨h0, _⟩ | ⟨g', cap', cur, hv, hB, hg, hn, hc, hsz, ht⟩
  · cases h0
  · cases hv
    refine .inr ⟨g, cap, cur.setIfInBounds k x, rfl, hB, heap_setCell_same w g k cur e x hg, hn, hc, by simpa using hsz, ?_⟩
    rw [← ht, Array.toList_setIfInBounds, List.take_set]
theorem blk_of {w : World} {B e s n g cap : Nat} {xs : List Value} (h : w.ownsRow B e s (.slice (some ⟨g, 0, none⟩) n cap) n xs) (k : Nat) : w.frozen? ⟨g, k, none⟩ = false := by
  rcases h.2 with ⟨h0, _⟩ | ⟨g', cap', cur, hv, hB, hg, hn, hc, hsz, ht⟩
  · cases h0
  · cases hv
    simp [World.frozen?, hg]

/-- An op. -/
structure OpT where
  k : Int
  p : ByteArray
  d : ByteArray
  v : Int
  f : Int
abbrev OpT.cells (o : OpT) : List Value := [.int .i64 o.k, .string o.p, .string o.d, .int .i64 o.v, .int .i64 o.f]
abbrev OpT.val (o : OpT) : Value := .agg #[.int .i64 o.k, .string o.p, .string o.d, .int .i64 o.v, .int .i64 o.f]

/-- Rows of structs of s cells. -/
def rowCs {α : Type} (f : α → List Value) (l : List α) : List Value := (l.map f).flatten
theorem rowCs_append {α : Type} (f : α → List Value) (l m : List α) : rowCs f (l ++ m) = rowCs f l ++ rowCs f m := by simp [rowCs]
theorem rowCs_len {α : Type} {f : α → List Value} {s : Nat} (hf : ∀ a, (f a).length = s) (l : List α) : (rowCs f l).length = l.length * s := by
  induction l with
  | nil => simp [rowCs]
  | cons a l ih =>
    have : rowCs f (a :: l) = f a ++ rowCs f l := rfl
    rw [this, List.length_append, hf, ih, List.length_cons, Nat.succ_mul, Nat.add_comm]
theorem rowCs_at {α : Type} {f : α → List Value} {s : Nat} (hf : ∀ a, (f a).length = s) (l : List α) (q j : Nat) (o : α) (x : Value) (h : l[q]? = some o) (hx : (f o)[j]? = some x) (rest : List Value) : (rowCs f l ++ rest)[q * s + j]? = some x := by
  induction l generalizing q with
  | nil => cases h
  | cons a l ih =>
    have hj : j < s := by rw [← hf o]; exact (List.getElem?_eq_some_iff.1 hx).1
    cases q with
    | zero =>
      cases h
      show (f o ++ rowCs f l ++ rest)[0 * s + j]? = some x
      rw [Nat.zero_mul, Nat.zero_add, List.append_assoc, List.getElem?_append_left (by rw [hf]; exact hj)]
      exact hx
    | succ q =>
      show (f a ++ rowCs f l ++ rest)[(q + 1) * s + j]? = some x
      rw [List.append_assoc, List.getElem?_append_right (by rw [hf, Nat.succ_mul]; omega), hf]
      rw [show (q + 1) * s + j - s = q * s + j by rw [Nat.succ_mul]; omega]
      exact ih q h
theorem rowCs_one {α : Type} {f : α → List Value} (hf : ∀ a, ∀ u ∈ f a, u.oneCell' = true) (l : List α) : ∀ u ∈ rowCs f l, u.oneCell' = true := by
  intro u hu
  simp only [rowCs, List.mem_flatten, List.mem_map] at hu
  obtain ⟨c, ⟨s, _, rfl⟩, hu⟩ := hu
  exact hf s u hu
theorem op_len (o : OpT) : o.cells.length = 5 := rfl
theorem op_one (o : OpT) : ∀ u ∈ o.cells, u.oneCell' = true := by
  intro u hu
  simp only [OpT.cells, List.mem_cons, List.not_mem_nil, or_false] at hu
  rcases hu with rfl | rfl | rfl | rfl | rfl <;> rfl
def opCs (l : List OpT) : List Value := rowCs OpT.cells l

/-- Things of s cells that lie in memory, wherever. -/
def Ls {α : Type} (f : α → List Value) (s : Nat) (w : World) (a : Option Addr) (l : List α) : Prop :=
  l = [] ∨ ∃ b o, a = some ⟨b, o, none⟩ ∧ b < w.heap.size ∧ ∀ i t, l[i]? = some t → ∀ j x, (f t)[j]? = some x → w.cell? ⟨b, o + i * s + j, none⟩ = some x
theorem Ls.chg {α : Type} {f : α → List Value} {s : Nat} {w w' : World} {a : Option Addr} {l : List α} (h : Ls f s w a l) (hs : w.heap.size ≤ w'.heap.size) (hb : ∀ b o, a = some ⟨b, o, none⟩ → b < w.heap.size → w'.heap[b]? = w.heap[b]?) : Ls f s w' a l := by
  rcases h with h | ⟨b, o, ha, hlt, hc⟩
  · exact .inl h
  · refine .inr ⟨b, o, ha, Nat.lt_of_lt_of_le hlt hs, fun i t hi j x hx => ?_⟩
    rw [World.cell?_of_block (w := w) (hb b o ha hlt)]
    exact hc i t hi j x hx
theorem Ls.below {α : Type} {f : α → List Value} {s : Nat} {w w' : World} {a : Option Addr} {l : List α} (h : Ls f s w a l) (hb : Below w.heap.size w w') : Ls f s w' a l :=
  h.chg hb.size (fun b _ _ hlt => hb.block b hlt)
theorem ls_of_owns {α : Type} {f : α → List Value} {s : Nat} (hf : ∀ a, (f a).length = s) {w : World} {base e n cap : Nat} {g : Nat} {l : List α} {rest : List Value} (h : w.ownsRow base e s (.slice (some ⟨g, 0, none⟩) n cap) n (rowCs f l ++ rest)) : Ls f s w (some ⟨g, 0, none⟩) l := by
  refine .inr ⟨g, 0, rfl, (h.lt g rfl).2, fun i t hi j x hx => ?_⟩
  rw [Nat.zero_add]
  exact cell_n h (rowCs_at hf l i j t x hi hx rest)
theorem ls_news {α : Type} {f : α → List Value} {s : Nat} (hf : ∀ a, (f a).length = s) (hs : 0 < s) {w : World} {ad : Addr} {l : List α} (h : Ls f s w (some ad) l) : ∀ j u, (rowCs f l)[j]? = some u → w.cell? (ad.add j) = some u := by
  intro j u hj
  rcases h with rfl | ⟨b, o, ha, _, hc⟩
  · simp [rowCs] at hj
  · have hab : ad = ⟨b, o, none⟩ := Option.some.inj ha
    subst hab
    have hjl : j < l.length * s := by rw [← rowCs_len hf]; exact (List.getElem?_eq_some_iff.1 hj).1
    have hq : j / s < l.length := Nat.div_lt_of_lt_mul (by rw [Nat.mul_comm]; exact hjl)
    obtain ⟨t, ht⟩ : ∃ t, l[j / s]? = some t := ⟨l[j / s], List.getElem?_eq_getElem hq⟩
    have hm : j % s < (f t).length := by rw [hf]; exact Nat.mod_lt _ hs
    obtain ⟨x, hx⟩ : ∃ x, (f t)[j % s]? = some x := ⟨(f t)[j % s], List.getElem?_eq_getElem hm⟩
    have hd : j / s * s + j % s = j := Nat.div_add_mod' j s
    have h1 := rowCs_at hf l (j / s) (j % s) t x ht hx []
    rw [List.append_nil, hd, hj] at h1
    have h2 := hc (j / s) t ht (j % s) x hx
    rw [addr_add, h1, ← h2, Nat.add_assoc, hd]
/-- Ops that lie in memory, wherever. -/
abbrev Os (w : World) (a : Option Addr) (l : List OpT) : Prop := Ls OpT.cells 5 w a l
theorem Os.at {w : World} {a : Option Addr} {l : List OpT} (h : Os w a l) {i : Nat} {s : OpT} (hi : l[i]? = some s) : ∃ b o, a = some ⟨b, o, none⟩ ∧ b < w.heap.size ∧ w.cell? ⟨b, o + i * 5, none⟩ = some (.int .i64 s.k) ∧ w.cell? ⟨b, o + i * 5 + 1, none⟩ = some (.string s.p) ∧ w.cell? ⟨b, o + i * 5 + 2, none⟩ = some (.string s.d) ∧ w.cell? ⟨b, o + i * 5 + 3, none⟩ = some (.int .i64 s.v) ∧ w.cell? ⟨b, o + i * 5 + 4, none⟩ = some (.int .i64 s.f) := by
  rcases h with rfl | ⟨b, o, ha, hlt, hs⟩
  · cases hi
  · exact ⟨b, o, ha, hlt, hs i s hi 0 _ rfl, hs i s hi 1 _ rfl, hs i s hi 2 _ rfl, hs i s hi 3 _ rfl, hs i s hi 4 _ rfl⟩

/-- An entry. -/
structure EnT where
  s : Int
  v : Int
  k : Int
  se : Int
  rq : Int
  ops : List OpT
abbrev EnT.val (e : EnT) (x : Value) : Value := .agg #[.int .i64 e.s, .int .i64 e.v, .int .i64 e.k, .int .i64 e.se, .int .i64 e.rq, x]
/-- Not beyond any machine. -/
structure OpT.Small (o : OpT) : Prop where
  p : o.p.size ≤ 281474976710656
  d : o.d.size ≤ 281474976710656
structure EnT.Small (e : EnT) : Prop where
  len : e.ops.length * 56 ≤ 140737488355328
  each : ∀ o ∈ e.ops, o.Small
/-- A list of ops in a block of its own. -/
abbrev OwnOps (w : World) (v : Value) (l : List OpT) : Prop := w.ownsRow 0 49 5 v l.length (opCs l)
/-- An entry, and where its ops lie. -/
structure PEnt where
  e : EnT
  x : Value
abbrev PEnt.val (p : PEnt) : Value := p.e.val p.x
abbrev PEnt.cells (p : PEnt) : List Value := [.int .i64 p.e.s, .int .i64 p.e.v, .int .i64 p.e.k, .int .i64 p.e.se, .int .i64 p.e.rq, p.x]
theorem pent_len (o : PEnt) : o.cells.length = 6 := rfl
theorem owns_form {w : World} {base e s n : Nat} {v : Value} {xs : List Value} (h : w.ownsRow base e s v n xs) : ∃ a c, v = .slice a n c ∧ (a = none → c = 0 ∧ n = 0) ∧ ∀ ad, a = some ad → ∃ g, ad = ⟨g, 0, none⟩ := by
  rcases h.2 with ⟨rfl, h0⟩ | ⟨g, cap, cur, rfl, _⟩
  · exact ⟨none, 0, by rw [h0], fun _ => ⟨rfl, h0⟩, fun ad h => by cases h⟩
  · exact ⟨some ⟨g, 0, none⟩, cap, rfl, fun h => (by cases h), fun ad h => ⟨g, (Option.some.inj h).symm⟩⟩
theorem cell_blk {w : World} {b : Nat} {cs : Array Value} {t : TypeId} {fr : Nat × Nat} (h : w.heap[b]? = some (.cells cs t fr)) (o : Nat) : w.cell? ⟨b, o, none⟩ = cs[o]? := by
  simp [World.cell?, h]
theorem free_blk {w : World} {b : Nat} {cs : Array Value} {t : TypeId} (h : w.heap[b]? = some (.cells cs t (0, 0))) (o : Nat) : w.frozen? ⟨b, o, none⟩ = false := by
  simp [World.frozen?, h]
theorem cell_set {w : World} {b i j : Nat} {cs : Array Value} {t : TypeId} {v : Value} (h : w.heap[b]? = some (.cells cs t (0, 0))) (hi : i < cs.size) : (w.setCell ⟨b, i, none⟩ v).cell? ⟨b, j, none⟩ = if i = j then some v else w.cell? ⟨b, j, none⟩ := by
  rw [cell_blk (heap_setCell_same w b i cs t v h), cell_blk h, Array.getElem?_setIfInBounds]
  by_cases e : i = j
  · subst e
    simp [hi]
  · simp [e]
theorem cells_6 {W : World} {b : Nat} {t : TypeId} {x0 x1 x2 x3 x4 x5 : Value} (h : W.heap[b]? = some (.cells #[x0, x1, x2, x3, x4, x5] t (0, 0))) : W.cell? ⟨b, 0, none⟩ = some x0 ∧ W.cell? ⟨b, 1, none⟩ = some x1 ∧ W.cell? ⟨b, 2, none⟩ = some x2 ∧ W.cell? ⟨b, 3, none⟩ = some x3 ∧ W.cell? ⟨b, 4, none⟩ = some x4 ∧ W.cell? ⟨b, 5, none⟩ = some x5 := by
  simp [World.cell?, h]
theorem owns_chg {w w' : World} {B e s n : Nat} {v : Value} {xs : List Value} {S : Nat → Prop} (h : w.ownsRow B e s v n xs) (hc : Chg w w' S) (hs : ∀ k, v.ownBlock = some k → ¬ S k) : w'.ownsRow B e s v n xs := owns_same h (fun k hk => hc.block k (h.lt k hk).2 (hs k hk))
abbrev put_6 (w : World) (g : Nat) (x0 x1 x2 x3 x4 x5 : Value) : World := ((((((w.setCell ⟨g, 0, none⟩ x0).setCell ⟨g, 1, none⟩ x1).setCell ⟨g, 2, none⟩ x2).setCell ⟨g, 3, none⟩ x3).setCell ⟨g, 4, none⟩ x4).setCell ⟨g, 5, none⟩ x5)
theorem fill_6 {w : World} {g : Nat} {t : TypeId} {x0 x1 x2 x3 x4 x5 y0 y1 y2 y3 y4 y5 : Value} (h : w.heap[g]? = some (.cells #[y0, y1, y2, y3, y4, y5] t (0, 0))) : (put_6 w g x0 x1 x2 x3 x4 x5).heap[g]? = some (.cells #[x0, x1, x2, x3, x4, x5] t (0, 0)) := by
  have h0 := same_blk (i := 0) (v := x0) (cs' := #[x0, y1, y2, y3, y4, y5]) h rfl
  have h1 := same_blk (i := 1) (v := x1) (cs' := #[x0, x1, y2, y3, y4, y5]) h0 rfl
  have h2 := same_blk (i := 2) (v := x2) (cs' := #[x0, x1, x2, y3, y4, y5]) h1 rfl
  have h3 := same_blk (i := 3) (v := x3) (cs' := #[x0, x1, x2, x3, y4, y5]) h2 rfl
  have h4 := same_blk (i := 4) (v := x4) (cs' := #[x0, x1, x2, x3, x4, y5]) h3 rfl
  have h5 := same_blk (i := 5) (v := x5) (cs' := #[x0, x1, x2, x3, x4, x5]) h4 rfl
  exact h5
theorem fillB_6 {B : Nat} {w0 w : World} {g : Nat} {x0 x1 x2 x3 x4 x5 : Value} (h : Below B w0 w) (hg : B ≤ g) : Below B w0 (put_6 w g x0 x1 x2 x3 x4 x5) := ((((((h.setCell hg _).setCell hg _).setCell hg _).setCell hg _).setCell hg _).setCell hg _)
theorem fillO_6 {w : World} {g b : Nat} {o : Obj} {x0 x1 x2 x3 x4 x5 : Value} (h : w.heap[b]? = some o) (hne : b ≠ g) : (put_6 w g x0 x1 x2 x3 x4 x5).heap[b]? = some o := (other_blk (other_blk (other_blk (other_blk (other_blk (other_blk h hne) hne) hne) hne) hne) hne)
theorem setCell_self {w : World} {b i : Nat} {cs : Array Value} {t : TypeId} {v : Value} (h : w.heap[b]? = some (.cells cs t (0, 0))) (hv : w.cell? ⟨b, i, none⟩ = some v) : w.setCell ⟨b, i, none⟩ v = w := by
  rw [cell_blk h] at hv
  rw [setCell_eq_setRow w b i cs t (0, 0) v h]
  have e : cs.setIfInBounds i v = cs := by
    obtain ⟨hi, hv⟩ := Array.getElem?_eq_some_iff.1 hv
    apply Array.ext_getElem?
    intro j
    rw [Array.getElem?_setIfInBounds]
    by_cases e : i = j
    · subst e; simp [hi, hv]
    · simp [e]
  rw [e, setRow_self w b cs t (0, 0) h]
/-- A row whose cells are all there. -/
theorem owns_of_blk {w : World} {g n s e : Nat} {xs : List Value} (h : w.heap[g]? = some (.cells xs.toArray e (0, 0))) (hn : xs.length = n * s) (hm : n ≤ maxLen) : w.ownsRow 0 e s (.slice (some ⟨g, 0, none⟩) n n) n xs :=
  ⟨hn, .inr ⟨g, n, xs.toArray, rfl, Nat.zero_le _, h, Nat.le_refl _, hm, by simpa using hn, by rw [← hn]; simp⟩⟩
end Go.Proofs.Ytnmengoefpdaiaa
