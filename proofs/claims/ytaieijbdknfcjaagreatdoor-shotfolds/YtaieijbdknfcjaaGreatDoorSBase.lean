/-
  shot: nodes in memory.
-/
import Derived.Test.YtaieijbdknfcjaaGreatDoorRows
import Derived.Test.YtaieijbdknfcjaaGreatDoorRefCovers
import Derived.Test.YtaieijbdknfcjaaGreatDoorLine
import Derived.Below
import Derived.Laws.AppendOwnNone
import Derived.Maps.AppendAt
import Derived.Deep.QuietTactic
import Derived.Deep.AppendLies
import Derived.Deep.RegionHeld3
import Derived.Deep.Cut
import Derived.Deep.DeepFit
import Derived.Deep.MidRow
import Derived.Deep.RegionLaw
import Derived.Deep.DrawnRows
import Derived.BigQuiet
import Derived.WalkKit
import Derived.WalkMore
import Derived.OneCell
import Derived.Laws.Rows
namespace Go.Proofs.YtaieijbdknfcjaaGreatDoor
open Go.RowKit

theorem lt_of_blk {w : World} {b : Nat} {o : Obj} (h : w.heap[b]? = some o) : b < w.heap.size := (Array.getElem?_eq_some_iff.1 h).1
theorem addr_add (b o j : Nat) : (⟨b, o, none⟩ : Addr).add j = ⟨b, o + j, none⟩ := by unfold Addr.add; split <;> simp_all
theorem below_drew {B : Nat} {w W : World} (h : Below B w W) : Below B w W.drew := ⟨h.os, h.tape, h.output, h.size, h.block⟩
theorem of_drew {W w1 : World} (h : Below W.drew.heap.size W.drew w1) : Below W.heap.size W w1 := ⟨h.os, h.tape, h.output, h.size, h.block⟩
theorem below_drewN {B : Nat} {a w : World} (h : Below B a w) (n : Nat) : Below B a (w.drewN n) := ⟨h.os, h.tape, h.output, h.size, h.block⟩
theorem cell_n {w : World} {B e s n g cap k : Nat} {xs : List Value} {x : Value} (h : w.ownsRow B e s (.slice (some ⟨g, 0, none⟩) n cap) n xs) (hx : xs[k]? = some x) : w.cell? ⟨g, k, none⟩ = some x := by
  have hk : k < xs.length := (List.getElem?_eq_some_iff.1 hx).1
  rcases h.2 with ⟨h0, _⟩ | ⟨g', cap', cur, hv, _, hg, _, _, hsz, ht⟩
  · cases h0
  · cases hv
    have hkc : k < n * s := by have := h.1; omega
    have : cur[k]? = some x := by
      rw [← hx, ← ht, List.getElem?_take_of_lt hkc, Array.getElem?_toList]
    unfold World.cell?
    simp only [hg]
    exact this

theorem other_blk {w : World} {g b i : Nat} {v : Value} {o : Obj} (h : w.heap[b]? = some o) (hne : b ≠ g) : (w.setCell ⟨g, i, none⟩ v).heap[b]? = some o := by
  rw [Below.heap_setCell w ⟨g, i, none⟩ v b hne]; exact h
theorem same_blk {w : World} {g i : Nat} {cs cs' : Array Value} {t : TypeId} {v : Value} (h : w.heap[g]? = some (.cells cs t (0, 0))) (he : cs.setIfInBounds i v = cs') : (w.setCell ⟨g, i, none⟩ v).heap[g]? = some (.cells cs' t (0, 0)) := by
  rw [← he]; exact heap_setCell_same w g i cs t v h
abbrev put_1 (w : World) (g : Nat) (x0 : Value) : World := (w.setCell ⟨g, 0, none⟩ x0)
theorem fill_1 {w : World} {g : Nat} {t : TypeId} {x0 y0 : Value} (h : w.heap[g]? = some (.cells #[y0] t (0, 0))) : (put_1 w g x0).heap[g]? = some (.cells #[x0] t (0, 0)) := by
  have h0 := same_blk (i := 0) (v := x0) (cs' := #[x0]) h rfl
  exact h0
theorem fillB_1 {B : Nat} {w0 w : World} {g : Nat} {x0 : Value} (h : Below B w0 w) (hg : B ≤ g) : Below B w0 (put_1 w g x0) := (h.setCell hg _)
theorem fillO_1 {w : World} {g b : Nat} {o : Obj} {x0 : Value} (h : w.heap[b]? = some o) (hne : b ≠ g) : (put_1 w g x0).heap[b]? = some o := (other_blk h hne)
abbrev put_3 (w : World) (g : Nat) (x0 x1 x2 : Value) : World := (((w.setCell ⟨g, 0, none⟩ x0).setCell ⟨g, 1, none⟩ x1).setCell ⟨g, 2, none⟩ x2)
theorem fill_3 {w : World} {g : Nat} {t : TypeId} {x0 x1 x2 y0 y1 y2 : Value} (h : w.heap[g]? = some (.cells #[y0, y1, y2] t (0, 0))) : (put_3 w g x0 x1 x2).heap[g]? = some (.cells #[x0, x1, x2] t (0, 0)) := by
  have h0 := same_blk (i := 0) (v := x0) (cs' := #[x0, y1, y2]) h rfl
  have h1 := same_blk (i := 1) (v := x1) (cs' := #[x0, x1, y2]) h0 rfl
  have h2 := same_blk (i := 2) (v := x2) (cs' := #[x0, x1, x2]) h1 rfl
  exact h2
theorem fillB_3 {B : Nat} {w0 w : World} {g : Nat} {x0 x1 x2 : Value} (h : Below B w0 w) (hg : B ≤ g) : Below B w0 (put_3 w g x0 x1 x2) := (((h.setCell hg _).setCell hg _).setCell hg _)
theorem fillO_3 {w : World} {g b : Nat} {o : Obj} {x0 x1 x2 : Value} (h : w.heap[b]? = some o) (hne : b ≠ g) : (put_3 w g x0 x1 x2).heap[b]? = some o := (other_blk (other_blk (other_blk h hne) hne) hne)
abbrev put_4 (w : World) (g : Nat) (x0 x1 x2 x3 : Value) : World := ((((w.setCell ⟨g, 0, none⟩ x0).setCell ⟨g, 1, none⟩ x1).setCell ⟨g, 2, none⟩ x2).setCell ⟨g, 3, none⟩ x3)
theorem fill_4 {w : World} {g : Nat} {t : TypeId} {x0 x1 x2 x3 y0 y1 y2 y3 : Value} (h : w.heap[g]? = some (.cells #[y0, y1, y2, y3] t (0, 0))) : (put_4 w g x0 x1 x2 x3).heap[g]? = some (.cells #[x0, x1, x2, x3] t (0, 0)) := by
  have h0 := same_blk (i := 0) (v := x0) (cs' := #[x0, y1, y2, y3]) h rfl
  have h1 := same_blk (i := 1) (v := x1) (cs' := #[x0, x1, y2, y3]) h0 rfl
  have h2 := same_blk (i := 2) (v := x2) (cs' := #[x0, x1, x2, y3]) h1 rfl
  have h3 := same_blk (i := 3) (v := x3) (cs' := #[x0, x1, x2, x3]) h2 rfl
  exact h3
theorem fillB_4 {B : Nat} {w0 w : World} {g : Nat} {x0 x1 x2 x3 : Value} (h : Below B w0 w) (hg : B ≤ g) : Below B w0 (put_4 w g x0 x1 x2 x3) := ((((h.setCell hg _).setCell hg _).setCell hg _).setCell hg _)
theorem fillO_4 {w : World} {g b : Nat} {o : Obj} {x0 x1 x2 x3 : Value} (h : w.heap[b]? = some o) (hne : b ≠ g) : (put_4 w g x0 x1 x2 x3).heap[b]? = some o := (other_blk (other_blk (other_blk (other_blk h hne) hne) hne) hne)
theorem cellO_1 {w : World} {g b i j : Nat} {v x : Value} (h : w.cell? ⟨b, i, none⟩ = some v) (hne : b ≠ g) : (w.setCell ⟨g, j, none⟩ x).cell? ⟨b, i, none⟩ = some v := by
  rw [World.cell?_of_block (w := w) (Below.heap_setCell w ⟨g, j, none⟩ x b hne)]; exact h
theorem cellO_4 {w : World} {g b i : Nat} {v x0 x1 x2 x3 : Value} (h : w.cell? ⟨b, i, none⟩ = some v) (hne : b ≠ g) : (put_4 w g x0 x1 x2 x3).cell? ⟨b, i, none⟩ = some v := (cellO_1 (cellO_1 (cellO_1 (cellO_1 h hne) hne) hne) hne)
theorem new_old {w : World} {b : Nat} {o : Obj} (h : w.heap[b]? = some o) (o' : Obj) : (w.alloc o').heap[b]? = some o := by
  rw [Below.heap_alloc w o' b (Array.getElem?_eq_some_iff.1 h).1]; exact h
theorem cells_1 {W : World} {b : Nat} {t : TypeId} {x0 : Value} (h : W.heap[b]? = some (.cells #[x0] t (0, 0))) : W.cell? ⟨b, 0, none⟩ = some x0 := by
  simp [World.cell?, h]
theorem free_1 {W : World} {b : Nat} {t : TypeId} {x0 : Value} (h : W.heap[b]? = some (.cells #[x0] t (0, 0))) (o : Nat) : W.frozen? ⟨b, o, none⟩ = false := by
  simp [World.frozen?, h]
theorem cells_4 {W : World} {b : Nat} {t : TypeId} {x0 x1 x2 x3 : Value} (h : W.heap[b]? = some (.cells #[x0, x1, x2, x3] t (0, 0))) : W.cell? ⟨b, 0, none⟩ = some x0 ∧ W.cell? ⟨b, 1, none⟩ = some x1 ∧ W.cell? ⟨b, 2, none⟩ = some x2 ∧ W.cell? ⟨b, 3, none⟩ = some x3 := by
  simp [World.cell?, h]
theorem free_4 {W : World} {b : Nat} {t : TypeId} {x0 x1 x2 x3 : Value} (h : W.heap[b]? = some (.cells #[x0, x1, x2, x3] t (0, 0))) (o : Nat) : W.frozen? ⟨b, o, none⟩ = false := by
  simp [World.frozen?, h]
theorem owns_same {w w' : World} {B e s n : Nat} {v : Value} {xs : List Value} (h : w.ownsRow B e s v n xs) (hk : ∀ k, v.ownBlock = some k → w'.heap[k]? = w.heap[k]?) : w'.ownsRow B e s v n xs := by
  refine ⟨h.1, ?_⟩
  rcases h.2 with h2 | ⟨g, cap, cur, hv, hB, hg, r⟩
  · exact .inl h2
  · exact .inr ⟨g, cap, cur, hv, hB, by rw [hk g (by rw [hv]; rfl)]; exact hg, r⟩
theorem owns_kind {w : World} {B e s n k : Nat} {v : Value} {xs : List Value} (h : w.ownsRow B e s v n xs) (hk : v.ownBlock = some k) : ∃ cur, w.heap[k]? = some (.cells cur e (0, 0)) := by
  rcases h.2 with ⟨rfl, _⟩ | ⟨g, cap, cur, rfl, _, hg, _⟩
  · cases hk
  · simp only [Value.ownBlock, Option.some.injEq] at hk
    subst hk
    exact ⟨cur, hg⟩
theorem cellN {w : World} {g b i j : Nat} {x : Value} (hne : b ≠ g) : (w.setCell ⟨g, j, none⟩ x).cell? ⟨b, i, none⟩ = w.cell? ⟨b, i, none⟩ := by
  rw [World.cell?_of_block (w := w) (Below.heap_setCell w ⟨g, j, none⟩ x b hne)]
theorem owns_below {w w' : World} {B e s n : Nat} {v : Value} {xs : List Value} (h : w.ownsRow B e s v n xs) (hb : Below w.heap.size w w') : w'.ownsRow B e s v n xs := owns_same h (fun k hk => hb.block k (h.lt k hk).2)
theorem cells_3 {W : World} {b : Nat} {t : TypeId} {x0 x1 x2 : Value} (h : W.heap[b]? = some (.cells #[x0, x1, x2] t (0, 0))) : W.cell? ⟨b, 0, none⟩ = some x0 ∧ W.cell? ⟨b, 1, none⟩ = some x1 ∧ W.cell? ⟨b, 2, none⟩ = some x2 := by
  simp [World.cell?, h]
theorem kept_block {W w1 : World} {b : Nat} {o : Obj} (hb : Below W.heap.size W w1) (h : W.heap[b]? = some o) : w1.heap[b]? = some o := by
  rw [hb.block b (Array.getElem?_eq_some_iff.1 h).1]; exact h
theorem heap_new' {w : World} {o : Obj} {k : Nat} (h : w.heap.size = k) : (w.alloc o).heap[k]? = some o := by subst h; exact heap_alloc_new w o

/-- A node. -/
structure SeenT where
  p : ByteArray
  d : ByteArray
  v : Int
abbrev SeenT.cells (o : SeenT) : List Value := [.string o.p, .string o.d, .int .i64 o.v]
def seCs (l : List SeenT) : List Value := (l.map SeenT.cells).flatten
theorem seCs_append (l m : List SeenT) : seCs (l ++ m) = seCs l ++ seCs m := by simp [seCs]
theorem seCs_len (l : List SeenT) : (seCs l).length = l.length * 3 := by
  induction l with
  | nil => rfl
  | cons o os ih => simp [seCs] at *; omega
theorem seCs_at (os : List SeenT) (q j : Nat) (o : SeenT) (x : Value) (h : os[q]? = some o) (hx : o.cells[j]? = some x) (rest : List Value) : (seCs os ++ rest)[q * 3 + j]? = some x := by
  induction os generalizing q with
  | nil => cases h
  | cons a os ih =>
    have hj : j < 3 := (List.getElem?_eq_some_iff.1 hx).1
    cases q with
    | zero =>
      cases h
      show (o.cells ++ seCs os ++ rest)[0 * 3 + j]? = some x
      rw [Nat.zero_mul, Nat.zero_add, List.append_assoc, List.getElem?_append_left (by simpa using hj)]
      exact hx
    | succ q =>
      show (a.cells ++ seCs os ++ rest)[(q + 1) * 3 + j]? = some x
      rw [List.append_assoc, List.getElem?_append_right (by simp; omega)]
      rw [show (q + 1) * 3 + j - a.cells.length = q * 3 + j by simp; omega]
      exact ih q h
theorem seCs_one (l : List SeenT) : ∀ u ∈ seCs l, u.oneCell' = true := by
  intro u hu
  simp only [seCs, List.mem_flatten, List.mem_map] at hu
  obtain ⟨c, ⟨s, _, rfl⟩, hu⟩ := hu
  simp only [SeenT.cells, List.mem_cons, List.not_mem_nil, or_false] at hu
  rcases hu with rfl | rfl | rfl <;> rfl

/-- Nodes that lie in memory, wherever. -/
def Ss (w : World) (a : Option Addr) (l : List SeenT) : Prop :=
  l = [] ∨ ∃ b o, a = some ⟨b, o, none⟩ ∧ b < w.heap.size ∧ ∀ i s, l[i]? = some s → ∀ j x, s.cells[j]? = some x → w.cell? ⟨b, o + i * 3 + j, none⟩ = some x
theorem Ss.below {w w' : World} {a : Option Addr} {l : List SeenT} (h : Ss w a l) (hb : Below w.heap.size w w') : Ss w' a l := by
  rcases h with h | ⟨b, o, ha, hlt, hs⟩
  · exact .inl h
  · refine .inr ⟨b, o, ha, Nat.lt_of_lt_of_le hlt hb.size, fun i s hi j x hx => ?_⟩
    rw [hb.cell (p := ⟨b, o + i * 3 + j, none⟩) hlt]
    exact hs i s hi j x hx
theorem Ss.at {w : World} {a : Option Addr} {l : List SeenT} (h : Ss w a l) {i : Nat} {s : SeenT} (hi : l[i]? = some s) : ∃ b o, a = some ⟨b, o, none⟩ ∧ b < w.heap.size ∧ w.cell? ⟨b, o + i * 3, none⟩ = some (.string s.p) ∧ w.cell? ⟨b, o + i * 3 + 1, none⟩ = some (.string s.d) ∧ w.cell? ⟨b, o + i * 3 + 2, none⟩ = some (.int .i64 s.v) := by
  rcases h with rfl | ⟨b, o, ha, hlt, hs⟩
  · cases hi
  · exact ⟨b, o, ha, hlt, hs i s hi 0 _ rfl, hs i s hi 1 _ rfl, hs i s hi 2 _ rfl⟩
theorem ss_of_owns {w : World} {base n cap : Nat} {g : Nat} {l : List SeenT} {rest : List Value} (h : w.ownsRow base 36 3 (.slice (some ⟨g, 0, none⟩) n cap) n (seCs l ++ rest)) : Ss w (some ⟨g, 0, none⟩) l := by
  refine .inr ⟨g, 0, rfl, (h.lt g rfl).2, fun i s hi j x hx => ?_⟩
  rw [Nat.zero_add]
  exact cell_n h (seCs_at l i j s x hi hx rest)
theorem ss_news {w : World} {ad : Addr} {l : List SeenT} (h : Ss w (some ad) l) : ∀ j u, (seCs l)[j]? = some u → w.cell? (ad.add j) = some u := by
  intro j u hj
  rcases h with rfl | ⟨b, o, ha, _, hs⟩
  · simp [seCs] at hj
  · have hab : ad = ⟨b, o, none⟩ := Option.some.inj ha
    subst hab
    have hjl : j < l.length * 3 := by rw [← seCs_len]; exact (List.getElem?_eq_some_iff.1 hj).1
    have hq : j / 3 < l.length := by omega
    obtain ⟨s, hs'⟩ : ∃ s, l[j / 3]? = some s := ⟨l[j / 3], List.getElem?_eq_getElem hq⟩
    obtain ⟨x, hx⟩ : ∃ x, s.cells[j % 3]? = some x := ⟨s.cells[j % 3]'(by simp; omega), List.getElem?_eq_getElem _⟩
    have h1 := seCs_at l (j / 3) (j % 3) s x hs' hx []
    rw [List.append_nil, show j / 3 * 3 + j % 3 = j by omega, hj] at h1
    have h2 := hs (j / 3) s hs' (j % 3) x hx
    rw [addr_add, h1, ← h2]
    congr 2
    omega

/-- A shot by value. -/
structure ShT where
  st : Int
  p : ByteArray
  k : Int
  a : Option Addr
  c : Nat
  l : List SeenT
abbrev ShT.val (s : ShT) : Value := .agg #[.int .i64 s.st, .string s.p, .int .i64 s.k, .slice s.a s.l.length s.c]

theorem take_snoc {l : List SeenT} {q : Nat} {o : SeenT} (h : l[q]? = some o) : l.take (q + 1) = l.take q ++ [o] := by rw [List.take_add_one, h]; rfl
theorem same_part {xs ys : List SeenT} {k : Nat} {x y : SeenT} (hx : xs[k]? = some x) (hy : ys[k]? = some y) (h : x ≠ y) : xs ≠ ys := by
  intro e
  subst e
  rw [hx] at hy
  exact h (Option.some.inj hy)
theorem same_step {xs ys : List SeenT} {k : Nat} {x : SeenT} (hx : xs[k]? = some x) (hy : ys[k]? = some x) (h : xs.take k = ys.take k) : xs.take (k + 1) = ys.take (k + 1) := by
  rw [take_snoc hx, take_snoc hy, h]
theorem small_any (s : ShT) (w : World) :
    Calls Tryz.prog 4 #[s.val] w fun e w' => e = .returned (.bool (decide ((s.l.length : Int) ≤ 70))) ∧ Below w.heap.size w w' := by
  go_enter Tryz.func4, Tryz.ntmps4
  go_wp2_with fail
  go_ret
  exact ⟨rfl, (Below.refl _ _).alloc (Nat.le_refl _) _⟩
theorem mark_any (w : World) :
    Calls Tryz.prog 11 #[] w fun e w' => e = .returned (.agg #[.string ⟨#[98, 101, 104, 105, 110, 100]⟩, .string ⟨#[]⟩, .int .i64 91]) ∧ Below w.heap.size w w' := by
  go_enter Tryz.func11, Tryz.ntmps11
  go_wp2_with fail
  exact bodyPost_ret (results_cell_row rfl _ _ w.heap.size 36 _ (0, 0) _ rfl (heap_alloc_new _ _) Tryz.underlying36 rfl (by kernel_rfl)) rfl ⟨rfl, (Below.refl _ _).alloc (Nat.le_refl _) _⟩
end Go.Proofs.YtaieijbdknfcjaaGreatDoor
