/-
  What is held: rows of rows, and which blocks turn.
-/
import Derived.Test.YtblhenblibdjoabDoorJoin
import Derived.Test.YtblhenblibdjoabDoorMark
import Derived.OneCell
namespace Go.Proofs.YtblhenblibdjoabDoor
open Go.RowKit

/-- w' is w but for the blocks of S and new ones. -/
structure Chg (w w' : World) (S : Nat → Prop) : Prop where
  os : w'.os = w.os
  tape : w'.tape = w.tape
  output : w'.output = w.output
  size : w.heap.size ≤ w'.heap.size
  block : ∀ k, k < w.heap.size → ¬ S k → w'.heap[k]? = w.heap[k]?

theorem Chg.trans {w w1 w2 : World} {S : Nat → Prop} (h : Chg w w1 S) (k : Chg w1 w2 S) : Chg w w2 S :=
  ⟨k.os.trans h.os, k.tape.trans h.tape, k.output.trans h.output, Nat.le_trans h.size k.size, fun i hi hs => (k.block i (Nat.lt_of_lt_of_le hi h.size) hs).trans (h.block i hi hs)⟩
theorem Chg.mono {w w' : World} {S S' : Nat → Prop} (h : Chg w w' S) (hs : ∀ k, k < w.heap.size → S k → S' k) : Chg w w' S' :=
  ⟨h.os, h.tape, h.output, h.size, fun k hk hn => h.block k hk (fun h' => hn (hs k hk h'))⟩
theorem Chg.refl (w : World) (S : Nat → Prop) : Chg w w S := ⟨rfl, rfl, rfl, Nat.le_refl _, fun _ _ _ => rfl⟩
theorem Chg.grown {w w' : World} {row : Option Nat} (h : w.grownBy w' row) : Chg w w' (fun k => row = some k) :=
  ⟨h.os, h.tape, h.output, h.size, fun k hk hn => h.block k hk (fun e => hn e.symm)⟩
theorem Chg.alloc (w : World) (o : Obj) (S : Nat → Prop) : Chg w (w.alloc o) S := (Chg.grown (World.grownBy_alloc w o none)).mono (fun _ _ h => by cases h)
theorem Chg.set (w : World) (a : Addr) (v : Value) : Chg w (w.setCell a v) (fun k => k = a.block) :=
  ⟨rfl, rfl, rfl, by simp, fun k _ hn => Below.heap_setCell w a v k hn⟩
theorem Chg.of_below {w w' : World} (h : Below w.heap.size w w') (S : Nat → Prop) : Chg w w' S := ⟨h.os, h.tape, h.output, h.size, fun k hk _ => h.block k hk⟩
theorem Chg.below {w w' : World} {S : Nat → Prop} {B : Nat} (h : Chg w w' S) (hB : B ≤ w.heap.size) (hs : ∀ k, k < w.heap.size → S k → B ≤ k) : Below B w w' :=
  ⟨h.os, h.tape, h.output, h.size, fun k hk => h.block k (Nat.lt_of_lt_of_le hk hB) (fun h' => by have := hs k (Nat.lt_of_lt_of_le hk hB) h'; omega)⟩

theorem owns_same {w w' : World} {B e s n : Nat} {v : Value} {xs : List Value} (h : w.ownsRow B e s v n xs) (hk : ∀ k, v.ownBlock = some k → w'.heap[k]? = w.heap[k]?) : w'.ownsRow B e s v n xs := by
  refine ⟨h.1, ?_⟩
  rcases h.2 with h2 | ⟨g, cap, cur, hv, hB, hg, r⟩
  · exact .inl h2
  · exact .inr ⟨g, cap, cur, hv, hB, by rw [hk g (by rw [hv]; rfl)]; exact hg, r⟩
theorem owns_chg {w w' : World} {S : Nat → Prop} {B e s n : Nat} {v : Value} {xs : List Value} (h : w.ownsRow B e s v n xs) (hc : Chg w w' S) (hs : ∀ k, v.ownBlock = some k → ¬ S k) : w'.ownsRow B e s v n xs :=
  owns_same h (fun k hk => hc.block k (h.lt k hk).2 (hs k hk))
theorem owns_kind {w : World} {B e s n k : Nat} {v : Value} {xs : List Value} (h : w.ownsRow B e s v n xs) (hk : v.ownBlock = some k) : ∃ cur, w.heap[k]? = some (.cells cur e (0, 0)) := by
  rcases h.2 with ⟨rfl, _⟩ | ⟨g, cap, cur, rfl, _, hg, _⟩
  · cases hk
  · simp only [Value.ownBlock, Option.some.injEq] at hk
    subst hk
    exact ⟨cur, hg⟩
theorem kind_ne {w : World} {k e e' : Nat} {c c' : Array Value} {f f' : Nat × Nat} (h : w.heap[k]? = some (.cells c e f)) (h' : w.heap[k]? = some (.cells c' e' f')) : e = e' := by
  rw [h] at h'
  simp only [Option.some.injEq, Obj.cells.injEq] at h'
  exact h'.2.1

/-- No block of one is the other's. -/
def Apart (v u : Value) : Prop := ∀ k, v.ownBlock = some k → u.ownBlock ≠ some k
/-- The same block, or a new one. -/
def Moved (N : Nat) (v v' : Value) : Prop := v'.ownBlock = v.ownBlock ∨ ∃ k, v'.ownBlock = some k ∧ N ≤ k
theorem Apart.symm {v u : Value} (h : Apart v u) : Apart u v := fun k hu hv => h k hv hu
theorem Apart.moved {v v' u : Value} {N : Nat} (h : Apart v u) (hm : Moved N v v') (hu : ∀ k, u.ownBlock = some k → k < N) : Apart v' u := by
  intro k hk hu'
  rcases hm with hm | ⟨k', hk', hN⟩
  · exact h k (hm ▸ hk) hu'
  · rw [hk'] at hk
    have := Option.some.inj hk
    have := hu k hu'
    omega

abbrev Rw := Value × List ByteArray
/-- A row of texts that is owned. -/
def Rok (w : World) (B : Nat) (r : Rw) : Prop := w.ownsRow B 9 1 r.1 r.2.length (r.2.map Value.string)
/-- The blocks of rows. -/
def blks (rs : List Rw) : List Nat := rs.filterMap (fun r => r.1.ownBlock)

theorem mem_blks {rs : List Rw} {r : Rw} {k : Nat} (h : r ∈ rs) (hk : r.1.ownBlock = some k) : k ∈ blks rs := List.mem_filterMap.2 ⟨r, h, hk⟩

structure HeldAt (w : World) (B hb : Nat) (lv wv : Value) (ls ws : List Rw) : Prop where
  blk : w.heap[hb]? = some (.cells #[lv, wv] 41 (0, 0))
  le : B ≤ hb
  lo : w.ownsRow B 37 1 lv ls.length (ls.map Prod.fst)
  wo : w.ownsRow B 37 1 wv ws.length (ws.map Prod.fst)
  apart : Apart lv wv
  lrows : ∀ r ∈ ls, Rok w B r
  wrows : ∀ r ∈ ws, Rok w B r

theorem HeldAt.lt {w : World} {B hb : Nat} {lv wv : Value} {ls ws : List Rw} (h : HeldAt w B hb lv wv ls ws) : hb < w.heap.size := (Array.getElem?_eq_some_iff.1 h.blk).1
theorem HeldAt.chg {w w' : World} {S : Nat → Prop} {B hb : Nat} {lv wv : Value} {ls ws : List Rw} (h : HeldAt w B hb lv wv ls ws) (hc : Chg w w' S) (h1 : ¬ S hb) (h2 : ∀ k, lv.ownBlock = some k → ¬ S k) (h3 : ∀ k, wv.ownBlock = some k → ¬ S k)
    (h4 : ∀ k, k ∈ blks ls → ¬ S k) (h5 : ∀ k, k ∈ blks ws → ¬ S k) : HeldAt w' B hb lv wv ls ws :=
  ⟨by rw [hc.block hb h.lt h1]; exact h.blk, h.le, owns_chg h.lo hc h2, owns_chg h.wo hc h3, h.apart, fun r hr => owns_chg (h.lrows r hr) hc (fun k hk => h4 k (mem_blks hr hk)), fun r hr => owns_chg (h.wrows r hr) hc (fun k hk => h5 k (mem_blks hr hk))⟩
theorem HeldAt.below {w w' : World} {B hb : Nat} {lv wv : Value} {ls ws : List Rw} (h : HeldAt w B hb lv wv ls ws) (hc : Below w.heap.size w w') : HeldAt w' B hb lv wv ls ws :=
  h.chg (Chg.of_below hc (fun _ => False)) id (fun _ _ => id) (fun _ _ => id) (fun _ _ => id) (fun _ _ => id)
theorem HeldAt.row_ne {w : World} {B hb : Nat} {lv wv : Value} {ls ws : List Rw} (h : HeldAt w B hb lv wv ls ws) {B' n : Nat} {v : Value} {xs : List Value} (hr : w.ownsRow B' 9 1 v n xs) {k : Nat} (hk : v.ownBlock = some k) : k ≠ hb ∧ lv.ownBlock ≠ some k ∧ wv.ownBlock ≠ some k := by
  obtain ⟨cur, hcur⟩ := owns_kind hr hk
  refine ⟨fun e => ?_, fun e => ?_, fun e => ?_⟩
  · subst e; exact absurd (kind_ne hcur h.blk) (by decide)
  · obtain ⟨c', hc'⟩ := owns_kind h.lo e; exact absurd (kind_ne hcur hc') (by decide)
  · obtain ⟨c', hc'⟩ := owns_kind h.wo e; exact absurd (kind_ne hcur hc') (by decide)
theorem HeldAt.hb_ne {w : World} {B hb : Nat} {lv wv : Value} {ls ws : List Rw} (h : HeldAt w B hb lv wv ls ws) : lv.ownBlock ≠ some hb ∧ wv.ownBlock ≠ some hb := by
  refine ⟨fun e => ?_, fun e => ?_⟩
  · obtain ⟨c', hc'⟩ := owns_kind h.lo e; exact absurd (kind_ne hc' h.blk) (by decide)
  · obtain ⟨c', hc'⟩ := owns_kind h.wo e; exact absurd (kind_ne hc' h.blk) (by decide)

theorem two_cell0 {w : World} {b : Nat} {u v : Value} {t : TypeId} (h : w.heap[b]? = some (.cells #[u, v] t (0, 0))) : w.cell? ⟨b, 0, none⟩ = some u := by simp [World.cell?, h]
theorem two_cell1 {w : World} {b : Nat} {u v : Value} {t : TypeId} (h : w.heap[b]? = some (.cells #[u, v] t (0, 0))) : w.cell? ⟨b, 1, none⟩ = some v := by simp [World.cell?, h]
theorem two_free {w : World} {b j : Nat} {u v : Value} {t : TypeId} (h : w.heap[b]? = some (.cells #[u, v] t (0, 0))) : w.frozen? ⟨b, j, none⟩ = false := by simp [World.frozen?, h]
theorem two_set0 {w : World} {b : Nat} {u v x : Value} {t : TypeId} (h : w.heap[b]? = some (.cells #[u, v] t (0, 0))) : (w.setCell ⟨b, 0, none⟩ x).heap[b]? = some (.cells #[x, v] t (0, 0)) := heap_setCell_same w b 0 _ t x h
theorem two_set1 {w : World} {b : Nat} {u v x : Value} {t : TypeId} (h : w.heap[b]? = some (.cells #[u, v] t (0, 0))) : (w.setCell ⟨b, 1, none⟩ x).heap[b]? = some (.cells #[u, x] t (0, 0)) := heap_setCell_same w b 1 _ t x h
end Go.Proofs.YtblhenblibdjoabDoor
