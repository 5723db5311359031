/-
  heraldlaw10: the desk.
-/
import Derived.Test.YtlidkieljiebiaaQRefV
import Derived.Deep.Cut
namespace Go.Proofs.Ytlidkieljiebiaa
open Go.RowKit
set_option linter.unusedVariables false
set_option linter.unusedSimpArgs false

/-- Rows, each in a block of its own. -/
structure Rws (w : World) (e sz tS : Nat) (sv : Value) (L : List Value) : Prop where
  row : w.ownsRow 0 tS 1 sv L.length L
  each : ∀ (i : Nat) (t : Value), L[i]? = some t → ∃ (k n c : Nat) (xs : List Value), t = .slice (some ⟨k, 0, none⟩) n c ∧ w.ownsRow 0 e sz t n xs
  apart : ∀ (i j : Nat) (t u : Value) (k : Nat), L[i]? = some t → L[j]? = some u → t.ownBlock = some k → u.ownBlock = some k → i = j
structure DeskAt (w : World) (D : Nat) (tv pv sv nv : Value) (L M : List Value) : Prop where
  box : w.heap[D]? = some (.cells #[tv, pv, sv, nv] 72 (0, 0))
  tv : ∃ n xs, w.ownsRow 0 88 5 tv n xs
  pv : ∃ n xs, w.ownsRow 0 96 5 pv n xs
  ts : Rws w 3 1 29 sv L
  ns : Rws w 119 3 92 nv M
/-- The desk's blocks. -/
def DeskK (D : Nat) (tv pv sv nv : Value) (L M : List Value) : Nat → Prop := fun j => j = D ∨ tv.ownBlock = some j ∨ pv.ownBlock = some j ∨ sv.ownBlock = some j ∨ nv.ownBlock = some j ∨ (∃ t ∈ L, t.ownBlock = some j) ∨ (∃ t ∈ M, t.ownBlock = some j)
/-- A row's block has its elements' type. -/
theorem row_kind {w : World} {base e sz n : Nat} {v : Value} {xs : List Value} (h : w.ownsRow base e sz v n xs) : ∀ k, v.ownBlock = some k → ∃ cur, w.heap[k]? = some (.cells cur e (0, 0)) := by
  intro k hk
  rcases h.2 with ⟨rfl, _⟩ | ⟨g, cap, cur, rfl, _, hg, _⟩
  · cases hk
  · cases hk
    exact ⟨cur, hg⟩
theorem kind_ne {w : World} {a b : Nat} {c d : Array Value} {e f : TypeId} (ha : w.heap[a]? = some (.cells c e (0, 0))) (hb : w.heap[b]? = some (.cells d f (0, 0))) (hne : e ≠ f) : a ≠ b := fun h => by
  subst h
  rw [ha] at hb
  cases hb
  exact hne rfl
theorem Rws.chg {w w' : World} {e sz tS : Nat} {sv : Value} {L : List Value} {S : Nat → Prop} (h : Rws w e sz tS sv L) (hc : Chg w w' S) (h1 : ∀ k, sv.ownBlock = some k → ¬ S k) (h2 : ∀ t ∈ L, ∀ k, t.ownBlock = some k → ¬ S k) : Rws w' e sz tS sv L :=
  ⟨row_chg h.row hc h1, fun i t ht => by
    obtain ⟨k, n, c, xs, rfl, hr⟩ := h.each i t ht
    exact ⟨k, n, c, xs, rfl, row_chg hr hc (h2 _ (List.mem_of_getElem? ht))⟩, h.apart⟩
theorem Rws.below {w w' : World} {e sz tS : Nat} {sv : Value} {L : List Value} (h : Rws w e sz tS sv L) (hb : Below w.heap.size w w') : Rws w' e sz tS sv L :=
  h.chg (Chg.of_below hb (fun _ => False)) (fun _ _ h => h) (fun _ _ _ _ h => h)
/-- What a row is cut to. -/
theorem row_cut {w : World} {base e sz n m c k : Nat} {xs : List Value} (h : w.ownsRow base e sz (.slice (some ⟨k, 0, none⟩) n c) n xs) (hm : m ≤ n) : w.ownsRow base e sz (.slice (some ⟨k, 0, none⟩) m c) m (xs.take (m * sz)) := by
  rcases h.2 with ⟨h0, _⟩ | ⟨g, cap, cur, hv, hb, hg, h1, h2, h3, h4⟩
  · cases h0
  · cases hv
    have hms : m * sz ≤ n * sz := Nat.mul_le_mul_right _ hm
    refine ⟨by rw [List.length_take, h.1]; omega, .inr ⟨k, c, cur, rfl, hb, hg, by omega, h2, h3, ?_⟩⟩
    rw [← h4, List.take_take, Nat.min_eq_left hms]
/-- A cell of a row is written. -/
theorem row_set {w : World} {base e sz n c k i : Nat} {xs : List Value} {x : Value} (h : w.ownsRow base e sz (.slice (some ⟨k, 0, none⟩) n c) n xs) : (w.setCell ⟨k, i, none⟩ x).ownsRow base e sz (.slice (some ⟨k, 0, none⟩) n c) n (xs.set i x) := by
  rcases h.2 with ⟨h0, _⟩ | ⟨g, cap, cur, hv, hb, hg, h1, h2, h3, h4⟩
  · cases h0
  · cases hv
    refine ⟨by rw [List.length_set]; exact h.1, .inr ⟨k, c, _, rfl, hb, set_at hg, h1, h2, by rw [Array.size_setIfInBounds]; exact h3, ?_⟩⟩
    rw [Array.toList_setIfInBounds, List.take_set, h4]
/-- The tags of a change, as they lie at the desk: the row, and what is handed in of it. -/
structure UsAt (w : World) (t : TgT) (r u : Value) : Prop where
  eq : ∃ k c, r = .slice (some ⟨k, 0, none⟩) (t.tags.length + 1) c ∧ u = .slice (some ⟨k, 0, none⟩) t.tags.length c
  row : w.ownsRow 0 3 1 r (t.tags.length + 1) (t.tags.flatMap (fun y => [.int .i64 y]) ++ [.int .i64 777])
structure TgsTight (l : List TgT) : Prop where
  len : (l.length + 1) * 72 ≤ 140737488355328
  each : ∀ t ∈ l, (t.tags.length + 1) * 8 ≤ 140737488355328
/-- The desk while changes are laid there. -/
structure TwI (w0 : World) (K : Nat → Prop) (l : List TgT) (w : World) (D q : Nat) (tv pv nv : Value) (M : List Value) (mv sv : Value) (L us : List Value) : Prop where
  box : w.heap[D]? = some (.cells #[tv, pv, sv, nv] 72 (0, 0))
  pv : ∃ n xs, w.ownsRow 0 96 5 pv n xs
  ns : Rws w 119 3 92 nv M
  ts : Rws w 3 1 29 sv L
  tvl : ∀ k, tv.ownBlock = some k → k < w0.heap.size
  m : w.ownsRow 0 88 5 mv q (((l.take q).zip us).flatMap fun x => tgCs x.1 x.2)
  len : us.length = q
  le : q ≤ L.length
  each : ∀ (i : Nat) (t : TgT) (r u : Value), i < q → l[i]? = some t → L[i]? = some r → us[i]? = some u → UsAt w t r u
  chg : Chg w0 w K
  km : ∀ j, mv.ownBlock = some j → K j ∨ w0.heap.size ≤ j
  ks : ∀ j, sv.ownBlock = some j → K j ∨ w0.heap.size ≤ j
  kl : ∀ t ∈ L, ∀ j, t.ownBlock = some j → K j ∨ w0.heap.size ≤ j
end Go.Proofs.Ytlidkieljiebiaa
