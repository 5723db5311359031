/-
  PlaceOwn: the round's parts.
-/
import Derived.Test.YtblhenblibdjoabDoorGiven
import Derived.Test.YtblhenblibdjoabDoorOwnStep
namespace Go.Proofs.YtblhenblibdjoabDoor
open Go.RowKit
set_option linter.unusedVariables false

def OwnI (w W : World) (n : Nat) : Prop := ∃ lv wv ls ws lv2 wv2 ls2 ws2, Hold w W w.heap.size (w.heap.size + 1) lv wv ls ws lv2 wv2 ls2 ws2 ∧ ls.length ≤ 2 * n ∧ ls2.length ≤ n

theorem held_new (W : World) (B hb : Nat) (hB : B ≤ hb) (h : W.heap[hb]? = some (.cells #[.slice none 0 0, .slice none 0 0] 41 (0, 0))) : HeldAt W B hb (.slice none 0 0) (.slice none 0 0) [] [] :=
  ⟨h, hB, World.ownsRow_nil _ _ _ _, World.ownsRow_nil _ _ _ _, fun k hk => (by cases hk), fun r hr => (by cases hr), fun r hr => (by cases hr)⟩

theorem OwnI.start (w : World) : OwnI w ((w.alloc (.cells #[.slice none 0 0, .slice none 0 0] 41)).alloc (.cells #[.slice none 0 0, .slice none 0 0] 41)) 0 := by
  refine ⟨.slice none 0 0, .slice none 0 0, [], [], .slice none 0 0, .slice none 0 0, [], [], ⟨held_new _ _ _ (Nat.le_refl _) ?_, held_new _ _ _ (by omega) ?_, by omega, fun k hk => (by cases hk), fun k hk => (by cases hk), fun k hk => (by cases hk), fun k hk => (by cases hk), by simp [blks], by simp [blks], fun k hk => (by simp [blks] at hk), rfl, rfl, fun r hr => (by cases hr), fun r hr => (by cases hr), ?_⟩, by simp, by simp⟩
  · exact heap_alloc2_old _ _ _
  · exact heap_alloc2_new _ _ _
  · exact ((Below.refl _ _).alloc (Nat.le_refl _) _).alloc (by simp) _

variable {w W : World} {hb gb : Nat} {lv wv lv2 wv2 : Value} {ls ws ls2 ws2 : List Rw}

theorem Hold.wl (h : Hold w W hb gb lv wv ls ws lv2 wv2 ls2 ws2) : ws.length = ls.length ∧ ws2.length = ls2.length :=
  ⟨by have := congrArg List.length h.e1; simpa using this, by have := congrArg List.length h.e2; simpa using this⟩

theorem add1_any (h : Hold w W hb gb lv wv ls ws lv2 wv2 ls2 ws2) (hl : ls.length ≤ 5000) (u : Value) (xs : List ByteArray) (hu : Rok W w.heap.size (u, xs)) (hx : xs.length ≤ 100) (hne : u = .slice none 0 0 ∨ xs ≠ []) (hfr : ∀ k, u.ownBlock = some k → k ∉ blks ls ∧ k ∉ blks ls2) :
    Calls Tryd.prog 21 #[.pointer (some ⟨hb, 0, none⟩), u] W fun e W' => e = .returned (.tuple #[]) ∧ ∃ lv' wv' c, Hold w W' hb gb lv' wv' (ls ++ [(u, xs)]) (ws ++ [(c, xs)]) lv2 wv2 ls2 ws2 ∧ (∀ {B n : Nat} {v : Value} {ys : List Value}, W.ownsRow B 9 1 v n ys → W'.ownsRow B 9 1 v n ys) ∧ W.heap.size ≤ W'.heap.size := by
  refine (add_any h.one h.bel.size u xs hu (by omega) hne (by omega) (by have := h.wl.1; omega)).mono ?_
  rintro e W' ⟨rfl, ha⟩
  obtain ⟨lv', wv', c, h', _, hk⟩ := h.add1 ha hfr hx
  obtain ⟨_, _, _, _, _, _, _, hch⟩ := ha
  exact ⟨rfl, lv', wv', c, h', hk, hch.size⟩

theorem add2_any (h : Hold w W hb gb lv wv ls ws lv2 wv2 ls2 ws2) (hl : ls2.length ≤ 5000) (u : Value) (xs : List ByteArray) (hu : Rok W w.heap.size (u, xs)) (hx : xs.length ≤ 100) (hne : u = .slice none 0 0 ∨ xs ≠ []) (hfr : ∀ k, u.ownBlock = some k → k ∉ blks ls ∧ k ∉ blks ws ∧ k ∉ blks ls2) :
    Calls Tryd.prog 21 #[.pointer (some ⟨gb, 0, none⟩), u] W fun e W' => e = .returned (.tuple #[]) ∧ ∃ lv' wv' c, Hold w W' hb gb lv wv ls ws lv' wv' (ls2 ++ [(u, xs)]) (ws2 ++ [(c, xs)]) ∧ (∀ {B n : Nat} {v : Value} {ys : List Value}, W.ownsRow B 9 1 v n ys → W'.ownsRow B 9 1 v n ys) ∧ W.heap.size ≤ W'.heap.size := by
  refine (add_any h.two h.bel.size u xs hu (by omega) hne (by omega) (by have := h.wl.2; omega)).mono ?_
  rintro e W' ⟨rfl, ha⟩
  obtain ⟨lv', wv', c, h', hk⟩ := h.add2 ha hfr hx
  obtain ⟨_, _, _, _, _, _, _, hch⟩ := ha
  exact ⟨rfl, lv', wv', c, h', hk, hch.size⟩

theorem rok_below {W' : World} {B B' : Nat} {r : Rw} (h : Rok W B r) (hb : Below W.heap.size W W') (hB : B' ≤ B) : Rok W' B' r :=
  owns_mono (owns_chg h (Chg.of_below hb (fun _ => False)) (fun _ _ => id)) hB

theorem rok_lst {B : Nat} {a : Option Addr} {c : Nat} {xs : List ByteArray} (h : Rok W B (.slice a xs.length c, xs)) : Lst W a xs := by
  obtain ⟨a', c', e, hl⟩ := row_form h
  simp only [Value.slice.injEq] at e
  rw [e.1]
  exact hl

theorem Hold.all_lt (h : Hold w W hb gb lv wv ls ws lv2 wv2 ls2 ws2) : (∀ k ∈ blks ls, k < W.heap.size) ∧ (∀ k ∈ blks ws, k < W.heap.size) ∧ (∀ k ∈ blks ls2, k < W.heap.size) :=
  ⟨blks_lt h.one.lrows, blks_lt h.one.wrows, blks_lt h.two.lrows⟩

/-- A row behind an append: the slice itself, and the one that was gone on from. -/
theorem prefix_kept {W' : World} {B n cap g m : Nat} {a : Option Addr} {c : Nat} {zs news : List ByteArray} (hn : zs.length = n) (h : Rok W B (.slice a n c, zs))
    (hown : W'.ownsRow B 9 1 (.slice (some ⟨g, 0, none⟩) (n + m) cap) (n + m) (zs.map Value.string ++ news.map Value.string))
    (halt : (Value.slice a n c = .slice (some ⟨g, 0, none⟩) n cap ∧ W.grownBy W' (some g)) ∨ (W.heap.size ≤ g ∧ W.grownBy W' none)) : Rok W' B (.slice a n c, zs) := by
  rcases halt with ⟨e, _⟩ | ⟨_, hg⟩
  · rw [e]
    exact Rok.of (owns_prefix (by simp [hn]) hown) hn
  · exact owns_chg h (Chg.grown hg) (fun k hk e => by cases e)
end Go.Proofs.YtblhenblibdjoabDoor
