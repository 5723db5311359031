/-
  own.go: TrieIsNew: small facts of its walk.
-/
import Derived.Test.YtbblckcjedjbcaaGreatDoorJSame
namespace Go.Proofs.YtbblckcjedjbcaaGreatDoor.J
open Go.RowKit
set_option linter.unusedVariables false
set_option linter.unusedSimpArgs false

theorem owns_empty0 (w : World) (sz : Nat) (e : TypeId) : (w.alloc (.cells #[] e)).ownsRow 0 e sz (.slice (some ⟨w.heap.size, 0, none⟩) 0 0) 0 [] :=
  ⟨by simp, .inr ⟨w.heap.size, 0, #[], rfl, Nat.zero_le _, heap_alloc_new _ _, Nat.le_refl _, Nat.zero_le _, by simp, by simp⟩⟩
theorem owns_one0 (w : World) (v : Value) (e : TypeId) : (w.alloc (.cells #[v] e)).ownsRow 0 e 1 (.slice (some ⟨w.heap.size, 0, none⟩) 1 1) 1 [v] :=
  ⟨rfl, .inr ⟨w.heap.size, 1, #[v], rfl, Nat.zero_le _, heap_alloc_new _ _, Nat.le_refl _, by unfold maxLen; omega, rfl, rfl⟩⟩
theorem snoc_len {α β : Type} {l : List α} {m : List β} (x : α) (h : m.length = l.length) : (l ++ [x])[m.length]? = some x := by rw [h]; exact snoc_at l x
/-- A copy lies in new memory. -/
theorem copy_new {w7 w8 : World} {T : TypeId} {v8 : Value} (hc : Chg (w7.alloc (.cells #[] T)) w8 (fun j => (Value.slice (some ⟨w7.heap.size, 0, none⟩) 0 0).ownBlock = some j)) (hn : ∀ j, v8.ownBlock = some j → (Value.slice (some ⟨w7.heap.size, 0, none⟩) 0 0).ownBlock = some j ∨ (w7.alloc (.cells #[] T)).heap.size ≤ j) :
    Below w7.heap.size w7 w8 ∧ ∀ j, v8.ownBlock = some j → w7.heap.size ≤ j := by
  have h0 : Chg w7 (w7.alloc (.cells #[] T)) (fun _ => False) := Chg.alloc w7 _ _
  have h1 : Chg w7 w8 (fun _ => False) := chg_more h0 hc (fun j hj => .inr (by cases hj; exact Nat.le_refl _))
  refine ⟨h1.below (Nat.le_refl _) (fun _ _ e => e.elim), fun j hj => ?_⟩
  rcases hn j hj with e | e
  · cases e; exact Nat.le_refl _
  · rw [World.size_alloc] at e; omega
/-- The book's box, behind a head that has grown. -/
theorem box_grown {w5 w6 : World} {B g c n : Nat} {T tH : Nat} {hv x0 x1 x2 x3 u : Value} {us : List Value} (hb : w5.heap[B]? = some (.cells #[x0, x1, x2, x3] 60 (0, 0))) (hr : w5.ownsRow 0 tH 1 hv us.length us) (hT : tH ≠ 60)
    (hal : (hv = .slice (some ⟨g, 0, none⟩) n c ∧ (w5.alloc (.cells #[u] T)).grownBy w6 (some g)) ∨ ((w5.alloc (.cells #[u] T)).heap.size ≤ g ∧ (w5.alloc (.cells #[u] T)).grownBy w6 none)) :
    w6.heap[B]? = some (.cells #[x0, x1, x2, x3] 60 (0, 0)) := by
  have h9 := new_old hb (.cells #[u] T)
  rcases hal with ⟨e, hg3⟩ | ⟨_, hg3⟩
  · rw [hg3.block B (lt_of_blk h9) (fun e' => by cases e'; exact kind_box hr (by rw [e]; rfl) hb hT rfl)]
    exact h9
  · rw [hg3.block B (lt_of_blk h9) (fun e' => by cases e')]
    exact h9
theorem Gd.lt {w : World} {B : Nat} {hv hn gv gn : Value} {us ms gs gm : List Value} {ls : List (List (El 2))} {ns : List (List (El 4))} {L1 L2 : List Nat} (h : Gd w B hv hn gv gn us ms gs gm ls ns L1 L2) : ∀ j, GdB B hv hn gv gn us ms gs gm j → j < w.heap.size := by
  have hrs : ∀ {tH T sz : Nat} {mk : Int → El sz} {gv : Value} {gs : List Value} {ls : List (List (El sz))}, Rs w tH T sz mk gv gs ls → gs.length ≤ ls.length → ∀ j, RsB gv gs j → j < w.heap.size := by
    intro tH T sz mk gv gs ls hR hl j hj
    rcases hj with hj | ⟨k, u, hu, hb⟩
    · exact (row_block hR.gr j hj).2
    · have hk := (List.getElem?_eq_some_iff.1 hu).1
      exact (row_block (hR.rd k u _ hu (List.getElem?_eq_getElem (show k < ls.length by omega))) j hb).2
  rintro j (hj | hj | hj | hj | hj | hj | hj)
  · rw [hj]; exact lt_of_blk h.bo.box
  · exact (row_block h.bo.hr j hj).2
  · exact (row_block h.bo.nr j hj).2
  · exact h.bo.fu.lt hj
  · exact h.bo.fm.lt hj
  · exact hrs h.rv (by rw [h.gl, h.bo.fu.len]; exact Nat.le_refl _) j hj
  · exact hrs h.rn (by rw [h.ml, h.bo.fm.len]; exact Nat.le_refl _) j hj
/-- Lists of tags that were asked for. -/
theorem Fam.tags {w : World} {us : List Value} {Ms : List (List Tg)} (h : Fam w 34 2 us (TL Ms)) {k : Nat} {u : Value} {l : List Tg} (hu : us[k]? = some u) (hl : Ms[k]? = some l) : TsAt w u l := by
  have h1 := h.row k u (l.map elT) hu (by rw [List.getElem?_map, hl]; rfl)
  rw [fl_elT, List.length_map] at h1
  exact h1
theorem Fam.was {w : World} {us : List Value} {Gs : List (List Wa)} (h : Fam w 40 4 us (WL Gs)) {k : Nat} {u : Value} {l : List Wa} (hu : us[k]? = some u) (hl : Gs[k]? = some l) : w.ownsRow 0 40 4 u l.length (waCs l) := by
  have h1 := h.row k u (l.map elW) hu (by rw [List.getElem?_map, hl]; rfl)
  rw [fl_elW, List.length_map] at h1
  exact h1
theorem Qn.oneT {V w : World} {B : Nat} {hv hn tv wv : Value} {us ms cs ds : List Value} {Ms : List (List Tg)} {Gs : List (List Wa)} {l : List Tg} (h : Ak V w B hv hn us ms (TL Ms ++ [l.map elT]) (WL Gs) tv wv cs ds (TL Ms ++ [l.map elT]) (WL Gs)) : Qn V w B tv wv (Ms ++ [l]) Gs := by
  refine ⟨hv, hn, us, ms, cs, ds, ?_⟩
  rw [show TL (Ms ++ [l]) = TL Ms ++ [l.map elT] by simp [TL]]
  exact h
theorem Qn.oneW {V w : World} {B : Nat} {hv hn tv wv : Value} {us ms cs ds : List Value} {Ms : List (List Tg)} {Gs : List (List Wa)} {l : List Wa} (h : Ak V w B hv hn us ms (TL Ms) (WL Gs ++ [l.map elW]) tv wv cs ds (TL Ms) (WL Gs ++ [l.map elW])) : Qn V w B tv wv Ms (Gs ++ [l]) := by
  refine ⟨hv, hn, us, ms, cs, ds, ?_⟩
  rw [show WL (Gs ++ [l]) = WL Gs ++ [l.map elW] by simp [WL]]
  exact h
theorem MF_mem {α : Type} {F : List α} {k i : Nat} {P : α → Prop} (h : ∀ x ∈ F, P x) : ∀ x ∈ MF F k i, P x := fun x hx => by
  unfold MF at hx
  rcases List.mem_append.1 hx with hx | hx
  · obtain ⟨l, hl, hx⟩ := List.mem_flatten.1 hx
    rw [(List.mem_replicate.1 hl).2] at hx
    exact h x hx
  · exact h x (List.mem_of_mem_take hx)
end Go.Proofs.YtbblckcjedjbcaaGreatDoor.J
