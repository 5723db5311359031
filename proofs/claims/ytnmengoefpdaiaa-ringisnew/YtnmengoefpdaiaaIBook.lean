/-
  own.go: one more list in the book.
-/
import Derived.Test.YtnmengoefpdaiaaIApart
namespace Go.Proofs.Ytnmengoefpdaiaa.I
open Go.RowKit
set_option linter.unusedVariables false
set_option linter.unusedSimpArgs false

theorem Bo.pushV {w w2 w3 : World} {B g3 c3 : Nat} {hv hn m1 m2 u : Value} {us ms : List Value} {ls : List (List (El 5))} {ns : List (List (El 6))} {l : List (El 5)} (h : Bo w B hv hn m1 m2 us ms ls ns) (hr : w.ownsRow 0 49 5 u l.length (fl l)) (hne : ∀ b, u.ownBlock = some b → ¬ FamB us b) (hb : Below w.heap.size w w2)
    (h3 : w3.ownsRow 0 36 1 (.slice (some ⟨g3, 0, none⟩) (us.length + 1) c3) (us.length + 1) (us ++ [u])) (hal : (hv = .slice (some ⟨g3, 0, none⟩) us.length c3 ∧ w2.grownBy w3 (some g3)) ∨ (w2.heap.size ≤ g3 ∧ w2.grownBy w3 none)) :
    Bo (w3.setCell ⟨B, 0, none⟩ (.slice (some ⟨g3, 0, none⟩) (us.length + 1) c3)) B (.slice (some ⟨g3, 0, none⟩) (us.length + 1) c3) hn m1 m2 (us ++ [u]) ms (ls ++ [l]) ns ∧ Chg w (w3.setCell ⟨B, 0, none⟩ (.slice (some ⟨g3, 0, none⟩) (us.length + 1) c3)) (fun b => b = B ∨ hv.ownBlock = some b) := by
  have h2 := h.on hb
  obtain ⟨row, hg, hrow⟩ : ∃ row, w2.grownBy w3 row ∧ ∀ b, row = some b → hv.ownBlock = some b := by
    rcases hal with ⟨e, hg3⟩ | ⟨_, hg3⟩
    · exact ⟨_, hg3, fun b hb => by cases hb; rw [e]; rfl⟩
    · exact ⟨_, hg3, fun b hb => by cases hb⟩
  have hc : Chg w2 w3 (fun b => row = some b) := Chg.grown hg
  have hB : w3.heap[B]? = some (.cells #[hv, m1, hn, m2] 44 (0, 0)) := by rw [hc.block B (lt_of_blk h2.box) (fun e' => kind_box h2.hr (hrow B e') h2.box (by decide) rfl)]; exact h2.box
  have keep : ∀ {T sz n : Nat} {v : Value} {xs : List Value}, w2.ownsRow 0 T sz v n xs → T ≠ 44 → T ≠ 36 → (w3.setCell ⟨B, 0, none⟩ (.slice (some ⟨g3, 0, none⟩) (us.length + 1) c3)).ownsRow 0 T sz v n xs := fun {T sz n v xs} hr hT hT2 => owns_same hr (fun b hb' => by
    rw [Below.heap_setCell _ _ _ b (kind_box hr hb' h2.box hT), hc.block b (row_block hr b hb').2 (fun e' => kind_ne2 hr h2.hr hb' (hrow b e') hT2)])
  have hnew := keep (owns_below hr hb) (by decide) (by decide)
  have hf : Fam (w3.setCell ⟨B, 0, none⟩ (.slice (some ⟨g3, 0, none⟩) (us.length + 1) c3)) 49 5 us ls := ⟨h2.fu.len, fun k v m hv' hm => keep (h2.fu.row k v m hv' hm) (by decide) (by decide), h2.fu.nd⟩
  have hlen : (us ++ [u]).length = us.length + 1 := by simp
  have k3 : (w3.setCell ⟨B, 0, none⟩ (.slice (some ⟨g3, 0, none⟩) (us.length + 1) c3)).ownsRow 0 36 1 (.slice (some ⟨g3, 0, none⟩) (us.length + 1) c3) (us ++ [u]).length (us ++ [u]) := by
    rw [hlen]
    exact owns_same h3 (fun b hb' => Below.heap_setCell _ _ _ b (kind_box h3 hb' hB (by decide)))
  refine ⟨⟨same_blk hB rfl, k3, keep h2.nr (by decide) (by decide), hf.push hnew hne, ⟨h2.fm.len, fun k v m hv' hm => keep (h2.fm.row k v m hv' hm) (by decide) (by decide), h2.fm.nd⟩⟩, ?_⟩
  exact chg_more (chg_more (Chg.of_below hb _) hc (fun j hj => .inl (.inr (hrow j hj)))) (Chg.set _ _ _) (fun j hj => .inl (.inl hj))
theorem Bo.pushN {w w2 w3 : World} {B g3 c3 : Nat} {hv hn m1 m2 u : Value} {us ms : List Value} {ls : List (List (El 5))} {ns : List (List (El 6))} {l : List (El 6)} (h : Bo w B hv hn m1 m2 us ms ls ns) (hr : w.ownsRow 0 38 6 u l.length (fl l)) (hne : ∀ b, u.ownBlock = some b → ¬ FamB ms b) (hb : Below w.heap.size w w2)
    (h3 : w3.ownsRow 0 27 1 (.slice (some ⟨g3, 0, none⟩) (ms.length + 1) c3) (ms.length + 1) (ms ++ [u])) (hal : (hn = .slice (some ⟨g3, 0, none⟩) ms.length c3 ∧ w2.grownBy w3 (some g3)) ∨ (w2.heap.size ≤ g3 ∧ w2.grownBy w3 none)) :
    Bo (w3.setCell ⟨B, 2, none⟩ (.slice (some ⟨g3, 0, none⟩) (ms.length + 1) c3)) B hv (.slice (some ⟨g3, 0, none⟩) (ms.length + 1) c3) m1 m2 us (ms ++ [u]) ls (ns ++ [l]) ∧ Chg w (w3.setCell ⟨B, 2, none⟩ (.slice (some ⟨g3, 0, none⟩) (ms.length + 1) c3)) (fun b => b = B ∨ hn.ownBlock = some b) := by
  have h2 := h.on hb
  obtain ⟨row, hg, hrow⟩ : ∃ row, w2.grownBy w3 row ∧ ∀ b, row = some b → hn.ownBlock = some b := by
    rcases hal with ⟨e, hg3⟩ | ⟨_, hg3⟩
    · exact ⟨_, hg3, fun b hb => by cases hb; rw [e]; rfl⟩
    · exact ⟨_, hg3, fun b hb => by cases hb⟩
  have hc : Chg w2 w3 (fun b => row = some b) := Chg.grown hg
  have hB : w3.heap[B]? = some (.cells #[hv, m1, hn, m2] 44 (0, 0)) := by rw [hc.block B (lt_of_blk h2.box) (fun e' => kind_box h2.nr (hrow B e') h2.box (by decide) rfl)]; exact h2.box
  have keep : ∀ {T sz n : Nat} {v : Value} {xs : List Value}, w2.ownsRow 0 T sz v n xs → T ≠ 44 → T ≠ 27 → (w3.setCell ⟨B, 2, none⟩ (.slice (some ⟨g3, 0, none⟩) (ms.length + 1) c3)).ownsRow 0 T sz v n xs := fun {T sz n v xs} hr hT hT2 => owns_same hr (fun b hb' => by
    rw [Below.heap_setCell _ _ _ b (kind_box hr hb' h2.box hT), hc.block b (row_block hr b hb').2 (fun e' => kind_ne2 hr h2.nr hb' (hrow b e') hT2)])
  have hnew := keep (owns_below hr hb) (by decide) (by decide)
  have hf : Fam (w3.setCell ⟨B, 2, none⟩ (.slice (some ⟨g3, 0, none⟩) (ms.length + 1) c3)) 38 6 ms ns := ⟨h2.fm.len, fun k v m hv' hm => keep (h2.fm.row k v m hv' hm) (by decide) (by decide), h2.fm.nd⟩
  have hlen : (ms ++ [u]).length = ms.length + 1 := by simp
  have k3 : (w3.setCell ⟨B, 2, none⟩ (.slice (some ⟨g3, 0, none⟩) (ms.length + 1) c3)).ownsRow 0 27 1 (.slice (some ⟨g3, 0, none⟩) (ms.length + 1) c3) (ms ++ [u]).length (ms ++ [u]) := by
    rw [hlen]
    exact owns_same h3 (fun b hb' => Below.heap_setCell _ _ _ b (kind_box h3 hb' hB (by decide)))
  refine ⟨⟨same_blk hB rfl, keep h2.hr (by decide) (by decide), k3, ⟨h2.fu.len, fun k v m hv' hm => keep (h2.fu.row k v m hv' hm) (by decide) (by decide), h2.fu.nd⟩, hf.push hnew hne⟩, ?_⟩
  exact chg_more (chg_more (Chg.of_below hb _) hc (fun j hj => .inl (.inr (hrow j hj)))) (Chg.set _ _ _) (fun j hj => .inl (.inl hj))
end Go.Proofs.Ytnmengoefpdaiaa.I
