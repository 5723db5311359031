import Derived.Test.YtbblckcjedjbcaaGreatDoorJSame
import Derived.Test.YtbblckcjedjbcaaGreatDoorJRow
import Derived.Test.YtbblckcjedjbcaaGreatDoorXTrie
import Derived.Test.YtbblckcjedjbcaaGreatDoorRefParse
import Derived.Test.YtbblckcjedjbcaaGreatDoorXBegins
namespace Go.Proofs.YtbblckcjedjbcaaGreatDoor.J
open Go.RowKit
set_option linter.unusedVariables false
set_option linter.unusedSimpArgs false

theorem owns_empty0 (w : World) (sz : Nat) (e : TypeId) : (w.alloc (.cells #[] e)).ownsRow 0 e sz (.slice (some ⟨w.heap.size, 0, none⟩) 0 0) 0 [] :=
  ⟨by simp, .inr ⟨w.heap.size, 0, #[], rfl, Nat.zero_le _, heap_alloc_new _ _, Nat.le_refl _, Nat.zero_le _, by simp, by simp⟩⟩
theorem owns_one0 (w : World) (v : Value) (e : TypeId) : (w.alloc (.cells #[v] e)).ownsRow 0 e 1 (.slice (some ⟨w.heap.size, 0, none⟩) 1 1) 1 [v] :=
  ⟨rfl, .inr ⟨w.heap.size, 1, #[v], rfl, Nat.zero_le _, heap_alloc_new _ _, Nat.le_refl _, by unfold maxLen; omega, rfl, rfl⟩⟩
theorem snoc_len {α β : Type} {l : List α} {m : List β} (x : α) (h : m.length = l.length) : (l ++ [x])[m.length]? = some x := by rw [h]; exact snoc_at l x
/-- A copy lies in new memory. -/
theorem copy_new {w7 w8 : World} {T : TypeId} {v8 : Value} (hc : Chg (w7.alloc (.cells #[] T)) w8 (fun j => (Value.slice (some ⟨w7.heap.size, 0, none⟩) 0 0).ownBlock = some j)) (hn : ∀ j, v8.ownBlock = some j → (Value.slice (some ⟨w7.heap.size, 0, none⟩) 0 0).ownBlock = some j ∨ (w7.alloc (.cells #[] T)).heap.size ≤ j) :
    Below w7.heap.size w7 w8 ∧ ∀ j, v8.ownBlock = some j → w7.heap.size ≤ j := by
  have h0 : Chg w7 (w7.alloc (.cells #[] T)) (fun _ => False) := Chg.alloc w7 _ _
  have h1 : Chg w7 w8 (fun _ => False) := chg_more h0 hc (fun j hj => .inr (by cases hj; exact Nat.le_refl _))
  refine ⟨h1.below (Nat.le_refl _) (fun _ _ e => e.elim), fun j hj => ?_⟩
  rcases hn j hj with e | e
  · cases e; exact Nat.le_refl _
  · rw [World.size_alloc] at e; omega
/-- The book's box, behind a head that has grown. -/
theorem box_grown {w5 w6 : World} {B g c n : Nat} {T tH : Nat} {hv x0 x1 x2 x3 u : Value} {us : List Value} (hb : w5.heap[B]? = some (.cells #[x0, x1, x2, x3] 60 (0, 0))) (hr : w5.ownsRow 0 tH 1 hv us.length us) (hT : tH ≠ 60)
    (hal : (hv = .slice (some ⟨g, 0, none⟩) n c ∧ (w5.alloc (.cells #[u] T)).grownBy w6 (some g)) ∨ ((w5.alloc (.cells #[u] T)).heap.size ≤ g ∧ (w5.alloc (.cells #[u] T)).grownBy w6 none)) :
    w6.heap[B]? = some (.cells #[x0, x1, x2, x3] 60 (0, 0)) := by
  have h9 := new_old hb (.cells #[u] T)
  rcases hal with ⟨e, hg3⟩ | ⟨_, hg3⟩
  · rw [hg3.block B (lt_of_blk h9) (fun e' => by cases e'; exact kind_box hr (by rw [e]; rfl) hb hT rfl)]
    exact h9
  · rw [hg3.block B (lt_of_blk h9) (fun e' => by cases e')]
    exact h9
theorem Gd.lt {w : World} {B : Nat} {hv hn gv gn : Value} {us ms gs gm : List Value} {ls : List (List (El 2))} {ns : List (List (El 4))} {L1 L2 : List Nat} (h : Gd w B hv hn gv gn us ms gs gm ls ns L1 L2) : ∀ j, GdB B hv hn gv gn us ms gs gm j → j < w.heap.size := by
  have hrs : ∀ {tH T sz : Nat} {mk : Int → El sz} {gv : Value} {gs : List Value} {ls : List (List (El sz))}, Rs w tH T sz mk gv gs ls → gs.length ≤ ls.length → ∀ j, RsB gv gs j → j < w.heap.size := by
    intro tH T sz mk gv gs ls hR hl j hj
    rcases hj with hj | ⟨k, u, hu, hb⟩
    · exact (row_block hR.gr j hj).2
    · have hk := (List.getElem?_eq_some_iff.1 hu).1
      exact (row_block (hR.rd k u _ hu (List.getElem?_eq_getElem (show k < ls.length by omega))) j hb).2
  rintro j (hj | hj | hj | hj | hj | hj | hj)
  · rw [hj]; exact lt_of_blk h.bo.box
  · exact (row_block h.bo.hr j hj).2
  · exact (row_block h.bo.nr j hj).2
  · exact h.bo.fu.lt hj
  · exact h.bo.fm.lt hj
  · exact hrs h.rv (by rw [h.gl, h.bo.fu.len]; exact Nat.le_refl _) j hj
  · exact hrs h.rn (by rw [h.ml, h.bo.fm.len]; exact Nat.le_refl _) j hj
/-- Lists of tags that were asked for. -/
theorem Fam.tags {w : World} {us : List Value} {Ms : List (List Tg)} (h : Fam w 34 2 us (TL Ms)) {k : Nat} {u : Value} {l : List Tg} (hu : us[k]? = some u) (hl : Ms[k]? = some l) : TsAt w u l := by
  have h1 := h.row k u (l.map elT) hu (by rw [List.getElem?_map, hl]; rfl)
  rw [fl_elT, List.length_map] at h1
  exact h1
theorem Fam.was {w : World} {us : List Value} {Gs : List (List Wa)} (h : Fam w 40 4 us (WL Gs)) {k : Nat} {u : Value} {l : List Wa} (hu : us[k]? = some u) (hl : Gs[k]? = some l) : w.ownsRow 0 40 4 u l.length (waCs l) := by
  have h1 := h.row k u (l.map elW) hu (by rw [List.getElem?_map, hl]; rfl)
  rw [fl_elW, List.length_map] at h1
  exact h1
theorem Qn.oneT {V w : World} {B : Nat} {hv hn tv wv : Value} {us ms cs ds : List Value} {Ms : List (List Tg)} {Gs : List (List Wa)} {l : List Tg} (h : Ak V w B hv hn us ms (TL Ms ++ [l.map elT]) (WL Gs) tv wv cs ds (TL Ms ++ [l.map elT]) (WL Gs)) : Qn V w B tv wv (Ms ++ [l]) Gs := by
  refine ⟨hv, hn, us, ms, cs, ds, ?_⟩
  rw [show TL (Ms ++ [l]) = TL Ms ++ [l.map elT] by simp [TL]]
  exact h
theorem Qn.oneW {V w : World} {B : Nat} {hv hn tv wv : Value} {us ms cs ds : List Value} {Ms : List (List Tg)} {Gs : List (List Wa)} {l : List Wa} (h : Ak V w B hv hn us ms (TL Ms) (WL Gs ++ [l.map elW]) tv wv cs ds (TL Ms) (WL Gs ++ [l.map elW])) : Qn V w B tv wv Ms (Gs ++ [l]) := by
  refine ⟨hv, hn, us, ms, cs, ds, ?_⟩
  rw [show WL (Gs ++ [l]) = WL Gs ++ [l.map elW] by simp [WL]]
  exact h
theorem MF_mem {α : Type} {F : List α} {k i : Nat} {P : α → Prop} (h : ∀ x ∈ F, P x) : ∀ x ∈ MF F k i, P x := fun x hx => by
  unfold MF at hx
  rcases List.mem_append.1 hx with hx | hx
  · obtain ⟨l, hl, hx⟩ := List.mem_flatten.1 hx
    rw [(List.mem_replicate.1 hl).2] at hx
    exact h x hx
  · exact h x (List.mem_of_mem_take hx)
end Go.Proofs.YtbblckcjedjbcaaGreatDoor.J
namespace Go.Proofs.YtbblckcjedjbcaaGreatDoor.J
open Go.RowKit Go.Maps
set_option linter.unusedVariables false
set_option linter.unusedSimpArgs false

abbrev xN : Value := .agg #[.bool true, .slice none 0 0]
abbrev xNb (w : World) (g : Nat) : Prop := w.heap[g]? = some (.cells #[.bool true, .slice none 0 0] 69 (0, 0))
theorem fill2 {w : World} {g : Nat} {x0 x1 y0 y1 : Value} {t : TypeId} (h : w.heap[g]? = some (.cells #[y0, y1] t (0, 0))) : ((w.setCell ⟨g, 0, none⟩ x0).setCell ⟨g, 1, none⟩ x1).heap[g]? = some (.cells #[x0, x1] t (0, 0)) :=
  same_blk (same_blk h rfl) rfl
set_option maxHeartbeats 3200000 in
theorem find0 (s i : Int) (w : World) : Calls Tryz.prog 76 #[xN, .int .i64 s, .int .i64 i] w fun e w' => e = .returned (.int .i64 (-1)) ∧ Below w.heap.size w w' := by
  obtain ⟨c0, c1⟩ := cells_2 (heap_alloc_new w (.cells #[.bool true, .slice none 0 0] 69))
  have HB : Hid (Below w.heap.size w (w.alloc (.cells #[.bool true, .slice none 0 0] 69))) := (Below.refl _ _).alloc (Nat.le_refl _) _
  go_enter Tryz.func76, Tryz.ntmps76
  go_wp2_with fail
  go_loopw [7] (fun iv wr => iv = .int .i64 0 ∧ wr = w.alloc (.cells #[.bool true, .slice none 0 0] 69)) (fun iv _ => 1 - (intOf iv).toNat)
  case atStart => exact ⟨rfl, rfl⟩
  case round =>
    obtain ⟨rfl, rfl⟩ := hrel
    go_wp2_with fail
    go_ret
    exact ⟨rfl, HB.out⟩
set_option maxHeartbeats 3200000 in
theorem of0 (s : Int) (w : World) : Calls Tryz.prog 53 #[xN, .int .i64 s] w fun e w' => e = .returned (.slice none 0 0) ∧ Below w.heap.size w w' := by
  obtain ⟨c0, c1⟩ := cells_2 (heap_alloc_new w (.cells #[.bool true, .slice none 0 0] 69))
  have HB : Hid (Below w.heap.size w (w.alloc (.cells #[.bool true, .slice none 0 0] 69))) := (Below.refl _ _).alloc (Nat.le_refl _) _
  go_enter Tryz.func53, Tryz.ntmps53
  go_wp2_with fail
  go_loopw [5, 6] (fun lv iv wr => lv = .slice none 0 0 ∧ iv = .int .i64 0 ∧ wr = w.alloc (.cells #[.bool true, .slice none 0 0] 69)) (fun _ iv _ => 1 - (intOf iv).toNat)
  case atStart => exact ⟨rfl, rfl, rfl⟩
  case round =>
    obtain ⟨rfl, rfl, rfl⟩ := hrel
    go_wp2_with fail
    go_ret
    exact ⟨rfl, HB.out⟩
set_option maxHeartbeats 3200000 in
theorem match0 (stamp ck : Int) (cp cd : ByteArray) (cv : Int) (w : World) : Calls Tryz.prog 52 #[xN, .int .i64 stamp, chV ck cp cd cv] w fun e w' => e = .returned (.slice none 0 0) ∧ Below w.heap.size w w' := by
  obtain ⟨wb, hwb⟩ : ∃ wb, (w.alloc (.cells #[.bool true, .slice none 0 0] 69)).alloc (.cells #[.int .i64 ck, .string cp, .string cd, .int .i64 cv] 24) = wb := ⟨_, rfl⟩
  have HB : Hid (Below w.heap.size w wb) := by rw [← hwb]; exact ((Below.refl _ _).alloc (Nat.le_refl _) _).alloc (by simp) _
  obtain ⟨c0, c1⟩ := cells_2 (show wb.heap[w.heap.size]? = some (.cells #[.bool true, .slice none 0 0] 69 (0, 0)) by rw [← hwb]; exact new_old (heap_alloc_new _ _) _)
  have HW : Hid ((w.alloc (.cells #[.bool true, .slice none 0 0] 69)).alloc (.cells #[.int .i64 ck, .string cp, .string cd, .int .i64 cv] 24) = wb) := hwb
  clear hwb
  go_enter Tryz.func52, Tryz.ntmps52
  go_wp2_with fail
  rw [HW.out]
  go_loopw [7, 8] (fun lv iv wr => lv = .slice none 0 0 ∧ iv = .int .i64 0 ∧ wr = wb) (fun _ iv _ => 1 - (intOf iv).toNat)
  case atStart => exact ⟨rfl, rfl, rfl⟩
  case round =>
    obtain ⟨rfl, rfl, rfl⟩ := hrel
    go_wp2_with fail
    go_ret
    exact ⟨rfl, HB.out⟩
set_option maxHeartbeats 3200000 in
theorem size0 (w : World) : Calls Tryz.prog 54 #[xN] w fun e w' => e = .returned (.int .i64 0) ∧ Below w.heap.size w w' := by
  obtain ⟨c0, c1⟩ := cells_2 (heap_alloc_new w (.cells #[.bool true, .slice none 0 0] 69))
  have HB : Hid (Below w.heap.size w (w.alloc (.cells #[.bool true, .slice none 0 0] 69))) := (Below.refl _ _).alloc (Nat.le_refl _) _
  go_enter Tryz.func54, Tryz.ntmps54
  go_wp2_with fail
  go_ret
  exact ⟨rfl, HB.out⟩
set_option maxHeartbeats 3200000 in
theorem walk0 (w : World) : Calls Tryz.prog 55 #[xN] w fun e w' => e = .returned (.slice none 0 0) ∧ Below w.heap.size w w' := by
  obtain ⟨c0, c1⟩ := cells_2 (heap_alloc_new w (.cells #[.bool true, .slice none 0 0] 69))
  have HB : Hid (Below w.heap.size w (w.alloc (.cells #[.bool true, .slice none 0 0] 69))) := (Below.refl _ _).alloc (Nat.le_refl _) _
  go_enter Tryz.func55, Tryz.ntmps55
  go_wp2_with fail
  go_loopw [3, 4] (fun lv iv wr => lv = .slice none 0 0 ∧ iv = .int .i64 0 ∧ wr = w.alloc (.cells #[.bool true, .slice none 0 0] 69)) (fun _ iv _ => 1 - (intOf iv).toNat)
  case atStart => exact ⟨rfl, rfl, rfl⟩
  case round =>
    obtain ⟨rfl, rfl, rfl⟩ := hrel
    go_wp2_with fail
    go_ret
    exact ⟨rfl, HB.out⟩
set_option maxHeartbeats 3200000 in
theorem forget0 (s : Int) (w : World) : Calls Tryz.prog 51 #[xN, .int .i64 s] w fun e w' => e = .returned (.tuple #[xN, .int .i64 0]) ∧ Below w.heap.size w w' := by
  obtain ⟨wb, hwb⟩ : ∃ wb, (w.alloc (.cells #[.bool true, .slice none 0 0] 69)).alloc (.cells #[.bool false, .slice none 0 0] 69) = wb := ⟨_, rfl⟩
  have HB : Hid (Below w.heap.size w wb) := by rw [← hwb]; exact ((Below.refl _ _).alloc (Nat.le_refl _) _).alloc (by simp) _
  have hb0 : wb.heap[w.heap.size]? = some (.cells #[.bool true, .slice none 0 0] 69 (0, 0)) := by rw [← hwb]; exact new_old (heap_alloc_new _ _) _
  have HB1 : Hid (wb.heap[w.heap.size + 1]? = some (.cells #[.bool false, .slice none 0 0] 69 (0, 0))) := by show _ = _; rw [← hwb]; exact heap_new' (by simp)
  obtain ⟨c0, c1⟩ := cells_2 hb0
  obtain ⟨d0, d1⟩ := cells_2 HB1.out
  have fd := free_of HB1.out
  have HW : Hid ((w.alloc (.cells #[.bool true, .slice none 0 0] 69)).alloc (.cells #[.bool false, .slice none 0 0] 69) = wb) := hwb
  clear hwb hb0
  go_enter Tryz.func51, Tryz.ntmps51
  go_wp2_with fail
  rw [HW.out]
  go_loopw [6, 7] (fun lv iv wr => lv = .slice none 0 0 ∧ iv = .int .i64 0 ∧ wr = wb) (fun _ iv _ => 1 - (intOf iv).toNat)
  case atStart => exact ⟨rfl, rfl, rfl⟩
  case round =>
    obtain ⟨rfl, rfl, rfl⟩ := hrel
    go_wp2_with fail
    exact bodyPost_ret (results_cell_tmp rfl _ _ (w.heap.size + 1) 69 _ (0, 0) _ _ rfl rfl (fill2 HB1.out) Tryz.underlying69 rfl (by kernel_rfl)) rfl ⟨rfl, (HB.out.setCell (Nat.le_succ _) _).setCell (Nat.le_succ _) _⟩
set_option maxHeartbeats 3200000 in
theorem drop0 (s i : Int) (w : World) : Calls Tryz.prog 50 #[xN, .int .i64 s, .int .i64 i] w fun e w' => e = .returned (.tuple #[xN, .int .i64 90]) ∧ Below w.heap.size w w' := by
  obtain ⟨wb, hwb⟩ : ∃ wb, (w.alloc (.cells #[.bool true, .slice none 0 0] 69)).alloc (.cells #[.bool false, .slice none 0 0] 69) = wb := ⟨_, rfl⟩
  have HB : Hid (Below w.heap.size w wb) := by rw [← hwb]; exact ((Below.refl _ _).alloc (Nat.le_refl _) _).alloc (by simp) _
  have HB0 : Hid (wb.heap[w.heap.size]? = some (.cells #[.bool true, .slice none 0 0] 69 (0, 0))) := by show _ = _; rw [← hwb]; exact new_old (heap_alloc_new _ _) _
  have HB1 : Hid (wb.heap[w.heap.size + 1]? = some (.cells #[.bool false, .slice none 0 0] 69 (0, 0))) := by show _ = _; rw [← hwb]; exact heap_new' (by simp)
  obtain ⟨c0, c1⟩ := cells_2 HB0.out
  have HF : Hid (∀ W, _) := fun W => find0 s i W
  have HW : Hid ((w.alloc (.cells #[.bool true, .slice none 0 0] 69)).alloc (.cells #[.bool false, .slice none 0 0] 69) = wb) := hwb
  go_enter Tryz.func50, Tryz.ntmps50
  rw [← hwb] at c0 c1
  clear hwb
  go_wp2_with (first
    | (go_at_call 76; rw [HW.out]; refine Calls.mono (HF.out _) ?_; rintro e w1 ⟨rfl, hb1⟩
       have H1 : Hid (Below w.heap.size w w1) := xtrans2 HB.out hb1
       have hb10 := kept_block hb1 HB0.out
       have HB11 : Hid (w1.heap[w.heap.size + 1]? = _) := kept_block hb1 HB1.out
       clear c0 c1 hb1
       obtain ⟨c0, c1⟩ := cells_2 hb10
       obtain ⟨d0, d1⟩ := cells_2 HB11.out
       have fd := free_of HB11.out
       clear hb10)
    | fail)
  exact bodyPost_ret (results_cell_tmp rfl _ _ (w.heap.size + 1) 69 _ (0, 0) _ _ rfl rfl (fill2 HB11.out) Tryz.underlying69 rfl (by kernel_rfl)) rfl ⟨rfl, (H1.out.setCell (Nat.le_succ _) _).setCell (Nat.le_succ _) _⟩
end Go.Proofs.YtbblckcjedjbcaaGreatDoor.J
namespace Go.Proofs.YtbblckcjedjbcaaGreatDoor.J
open Go.RowKit Go.Maps
set_option linter.unusedVariables false
set_option linter.unusedSimpArgs false

theorem cells_keep {w w' : World} {B b : Nat} {cs : Array Value} {t : TypeId} (h : Below B w w') (hb : b < B) (hc : w.heap[b]? = some (.cells cs t (0, 0))) : w'.heap[b]? = some (.cells cs t (0, 0)) := by
  rw [h.block b hb]; exact hc
set_option maxHeartbeats 16000000 in
set_option maxRecDepth 100000 in
theorem add0 (s i : Int) (p : ByteArray) (k f : Int) (w : World) :
    Calls Tryz.prog 49 #[xN, .int .i64 s, watV i p k f] w fun e w' => e = .returned (.tuple #[xN, .int .i64 (mayL [] true s i p k f)]) ∧ Below w.heap.size w w' := by
  obtain ⟨wb, hwb⟩ : ∃ wb, ((w.alloc (.cells #[.bool true, .slice none 0 0] 69)).alloc (.cells #[.int .i64 i, .string p, .int .i64 k, .int .i64 f] 40)).alloc (.cells #[.bool false, .slice none 0 0] 69) = wb := ⟨_, rfl⟩
  have hB : Below w.heap.size w wb := by rw [← hwb]; exact (((Below.refl _ _).alloc (Nat.le_refl _) _).alloc (by simp) _).alloc (by simp; omega) _
  have hB0 : wb.heap[w.heap.size]? = some (.cells #[.bool true, .slice none 0 0] 69 (0, 0)) := by rw [← hwb]; exact new_old (new_old (heap_alloc_new _ _) _) _
  have hB1 : wb.heap[w.heap.size + 1]? = some (.cells #[.int .i64 i, .string p, .int .i64 k, .int .i64 f] 40 (0, 0)) := by rw [← hwb]; exact new_old (heap_new' (by simp)) _
  have hB2 : wb.heap[w.heap.size + 2]? = some (.cells #[.bool false, .slice none 0 0] 69 (0, 0)) := by rw [← hwb]; exact heap_new' (by simp)
  obtain ⟨c0, c1⟩ := cells_2 hB0
  obtain ⟨b0, b1, b2, b3⟩ := cells_4 hB1
  obtain ⟨d0, d1⟩ := cells_2 hB2
  have fd := free_of hB2
  have HB : Hid _ := hB
  have HB0 : Hid (wb.heap[w.heap.size]? = some (.cells #[.bool true, .slice none 0 0] 69 (0, 0))) := hB0
  have HB1 : Hid (wb.heap[w.heap.size + 1]? = some (.cells #[.int .i64 i, .string p, .int .i64 k, .int .i64 f] 40 (0, 0))) := hB1
  have HB2 : Hid (wb.heap[w.heap.size + 2]? = some (.cells #[.bool false, .slice none 0 0] 69 (0, 0))) := hB2
  have HW : Hid (((w.alloc (.cells #[.bool true, .slice none 0 0] 69)).alloc (.cells #[.int .i64 i, .string p, .int .i64 k, .int .i64 f] 40)).alloc (.cells #[.bool false, .slice none 0 0] 69) = wb) := hwb
  clear hB hB0 hB1 hB2
  unfold mayL
  cases hnb : numsB s i f with
  | true =>
    rw [if_pos rfl]
    unfold numsB at hnb
    simp only [Bool.or_eq_true, decide_eq_true_eq] at hnb
    by_cases h1 : s < 1
    · go_enter Tryz.func49, Tryz.ntmps49
      rw [← hwb] at c0 c1 b0 b1 b2 b3 d0 d1 fd
      clear hwb
      go_wp2_with fail
      exact bodyPost_ret (results_cell_tmp rfl _ _ (w.heap.size + 1 + 1) 69 _ (0, 0) _ _ rfl rfl (heap_new' (by simp)) Tryz.underlying69 rfl (by kernel_rfl)) rfl ⟨rfl, (((Below.refl _ _).alloc (Nat.le_refl _) _).alloc (by simp) _).alloc (by simp; omega) _⟩
    by_cases h2 : (2147483647 : Int) < s
    · go_enter Tryz.func49, Tryz.ntmps49
      rw [← hwb] at c0 c1 b0 b1 b2 b3 d0 d1 fd
      clear hwb
      go_wp2_with fail
      exact bodyPost_ret (results_cell_tmp rfl _ _ (w.heap.size + 1 + 1) 69 _ (0, 0) _ _ rfl rfl (heap_new' (by simp)) Tryz.underlying69 rfl (by kernel_rfl)) rfl ⟨rfl, (((Below.refl _ _).alloc (Nat.le_refl _) _).alloc (by simp) _).alloc (by simp; omega) _⟩
    by_cases h3 : i < 1
    · go_enter Tryz.func49, Tryz.ntmps49
      rw [← hwb] at c0 c1 b0 b1 b2 b3 d0 d1 fd
      clear hwb
      go_wp2_with fail
      exact bodyPost_ret (results_cell_tmp rfl _ _ (w.heap.size + 1 + 1) 69 _ (0, 0) _ _ rfl rfl (heap_new' (by simp)) Tryz.underlying69 rfl (by kernel_rfl)) rfl ⟨rfl, (((Below.refl _ _).alloc (Nat.le_refl _) _).alloc (by simp) _).alloc (by simp; omega) _⟩
    by_cases h4 : (2147483647 : Int) < i
    · go_enter Tryz.func49, Tryz.ntmps49
      rw [← hwb] at c0 c1 b0 b1 b2 b3 d0 d1 fd
      clear hwb
      go_wp2_with fail
      exact bodyPost_ret (results_cell_tmp rfl _ _ (w.heap.size + 1 + 1) 69 _ (0, 0) _ _ rfl rfl (heap_new' (by simp)) Tryz.underlying69 rfl (by kernel_rfl)) rfl ⟨rfl, (((Below.refl _ _).alloc (Nat.le_refl _) _).alloc (by simp) _).alloc (by simp; omega) _⟩
    by_cases h5 : f < 0
    · go_enter Tryz.func49, Tryz.ntmps49
      rw [← hwb] at c0 c1 b0 b1 b2 b3 d0 d1 fd
      clear hwb
      go_wp2_with fail
      exact bodyPost_ret (results_cell_tmp rfl _ _ (w.heap.size + 1 + 1) 69 _ (0, 0) _ _ rfl rfl (heap_new' (by simp)) Tryz.underlying69 rfl (by kernel_rfl)) rfl ⟨rfl, (((Below.refl _ _).alloc (Nat.le_refl _) _).alloc (by simp) _).alloc (by simp; omega) _⟩
    have h6 : (2147483647 : Int) < f := by omega
    go_enter Tryz.func49, Tryz.ntmps49
    rw [← hwb] at c0 c1 b0 b1 b2 b3 d0 d1 fd
    clear hwb
    go_wp2_with fail
    exact bodyPost_ret (results_cell_tmp rfl _ _ (w.heap.size + 1 + 1) 69 _ (0, 0) _ _ rfl rfl (heap_new' (by simp)) Tryz.underlying69 rfl (by kernel_rfl)) rfl ⟨rfl, (((Below.refl _ _).alloc (Nat.le_refl _) _).alloc (by simp) _).alloc (by simp; omega) _⟩
  | false =>
    rw [if_neg (by decide)]
    obtain ⟨n1, n2, n3, n4, n5, n6⟩ := nums_no hnb
    clear hnb
    obtain ⟨pc, hpc⟩ : ∃ pc, (parse p).1 = pc := ⟨_, rfl⟩
    have HPA : Hid (∀ W, Calls Tryz.prog 75 #[.string p] W fun e w' => ∃ v, e = .returned (.tuple #[v, .int .i64 pc]) ∧ Below W.heap.size W w') := by
      intro W
      refine Calls.mono (refParse_any p W) ?_
      rintro e w' ⟨a, c, he, _, _, hb⟩
      exact ⟨_, by rw [he, hpc], hb⟩
    rw [hpc]
    clear hpc
    have HFI : Hid (∀ W, _) := fun W => find0 s i W
    have HOF : Hid (∀ W, _) := fun W => of0 s W
    by_cases h0 : pc = 0
    · subst h0
      rw [if_neg (by simp)]
      by_cases hk1 : k < 1
      · rw [if_pos (.inl hk1)]
        go_enter Tryz.func49, Tryz.ntmps49
        rw [← hwb] at c0 c1 b0 b1 b2 b3 d0 d1 fd
        clear hwb
        go_wp2_with (first
            | (go_at_call 75; rw [HW.out]; refine Calls.mono (HPA.out _) ?_; rintro e w1 ⟨v1, rfl, hb1⟩
               have H1 : Hid (Below w.heap.size w w1) := xtrans2 HB.out hb1
               have e0 := kept_block hb1 HB0.out
               have e1 := kept_block hb1 HB1.out
               have e2 := kept_block hb1 HB2.out
               have A0 : Hid (w1.heap[w.heap.size]? = some (.cells #[.bool true, .slice none 0 0] 69 (0, 0))) := e0
               have A1 : Hid (w1.heap[w.heap.size + 1]? = some (.cells #[.int .i64 i, .string p, .int .i64 k, .int .i64 f] 40 (0, 0))) := e1
               have A2 : Hid (w1.heap[w.heap.size + 2]? = some (.cells #[.bool false, .slice none 0 0] 69 (0, 0))) := e2
               clear c0 c1 b0 b1 b2 b3 d0 d1 fd hb1
               obtain ⟨c0, c1⟩ := cells_2 e0
               obtain ⟨b0, b1, b2, b3⟩ := cells_4 e1
               obtain ⟨d0, d1⟩ := cells_2 e2
               have fd := free_of e2
               clear e0 e1 e2)
            | (go_at_call 76; refine Calls.mono (HFI.out _) ?_; rintro e w2 ⟨rfl, hb1⟩
               have H2 : Hid (Below w.heap.size w w2) := xtrans2 H1.out hb1
               have e0 := kept_block hb1 A0.out
               have e1 := kept_block hb1 A1.out
               have e2 := kept_block hb1 A2.out
               have E0 : Hid (w2.heap[w.heap.size]? = some (.cells #[.bool true, .slice none 0 0] 69 (0, 0))) := e0
               have E1 : Hid (w2.heap[w.heap.size + 1]? = some (.cells #[.int .i64 i, .string p, .int .i64 k, .int .i64 f] 40 (0, 0))) := e1
               have E2 : Hid (w2.heap[w.heap.size + 2]? = some (.cells #[.bool false, .slice none 0 0] 69 (0, 0))) := e2
               clear c0 c1 b0 b1 b2 b3 d0 d1 fd hb1
               obtain ⟨c0, c1⟩ := cells_2 e0
               obtain ⟨b0, b1, b2, b3⟩ := cells_4 e1
               obtain ⟨d0, d1⟩ := cells_2 e2
               have fd := free_of e2
               clear e0 e1 e2)
            | fail)
        exact bodyPost_ret (results_cell_tmp rfl _ _ (w.heap.size + 2) 69 _ (0, 0) _ _ rfl rfl (fill2 E2.out) Tryz.underlying69 rfl (by kernel_rfl)) rfl ⟨rfl, (H2.out.setCell (Nat.le_add_right _ 2) _).setCell (Nat.le_add_right _ 2) _⟩
      by_cases hk2 : (3 : Int) < k
      · rw [if_pos (.inr (.inl hk2))]
        go_enter Tryz.func49, Tryz.ntmps49
        rw [← hwb] at c0 c1 b0 b1 b2 b3 d0 d1 fd
        clear hwb
        go_wp2_with (first
            | (go_at_call 75; rw [HW.out]; refine Calls.mono (HPA.out _) ?_; rintro e w1 ⟨v1, rfl, hb1⟩
               have H1 : Hid (Below w.heap.size w w1) := xtrans2 HB.out hb1
               have e0 := kept_block hb1 HB0.out
               have e1 := kept_block hb1 HB1.out
               have e2 := kept_block hb1 HB2.out
               have A0 : Hid (w1.heap[w.heap.size]? = some (.cells #[.bool true, .slice none 0 0] 69 (0, 0))) := e0
               have A1 : Hid (w1.heap[w.heap.size + 1]? = some (.cells #[.int .i64 i, .string p, .int .i64 k, .int .i64 f] 40 (0, 0))) := e1
               have A2 : Hid (w1.heap[w.heap.size + 2]? = some (.cells #[.bool false, .slice none 0 0] 69 (0, 0))) := e2
               clear c0 c1 b0 b1 b2 b3 d0 d1 fd hb1
               obtain ⟨c0, c1⟩ := cells_2 e0
               obtain ⟨b0, b1, b2, b3⟩ := cells_4 e1
               obtain ⟨d0, d1⟩ := cells_2 e2
               have fd := free_of e2
               clear e0 e1 e2)
            | (go_at_call 76; refine Calls.mono (HFI.out _) ?_; rintro e w2 ⟨rfl, hb1⟩
               have H2 : Hid (Below w.heap.size w w2) := xtrans2 H1.out hb1
               have e0 := kept_block hb1 A0.out
               have e1 := kept_block hb1 A1.out
               have e2 := kept_block hb1 A2.out
               have E0 : Hid (w2.heap[w.heap.size]? = some (.cells #[.bool true, .slice none 0 0] 69 (0, 0))) := e0
               have E1 : Hid (w2.heap[w.heap.size + 1]? = some (.cells #[.int .i64 i, .string p, .int .i64 k, .int .i64 f] 40 (0, 0))) := e1
               have E2 : Hid (w2.heap[w.heap.size + 2]? = some (.cells #[.bool false, .slice none 0 0] 69 (0, 0))) := e2
               clear c0 c1 b0 b1 b2 b3 d0 d1 fd hb1
               obtain ⟨c0, c1⟩ := cells_2 e0
               obtain ⟨b0, b1, b2, b3⟩ := cells_4 e1
               obtain ⟨d0, d1⟩ := cells_2 e2
               have fd := free_of e2
               clear e0 e1 e2)
            | fail)
        exact bodyPost_ret (results_cell_tmp rfl _ _ (w.heap.size + 2) 69 _ (0, 0) _ _ rfl rfl (fill2 E2.out) Tryz.underlying69 rfl (by kernel_rfl)) rfl ⟨rfl, (H2.out.setCell (Nat.le_add_right _ 2) _).setCell (Nat.le_add_right _ 2) _⟩
      rw [if_neg (by rintro (h | h | h); exact hk1 h; exact hk2 h; cases h), if_pos (.inl rfl)]
      go_enter Tryz.func49, Tryz.ntmps49
      rw [← hwb] at c0 c1 b0 b1 b2 b3 d0 d1 fd
      clear hwb
      go_wp2_with (first
          | (go_at_call 75; rw [HW.out]; refine Calls.mono (HPA.out _) ?_; rintro e w1 ⟨v1, rfl, hb1⟩
             have H1 : Hid (Below w.heap.size w w1) := xtrans2 HB.out hb1
             have e0 := kept_block hb1 HB0.out
             have e1 := kept_block hb1 HB1.out
             have e2 := kept_block hb1 HB2.out
             have A0 : Hid (w1.heap[w.heap.size]? = some (.cells #[.bool true, .slice none 0 0] 69 (0, 0))) := e0
             have A1 : Hid (w1.heap[w.heap.size + 1]? = some (.cells #[.int .i64 i, .string p, .int .i64 k, .int .i64 f] 40 (0, 0))) := e1
             have A2 : Hid (w1.heap[w.heap.size + 2]? = some (.cells #[.bool false, .slice none 0 0] 69 (0, 0))) := e2
             clear c0 c1 b0 b1 b2 b3 d0 d1 fd hb1
             obtain ⟨c0, c1⟩ := cells_2 e0
             obtain ⟨b0, b1, b2, b3⟩ := cells_4 e1
             obtain ⟨d0, d1⟩ := cells_2 e2
             have fd := free_of e2
             clear e0 e1 e2)
          | (go_at_call 76; refine Calls.mono (HFI.out _) ?_; rintro e w2 ⟨rfl, hb1⟩
             have H2 : Hid (Below w.heap.size w w2) := xtrans2 H1.out hb1
             have e0 := kept_block hb1 A0.out
             have e1 := kept_block hb1 A1.out
             have e2 := kept_block hb1 A2.out
             have E0 : Hid (w2.heap[w.heap.size]? = some (.cells #[.bool true, .slice none 0 0] 69 (0, 0))) := e0
             have E1 : Hid (w2.heap[w.heap.size + 1]? = some (.cells #[.int .i64 i, .string p, .int .i64 k, .int .i64 f] 40 (0, 0))) := e1
             have E2 : Hid (w2.heap[w.heap.size + 2]? = some (.cells #[.bool false, .slice none 0 0] 69 (0, 0))) := e2
             clear c0 c1 b0 b1 b2 b3 d0 d1 fd hb1
             obtain ⟨c0, c1⟩ := cells_2 e0
             obtain ⟨b0, b1, b2, b3⟩ := cells_4 e1
             obtain ⟨d0, d1⟩ := cells_2 e2
             have fd := free_of e2
             clear e0 e1 e2)
          | (go_at_call 53; refine Calls.mono (HOF.out _) ?_; rintro e w3 ⟨rfl, hb1⟩
             have H3 : Hid (Below w.heap.size w w3) := xtrans2 H2.out hb1
             have e0 := kept_block hb1 E0.out
             have e1 := kept_block hb1 E1.out
             have e2 := kept_block hb1 E2.out
             have G0 : Hid (w3.heap[w.heap.size]? = some (.cells #[.bool true, .slice none 0 0] 69 (0, 0))) := e0
             have G1 : Hid (w3.heap[w.heap.size + 1]? = some (.cells #[.int .i64 i, .string p, .int .i64 k, .int .i64 f] 40 (0, 0))) := e1
             have G2 : Hid (w3.heap[w.heap.size + 2]? = some (.cells #[.bool false, .slice none 0 0] 69 (0, 0))) := e2
             clear c0 c1 b0 b1 b2 b3 d0 d1 fd hb1
             obtain ⟨c0, c1⟩ := cells_2 e0
             obtain ⟨b0, b1, b2, b3⟩ := cells_4 e1
             obtain ⟨d0, d1⟩ := cells_2 e2
             have fd := free_of e2
             clear e0 e1 e2)
          | fail)
      exact bodyPost_ret (results_cell_tmp rfl _ _ (w.heap.size + 2) 69 _ (0, 0) _ _ rfl rfl (fill2 G2.out) Tryz.underlying69 rfl (by kernel_rfl)) rfl ⟨rfl, (H3.out.setCell (Nat.le_add_right _ 2) _).setCell (Nat.le_add_right _ 2) _⟩
    · rw [if_pos h0]
      go_enter Tryz.func49, Tryz.ntmps49
      rw [← hwb] at c0 c1 b0 b1 b2 b3 d0 d1 fd
      clear hwb
      go_wp2_with (first
          | (go_at_call 75; rw [HW.out]; refine Calls.mono (HPA.out _) ?_; rintro e w1 ⟨v1, rfl, hb1⟩
             have H1 : Hid (Below w.heap.size w w1) := xtrans2 HB.out hb1
             have e0 := kept_block hb1 HB0.out
             have e1 := kept_block hb1 HB1.out
             have e2 := kept_block hb1 HB2.out
             have A0 : Hid (w1.heap[w.heap.size]? = some (.cells #[.bool true, .slice none 0 0] 69 (0, 0))) := e0
             have A1 : Hid (w1.heap[w.heap.size + 1]? = some (.cells #[.int .i64 i, .string p, .int .i64 k, .int .i64 f] 40 (0, 0))) := e1
             have A2 : Hid (w1.heap[w.heap.size + 2]? = some (.cells #[.bool false, .slice none 0 0] 69 (0, 0))) := e2
             clear c0 c1 b0 b1 b2 b3 d0 d1 fd hb1
             obtain ⟨c0, c1⟩ := cells_2 e0
             obtain ⟨b0, b1, b2, b3⟩ := cells_4 e1
             obtain ⟨d0, d1⟩ := cells_2 e2
             have fd := free_of e2
             clear e0 e1 e2)
          | fail)
      exact bodyPost_ret (results_cell_tmp rfl _ _ (w.heap.size + 2) 69 _ (0, 0) _ _ rfl rfl (fill2 A2.out) Tryz.underlying69 rfl (by kernel_rfl)) rfl ⟨rfl, (H1.out.setCell (Nat.le_add_right _ 2) _).setCell (Nat.le_add_right _ 2) _⟩
end Go.Proofs.YtbblckcjedjbcaaGreatDoor.J
