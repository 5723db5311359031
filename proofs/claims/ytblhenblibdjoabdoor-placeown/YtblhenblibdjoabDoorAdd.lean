/-
  add by a contract.
-/
import Derived.Test.YtblhenblibdjoabDoorOwnPure
namespace Go.Proofs.YtblhenblibdjoabDoor
open Go.RowKit

theorem Tryd.info37 : (Tryd.prog.info? 37).map (fun i => (i.zero, i.size, i.bytes)) = some (some (.slice none 0 0), 1, 24) := by kernel_rfl

/-- What add leaves. -/
def Added (w : World) (B hb : Nat) (lv wv : Value) (ls ws : List Rw) (u : Value) (xs : List ByteArray) (w' : World) : Prop :=
  ∃ lv' wv' c, HeldAt w' B hb lv' wv' (ls ++ [(u, xs)]) (ws ++ [(c, xs)]) ∧ Moved w.heap.size lv lv' ∧ Moved w.heap.size wv wv' ∧ (∀ k, c.ownBlock = some k → w.heap.size ≤ k) ∧
    Chg w w' (fun k => k = hb ∨ lv.ownBlock = some k ∨ wv.ownBlock = some k)

theorem moved_at {N : Nat} {v v' : Value} {M : Nat} (h : v'.ownBlock = v.ownBlock ∨ v'.ownBlock = some M) (hM : N ≤ M) : Moved N v v' := by
  rcases h with h | h
  · exact .inl h
  · exact .inr ⟨M, h, hM⟩

theorem form_of {w : World} {B e n : Nat} {v : Value} {xs : List Value} (h : w.ownsRow B e 1 v n xs) (hn : 0 < n) : ∃ g cap, v = .slice (some ⟨g, 0, none⟩) n cap := by
  rcases h.2 with ⟨_, h0⟩ | ⟨g, cap, _, hv, _⟩
  · omega
  · exact ⟨g, cap, hv⟩

/-- One more row in the first list: from the world in which the copy lies. -/
theorem added_of {w w1 w2 w4 : World} {B hb : Nat} {lv wv lv' wv' u c : Value} {ls ws : List Rw} {xs : List ByteArray} {o o' : Obj} (H : HeldAt w B hb lv wv ls ws)
    (hu : Rok w B (u, xs)) (h01 : w.grownBy w1 none) (hc : Rok w1 B (c, xs)) (hcb : ∀ k, c.ownBlock = some k → w.heap.size ≤ k)
    (hown2 : w2.ownsRow B 37 1 lv' (ls.length + 1) (ls.map Prod.fst ++ [u])) (hgrow2 : (w1.alloc o).grownBy w2 lv.ownBlock) (hat2 : lv'.ownBlock = lv.ownBlock ∨ lv'.ownBlock = some (w1.alloc o).heap.size)
    (hown4 : w4.ownsRow B 37 1 wv' (ws.length + 1) (ws.map Prod.fst ++ [c])) (hgrow4 : ((w2.setCell ⟨hb, 0, none⟩ lv').alloc o').grownBy w4 wv.ownBlock) (hat4 : wv'.ownBlock = wv.ownBlock ∨ wv'.ownBlock = some ((w2.setCell ⟨hb, 0, none⟩ lv').alloc o').heap.size) :
    Added w B hb lv wv ls ws u xs (w4.setCell ⟨hb, 1, none⟩ wv') := by
  have s01 := h01.size
  have s12 := hgrow2.size
  have s24 := hgrow4.size
  simp only [World.size_alloc, World.size_setCell] at s12 s24 hat2 hat4
  have hlt := H.lt
  have hne := H.hb_ne
  have hllt : ∀ k, lv.ownBlock = some k → k < w.heap.size := fun k hk => (H.lo.lt k hk).2
  have hwlt : ∀ k, wv.ownBlock = some k → k < w.heap.size := fun k hk => (H.wo.lt k hk).2
  have ml : Moved w.heap.size lv lv' := moved_at hat2 (by omega)
  have mw : Moved w.heap.size wv wv' := moved_at hat4 (by omega)
  have hl2 : ∀ k, lv'.ownBlock = some k → k < w2.heap.size := fun k hk => (hown2.lt k hk).2
  have alw : Apart lv' wv := H.apart.moved ml hwlt
  have hb2 : lv'.ownBlock ≠ some hb := by
    rcases hat2 with h | h
    · rw [h]; exact hne.1
    · rw [h]; intro e; have := Option.some.inj e; omega
  have hb4 : wv'.ownBlock ≠ some hb := by
    rcases hat4 with h | h
    · rw [h]; exact hne.2
    · rw [h]; intro e; have := Option.some.inj e; omega
  let S : Nat → Prop := fun k => k = hb ∨ lv.ownBlock = some k ∨ wv.ownBlock = some k
  have c12 : Chg w1 w2 S := (Chg.alloc w1 o S).trans ((Chg.grown hgrow2).mono fun k _ h => .inr (.inl h))
  have c24 : Chg w2 w4 S := (((Chg.set w2 ⟨hb, 0, none⟩ lv').mono fun k _ h => .inl h).trans (Chg.alloc _ o' S)).trans ((Chg.grown hgrow4).mono fun k _ h => .inr (.inr h))
  have c45 : Chg w4 (w4.setCell ⟨hb, 1, none⟩ wv') S := (Chg.set w4 ⟨hb, 1, none⟩ wv').mono fun k _ h => .inl h
  have c15 : Chg w1 (w4.setCell ⟨hb, 1, none⟩ wv') S := (c12.trans c24).trans c45
  have c05 : Chg w (w4.setCell ⟨hb, 1, none⟩ wv') S := ((Chg.grown h01).mono fun k _ h => by cases h).trans c15
  have k1 : w1.heap[hb]? = some (.cells #[lv, wv] 41 (0, 0)) := by rw [h01.block hb hlt (by simp)]; exact H.blk
  have k2 : w2.heap[hb]? = some (.cells #[lv, wv] 41 (0, 0)) := by rw [hgrow2.block hb (by simp; omega) (fun e => hne.1 e.symm), Below.heap_alloc w1 o hb (by omega)]; exact k1
  have k3 : (w2.setCell ⟨hb, 0, none⟩ lv').heap[hb]? = some (.cells #[lv', wv] 41 (0, 0)) := two_set0 k2
  have k4 : w4.heap[hb]? = some (.cells #[lv', wv] 41 (0, 0)) := by rw [hgrow4.block hb (by simp; omega) (fun e => hne.2 e.symm), Below.heap_alloc _ o' hb (by simp; omega)]; exact k3
  have k5 : (w4.setCell ⟨hb, 1, none⟩ wv').heap[hb]? = some (.cells #[lv', wv'] 41 (0, 0)) := two_set1 k4
  have hS9 : ∀ {v : Value} {n : Nat} {ys : List Value}, w.ownsRow B 9 1 v n ys → ∀ k, v.ownBlock = some k → ¬ S k := by
    intro v n ys hr k hk hs
    have := H.row_ne hr hk
    rcases hs with h | h | h
    · exact this.1 h
    · exact this.2.1 h
    · exact this.2.2 h
  refine ⟨lv', wv', c, ⟨k5, H.le, ?_, ?_, ?_, ?_, ?_⟩, ml, mw, hcb, c05⟩
  · have e := owns_same (w' := w4.setCell ⟨hb, 1, none⟩ wv') hown2 (fun k hk => by
      have hkb : k ≠ hb := fun e => hb2 (e ▸ hk)
      rw [Below.heap_setCell _ _ _ _ hkb, hgrow4.block k (by have := hl2 k hk; simp; omega) (fun e => alw k hk e.symm), Below.heap_alloc _ o' k (by have := hl2 k hk; simp; omega), Below.heap_setCell _ _ _ _ hkb])
    simpa using e
  · have e := owns_same (w' := w4.setCell ⟨hb, 1, none⟩ wv') hown4 (fun k hk => by
      have hkb : k ≠ hb := fun e => hb4 (e ▸ hk)
      rw [Below.heap_setCell _ _ _ _ hkb])
    simpa using e
  · intro k hk hk'
    rcases hat4 with h | h
    · exact alw k hk (h ▸ hk')
    · rw [h] at hk'
      have := Option.some.inj hk'
      have := hl2 k hk
      omega
  · intro r hr
    rw [List.mem_append] at hr
    rcases hr with hr | hr
    · exact owns_chg (H.lrows r hr) c05 (hS9 (H.lrows r hr))
    · rw [List.mem_singleton] at hr
      subst hr
      exact owns_chg hu c05 (hS9 hu)
  · intro r hr
    rw [List.mem_append] at hr
    rcases hr with hr | hr
    · exact owns_chg (H.wrows r hr) c05 (hS9 (H.wrows r hr))
    · rw [List.mem_singleton] at hr
      subst hr
      refine owns_chg hc c15 (fun k hk hs => ?_)
      have := hcb k hk
      rcases hs with h | h | h
      · omega
      · have := hllt k h; omega
      · have := hwlt k h; omega

set_option maxHeartbeats 1600000 in
set_option maxRecDepth 100000 in
theorem add_some {w : World} {B hb : Nat} {lv wv : Value} {ls ws : List Rw} (H : HeldAt w B hb lv wv ls ws) (hB : B ≤ w.heap.size) (g n cap : Nat) (xs : List ByteArray) (hu : Rok w B (.slice (some ⟨g, 0, none⟩) n cap, xs)) (hx : xs.length ≤ 1000) (hne : xs ≠ []) (hl : ls.length ≤ 10000) (hw : ws.length ≤ 10000) :
    Calls Tryd.prog 21 #[.pointer (some ⟨hb, 0, none⟩), .slice (some ⟨g, 0, none⟩) n cap] w fun e w' => e = .returned (.tuple #[]) ∧ Added w B hb lv wv ls ws (.slice (some ⟨g, 0, none⟩) n cap) xs w' := by
  obtain ⟨i9, hi9, hy0, hy1, hy2⟩ := info_parts Tryd.info9
  obtain ⟨i0, hi, hz0, hz1, hz2⟩ := info_parts Tryd.info37
  have HH : Hid _ := H
  clear H
  have hnx : xs.length = n := by
    have := hu.2
    rcases this with ⟨h, _⟩ | ⟨g', cap', _, h, _⟩
    · cases h
    · simp only [Value.slice.injEq] at h
      exact h.2.1.symm
  subst hnx
  have HU : Hid _ := hu
  have hlst : Lst w (some ⟨g, 0, none⟩) xs := by
    obtain ⟨a, c, hv, hL, _⟩ := lst_of_owns hu
    simp only [Value.slice.injEq, true_and] at hv
    rw [hv.1]
    exact hL
  have HLs : Hid _ := hlst
  have hlt := HH.out.lt
  clear hu hlst
  go_enter Tryd.func21, Tryd.ntmps21
  go_wp2_with (first
    | (at_builtin; refine wpList_append_own _ rfl _ _ 37 rfl w.heap.size 9 i9 (.string ByteArray.empty) 1 16 Tryd.underlying37 hi9 hy0 hy1 hy2 rfl (by decide) (.slice none 0 0) 0 [] rfl (World.ownsRow_nil _ _ _ _) ⟨g, 0, none⟩ xs.length cap (xs.map Value.string) rfl (by simp) (cells_at HLs.out) (one_cells _) (by unfold maxLen; omega) (by omega) (Nat.le_refl _) ?_; intro c0 w1 hownc hgrow1 _
       obtain ⟨gc, cc, rfl⟩ := form_of hownc (by have := List.length_pos_iff.2 hne; omega)
       rw [Nat.zero_add] at hownc ⊢
       have k1 : w1.heap[hb]? = some (.cells #[lv, wv] 41 (0, 0)) := by rw [hgrow1.block hb hlt (by simp [Value.ownBlock])]; exact HH.out.blk
       have hc0 := two_cell0 k1
       have s01 := hgrow1.size
       have HCB : Hid (∀ k, (Value.slice (some ⟨gc, 0, none⟩) xs.length cc).ownBlock = some k → w.heap.size ≤ k) := fun k hk => (hownc.lt k hk).1
       have HC : Hid (Rok w1 B (.slice (some ⟨gc, 0, none⟩) xs.length cc, xs)) := by
         show w1.ownsRow B 9 1 (.slice (some ⟨gc, 0, none⟩) xs.length cc) xs.length (xs.map Value.string)
         have := hownc
         rw [List.nil_append] at this
         exact ⟨this.1, this.2.imp id (fun ⟨g, cap, cur, h1, h2, r⟩ => ⟨g, cap, cur, h1, Nat.le_trans hB h2, r⟩)⟩
       have G01 : Hid (w.grownBy w1 none) := hgrow1
       have HO1 : Hid (w1.ownsRow B 37 1 lv ls.length (ls.map Prod.fst)) := owns_same HH.out.lo (fun k hk => hgrow1.block k (HH.out.lo.lt k hk).2 (by simp [Value.ownBlock]))
       have HW1 : Hid (w1.ownsRow B 37 1 wv ws.length (ws.map Prod.fst)) := owns_same HH.out.wo (fun k hk => hgrow1.block k (HH.out.wo.lt k hk).2 (by simp [Value.ownBlock]))
       have K1 : Hid _ := k1
       clear hownc hgrow1 k1)
    | (at_builtin; refine wpList_append_own_at _ rfl _ _ 39 rfl B 37 i0 (.slice none 0 0) 1 24 Tryd.underlying39 hi hz0 hz1 hz2 rfl (by decide) lv ls.length (ls.map Prod.fst) rfl (World.ownsRow.alloc HO1.out _) ⟨_, 0, none⟩ 1 1 [.slice (some ⟨g, 0, none⟩) xs.length cap] rfl rfl (cell_one_new _ _ _) (fun x hx => by simp at hx; subst hx; rfl) (by unfold maxLen; omega) (by omega) (by simp; omega) ?_; intro lv0 w2 hown2 hgrow2 _ hat2
       obtain ⟨gl, cl, rfl⟩ := form_of hown2 (by omega)
       have k2 : w2.heap[hb]? = some (.cells #[lv, wv] 41 (0, 0)) := by rw [hgrow2.block hb (by simp; omega) (fun e => HH.out.hb_ne.1 e.symm), Below.heap_alloc _ _ hb (by omega)]; exact K1.out
       have hc20 := two_cell0 k2
       have hf20 := two_free (j := 0) k2
       have k3 : (w2.setCell ⟨hb, 0, none⟩ (.slice (some ⟨gl, 0, none⟩) (ls.length + 1) cl)).heap[hb]? = some (.cells #[(.slice (some ⟨gl, 0, none⟩) (ls.length + 1) cl), wv] 41 (0, 0)) := two_set0 k2
       have hc31 := two_cell1 k3
       have s12 := hgrow2.size
       simp only [World.size_alloc] at s12
       have how3 : ((w2.setCell ⟨hb, 0, none⟩ (.slice (some ⟨gl, 0, none⟩) (ls.length + 1) cl)).alloc (.cells #[(.slice (some ⟨gc, 0, none⟩) xs.length cc)] 37)).ownsRow B 37 1 wv ws.length (ws.map Prod.fst) := by
         refine World.ownsRow.alloc (owns_same HW1.out (fun k hk => ?_)) _
         have hkw := World.ownsRow.lt HW1.out k hk
         rw [Below.heap_setCell _ _ _ _ (fun e => HH.out.hb_ne.2 (by rw [hk, e])), hgrow2.block k (by simp; omega) (fun e => HH.out.apart k e.symm hk), Below.heap_alloc _ _ k hkw.2]
       have HO2 : Hid _ := hown2
       have HGr2 : Hid _ := hgrow2
       have HA2 : Hid _ := hat2
       have HW3 : Hid _ := how3
       have K3 : Hid _ := k3
       have K2 : Hid _ := k2
       clear hown2 hgrow2 hat2 how3 k3 k2)
    | (at_builtin; refine wpList_append_own_at _ rfl _ _ 39 rfl B 37 i0 (.slice none 0 0) 1 24 Tryd.underlying39 hi hz0 hz1 hz2 rfl (by decide) wv ws.length (ws.map Prod.fst) rfl HW3.out ⟨_, 0, none⟩ 1 1 [(.slice (some ⟨gc, 0, none⟩) xs.length cc)] rfl rfl (by first | exact cell_one_new _ _ _ | (simpa using cell_one_new (w2.setCell ⟨hb, 0, none⟩ (.slice (some ⟨gl, 0, none⟩) (ls.length + 1) cl)) (.slice (some ⟨gc, 0, none⟩) xs.length cc) 37)) (fun x hx => by simp at hx; subst hx; rfl) (by unfold maxLen; omega) (by omega) (by simp; omega) ?_; intro wv0 w4 hown4 hgrow4 _ hat4
       obtain ⟨gw, cw, rfl⟩ := form_of hown4 (by omega)
       have k4 : w4.heap[hb]? = some (.cells #[(.slice (some ⟨gl, 0, none⟩) (ls.length + 1) cl), wv] 41 (0, 0)) := by rw [hgrow4.block hb (by simp; omega) (fun e => HH.out.hb_ne.2 e.symm), Below.heap_alloc _ _ hb (by simp; omega)]; exact K3.out
       have hc41 := two_cell1 k4
       have hf41 := two_free (j := 1) k4
       have HAD : Hid _ := added_of HH.out HU.out G01.out HC.out HCB.out HO2.out HGr2.out HA2.out hown4 hgrow4 hat4
       clear hown4 hgrow4 hat4 k4)
    | fail)
  go_end0
  exact ⟨rfl, HAD.out⟩

set_option maxHeartbeats 1600000 in
set_option maxRecDepth 100000 in
theorem add_none {w : World} {B hb : Nat} {lv wv : Value} {ls ws : List Rw} (H : HeldAt w B hb lv wv ls ws) (hB : B ≤ w.heap.size)  (hl : ls.length ≤ 10000) (hw : ws.length ≤ 10000) :
    Calls Tryd.prog 21 #[.pointer (some ⟨hb, 0, none⟩), .slice none 0 0] w fun e w' => e = .returned (.tuple #[]) ∧ Added w B hb lv wv ls ws (.slice none 0 0) [] w' := by
  obtain ⟨i9, hi9, hy0, hy1, hy2⟩ := info_parts Tryd.info9
  obtain ⟨i0, hi, hz0, hz1, hz2⟩ := info_parts Tryd.info37
  have HH : Hid _ := H
  clear H
  have HU : Hid (Rok w B (.slice none 0 0, [])) := World.ownsRow_nil _ _ _ _
  have HC : Hid (Rok w B (.slice none 0 0, [])) := World.ownsRow_nil _ _ _ _
  have HCB : Hid (∀ k, (Value.slice none 0 0).ownBlock = some k → w.heap.size ≤ k) := fun k hk => by cases hk
  have G01 : Hid (w.grownBy w none) := ⟨rfl, rfl, rfl, Nat.le_refl _, fun _ _ _ => rfl⟩
  have HO1 : Hid (w.ownsRow B 37 1 lv ls.length (ls.map Prod.fst)) := HH.out.lo
  have HW1 : Hid (w.ownsRow B 37 1 wv ws.length (ws.map Prod.fst)) := HH.out.wo
  have K1 : Hid (w.heap[hb]? = some (.cells #[lv, wv] 41 (0, 0))) := HH.out.blk
  have hc0 := two_cell0 HH.out.blk
  have hlt := HH.out.lt
  go_enter Tryd.func21, Tryd.ntmps21
  go_wp2_with (first
    | (at_builtin; refine wpList_append_own_none rfl _ _ 37 rfl w.heap.size 9 i9 1 Tryd.underlying37 hi9 (.slice none 0 0) 0 [] rfl (World.ownsRow_nil _ _ _ _) rfl ?_)
    | (at_builtin; refine wpList_append_own_at _ rfl _ _ 39 rfl B 37 i0 (.slice none 0 0) 1 24 Tryd.underlying39 hi hz0 hz1 hz2 rfl (by decide) lv ls.length (ls.map Prod.fst) rfl (World.ownsRow.alloc HO1.out _) ⟨_, 0, none⟩ 1 1 [.slice none 0 0] rfl rfl (cell_one_new _ _ _) (fun x hx => by simp at hx; subst hx; rfl) (by unfold maxLen; omega) (by omega) (by simp; omega) ?_; intro lv0 w2 hown2 hgrow2 _ hat2
       obtain ⟨gl, cl, rfl⟩ := form_of hown2 (by omega)
       have k2 : w2.heap[hb]? = some (.cells #[lv, wv] 41 (0, 0)) := by rw [hgrow2.block hb (by simp; omega) (fun e => HH.out.hb_ne.1 e.symm), Below.heap_alloc _ _ hb (by omega)]; exact K1.out
       have hc20 := two_cell0 k2
       have hf20 := two_free (j := 0) k2
       have k3 : (w2.setCell ⟨hb, 0, none⟩ (.slice (some ⟨gl, 0, none⟩) (ls.length + 1) cl)).heap[hb]? = some (.cells #[(.slice (some ⟨gl, 0, none⟩) (ls.length + 1) cl), wv] 41 (0, 0)) := two_set0 k2
       have hc31 := two_cell1 k3
       have s12 := hgrow2.size
       simp only [World.size_alloc] at s12
       have how3 : ((w2.setCell ⟨hb, 0, none⟩ (.slice (some ⟨gl, 0, none⟩) (ls.length + 1) cl)).alloc (.cells #[(.slice none 0 0)] 37)).ownsRow B 37 1 wv ws.length (ws.map Prod.fst) := by
         refine World.ownsRow.alloc (owns_same HW1.out (fun k hk => ?_)) _
         have hkw := World.ownsRow.lt HW1.out k hk
         rw [Below.heap_setCell _ _ _ _ (fun e => HH.out.hb_ne.2 (by rw [hk, e])), hgrow2.block k (by simp; omega) (fun e => HH.out.apart k e.symm hk), Below.heap_alloc _ _ k hkw.2]
       have HO2 : Hid _ := hown2
       have HGr2 : Hid _ := hgrow2
       have HA2 : Hid _ := hat2
       have HW3 : Hid _ := how3
       have K3 : Hid _ := k3
       have K2 : Hid _ := k2
       clear hown2 hgrow2 hat2 how3 k3 k2)
    | (at_builtin; refine wpList_append_own_at _ rfl _ _ 39 rfl B 37 i0 (.slice none 0 0) 1 24 Tryd.underlying39 hi hz0 hz1 hz2 rfl (by decide) wv ws.length (ws.map Prod.fst) rfl HW3.out ⟨_, 0, none⟩ 1 1 [(.slice none 0 0)] rfl rfl (by first | exact cell_one_new _ _ _ | (simpa using cell_one_new (w2.setCell ⟨hb, 0, none⟩ (.slice (some ⟨gl, 0, none⟩) (ls.length + 1) cl)) (.slice none 0 0) 37)) (fun x hx => by simp at hx; subst hx; rfl) (by unfold maxLen; omega) (by omega) (by simp; omega) ?_; intro wv0 w4 hown4 hgrow4 _ hat4
       obtain ⟨gw, cw, rfl⟩ := form_of hown4 (by omega)
       have k4 : w4.heap[hb]? = some (.cells #[(.slice (some ⟨gl, 0, none⟩) (ls.length + 1) cl), wv] 41 (0, 0)) := by rw [hgrow4.block hb (by simp; omega) (fun e => HH.out.hb_ne.2 e.symm), Below.heap_alloc _ _ hb (by simp; omega)]; exact K3.out
       have hc41 := two_cell1 k4
       have hf41 := two_free (j := 1) k4
       have HAD : Hid _ := added_of HH.out HU.out G01.out HC.out HCB.out HO2.out HGr2.out HA2.out hown4 hgrow4 hat4
       clear hown4 hgrow4 hat4 k4)
    | fail)
  go_end0
  exact ⟨rfl, HAD.out⟩

theorem add_any {w : World} {B hb : Nat} {lv wv : Value} {ls ws : List Rw} (H : HeldAt w B hb lv wv ls ws) (hB : B ≤ w.heap.size) (u : Value) (xs : List ByteArray) (hu : Rok w B (u, xs)) (hx : xs.length ≤ 1000) (hne : u = .slice none 0 0 ∨ xs ≠ []) (hl : ls.length ≤ 10000) (hw : ws.length ≤ 10000) :
    Calls Tryd.prog 21 #[.pointer (some ⟨hb, 0, none⟩), u] w fun e w' => e = .returned (.tuple #[]) ∧ Added w B hb lv wv ls ws u xs w' := by
  rcases hu.2 with ⟨h, h0⟩ | ⟨g, cap, _, h, _⟩
  · have : xs = [] := List.eq_nil_of_length_eq_zero h0
    subst this
    simp only at h
    subst h
    exact add_none H hB hl hw
  · simp only at h
    subst h
    exact add_some H hB g xs.length cap xs hu hx (by rcases hne with h | h; · cases h
                                                     · exact h) hl hw
end Go.Proofs.YtblhenblibdjoabDoor
