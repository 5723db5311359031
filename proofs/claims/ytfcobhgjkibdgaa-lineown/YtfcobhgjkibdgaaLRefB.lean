/-
  heraldref16: put.
-/
import Derived.Test.YtfcobhgjkibdgaaLRefA
import Derived.Deep.Cut
namespace Go.Proofs.Ytfcobhgjkibdgaa
open Go.RowKit
set_option linter.unusedVariables false
set_option linter.unusedSimpArgs false

theorem three_blocks {w : World} {t t' t'' : TypeId} {cs cs' cs'' : Array Value} : (((w.alloc (.cells cs t)).alloc (.cells cs' t')).alloc (.cells cs'' t'')).heap[w.heap.size]? = some (.cells cs t (0, 0)) ∧ (((w.alloc (.cells cs t)).alloc (.cells cs' t')).alloc (.cells cs'' t'')).heap[w.heap.size + 1]? = some (.cells cs' t' (0, 0)) ∧ (((w.alloc (.cells cs t)).alloc (.cells cs' t')).alloc (.cells cs'' t'')).heap[w.heap.size + 1 + 1]? = some (.cells cs'' t'' (0, 0)) ∧ Below w.heap.size w (((w.alloc (.cells cs t)).alloc (.cells cs' t')).alloc (.cells cs'' t'')) := by
  obtain ⟨h1, h2, h3⟩ := pair_blocks (w := w) (t := t) (t' := t') (cs := cs) (cs' := cs')
  exact ⟨new_old h1 _, new_old h2 _, heap_new' (by simp), h3.alloc (by simp; omega) _⟩
/-- A list in the making, in a field of a box. -/
structure MkP (w1 w : World) (g gv : Nat) (no : Bool) (nv : Value) (L : List PcT) : Prop where
  row : w.ownsRow (w1.heap.size + 1) 97 5 nv L.length (L.flatMap PcT.cells)
  box : w.heap[g]? = some (.cells #[nv, .int .i64 gv, .bool no] 56 (0, 0))
  below : Below w1.heap.size w1 w
theorem MkP.at {w1 w w' : World} {g gv : Nat} {no : Bool} {nv : Value} {L : List PcT} (h : MkP w1 w g gv no nv L) (hb : Below w.heap.size w w') : MkP w1 w' g gv no nv L :=
  ⟨owns_below h.row hb, kept_block hb h.box, trans2 h.below hb⟩
theorem MkP.push {w1 w w' : World} {g gv : Nat} {no : Bool} {nv nv' : Value} {L : List PcT} {t : PcT} (h : MkP w1 w g gv no nv L) (hg : g = w1.heap.size)
    (hr : w'.ownsRow (w1.heap.size + 1) 97 5 nv' (L.length + 1) (L.flatMap PcT.cells ++ t.cells)) (hgr : w.grownBy w' nv.ownBlock) : MkP w1 (w'.setCell ⟨g, 0, none⟩ nv') g gv no nv' (L ++ [t]) := by
  have hc := Chg.grown hgr
  have hc2 : Chg w' (w'.setCell ⟨g, 0, none⟩ nv') (fun k => k = g) := Chg.set w' ⟨g, 0, none⟩ _
  have hbox : w'.heap[g]? = some (.cells #[nv, .int .i64 gv, .bool no] 56 (0, 0)) := by
    rw [hc.block g (lt_of_blk h.box) (fun e => by have := (row_block h.row g e).1; omega)]
    exact h.box
  refine ⟨?_, same_blk hbox rfl, ?_⟩
  · rw [List.length_append, List.flatMap_append]
    have : (w'.setCell ⟨g, 0, none⟩ nv').ownsRow (w1.heap.size + 1) 97 5 nv' (L.length + 1) (L.flatMap PcT.cells ++ t.cells) := row_chg hr hc2 (fun k hk e => by have e : k = g := e; have := (row_block hr k hk).1; omega)
    simpa using this
  · exact (grown_in h.below hgr (fun k hk => by have := (row_block h.row k hk).1; omega) (Nat.le_refl _)).setCell (by show w1.heap.size ≤ g; omega) _
theorem Try.info_pc : (Try.prog.info? 97).map (fun i => (i.zero, i.size, i.bytes)) = some (some (.agg #[.int .i64 0, .int .i64 0, .int .i64 0, .string ⟨#[]⟩, .bool false]), 5, 48) := by kernel_rfl
theorem heap_drew_at (w : World) (g : Nat) : w.drew.heap[g]? = w.heap[g]? := rfl
/-- What one more leaves. -/
structure PutE (w w' : World) (l : List PcT) (gv : Nat) (no : Bool) (v : Value) (m : MsT) (s : Bool) (e : Ending) : Prop where
  ok : no = false → l.length < 256 → ∃ v', e = .returned (.tuple #[lnV v' (gv + 1) false, .int .i64 ((gv + 1 : Nat) : Int)]) ∧ FlAt w' v' (l ++ [⟨gv + 1, m, s⟩])
  no : no = true ∨ 256 ≤ l.length → e = .returned (.tuple #[lnV v gv no, .int .i64 (-1)])
  below : Below w.heap.size w w'
set_option maxHeartbeats 3200000 in
set_option maxRecDepth 100000 in
theorem refPut_any (l : List PcT) (gv : Nat) (no : Bool) (m : MsT) (s : Bool) (v : Value) (w : World) (h : FlAt w v l) (hl : l.length ≤ 256) (hgv : gv ≤ 1099511627776) :
    Calls Try.prog 48 #[lnV v gv no, m.val, .bool s] w fun e w' => PutE w w' l gv no v m s e := by
  obtain ⟨a, c, rfl, _⟩ := fl_form h
  obtain ⟨qn, hqn⟩ : ∃ z, l.length = z := ⟨_, rfl⟩
  have HFL : Hid (FlAt w (.slice a qn c) l) := by rw [← hqn]; exact h
  have HQ : Hid (l.length = qn) := hqn
  rw [hqn] at hl ⊢
  obtain ⟨hA, hM, hB, hbel⟩ := three_blocks (w := w) (t := 56) (cs := #[.slice a qn c, .int .i64 gv, .bool no]) (t' := 23) (cs' := #[.int .i64 m.f, .int .i64 m.t, .string m.b]) (t'' := 56) (cs'' := #[.slice none 0 0, .int .i64 0, .bool false])
  obtain ⟨W, hW⟩ : ∃ W, (((w.alloc (.cells #[.slice a qn c, .int .i64 gv, .bool no] 56)).alloc (.cells #[.int .i64 m.f, .int .i64 m.t, .string m.b] 23)).alloc (.cells #[.slice none 0 0, .int .i64 0, .bool false] 56)) = W := ⟨_, rfl⟩
  rw [hW] at hA hM hB hbel
  obtain ⟨g, hg⟩ : ∃ g, w.heap.size = g := ⟨_, rfl⟩
  have HBW : Hid (Below w.heap.size w W) := hbel
  have HG : Hid (w.heap.size = g) := hg
  rw [hg] at hA hM hB
  have HW : Hid (_ = W) := hW
  have HA : Hid (W.heap[g]? = some (.cells #[.slice a qn c, .int .i64 gv, .bool no] 56 (0, 0))) := hA
  have HM : Hid (W.heap[g + 1]? = some (.cells #[.int .i64 m.f, .int .i64 m.t, .string m.b] 23 (0, 0))) := hM
  have HB : Hid (W.heap[g + 1 + 1]? = some (.cells #[.slice none 0 0, .int .i64 0, .bool false] 56 (0, 0))) := hB
  obtain ⟨c0, c1, c2⟩ := cells_3 hA
  obtain ⟨r0, r1, r2⟩ := cells_3 hB
  have f1 := free_of hB
  clear hW hA hM hB hbel hqn h hg
  by_cases hno : no = true ∨ 256 ≤ qn
  · have HE : Hid (no = true ∨ 256 ≤ l.length) := by show _ ∨ _; rw [HQ.out]; exact hno
    go_enter Try.func48, Try.ntmps48
    go_upto_region 1 with fail
    rw [HW.out, HG.out]
    cases no with
    | true =>
      clear hno
      go_wp2_with fail
      exact bodyPost_ret (results_cell_tmp rfl _ _ (g + 1 + 1) 56 _ (0, 0) _ _ rfl rfl (fill_3 HB.out) Try.underlying56 rfl (by kernel_rfl)) rfl ⟨(fun h1 h2 => by cases h1), fun _ => rfl, by rw [← HG.out]; exact fillB_3 HBW.out (by rw [HG.out]; omega)⟩
    | false =>
      have hge : (256 : Int) ≤ (qn : Int) := by rcases hno with h | h; · cases h
                                                · omega
      clear hno
      go_wp2_with fail
      exact bodyPost_ret (results_cell_tmp rfl _ _ (g + 1 + 1) 56 _ (0, 0) _ _ rfl rfl (fill_3 HB.out) Try.underlying56 rfl (by kernel_rfl)) rfl ⟨(fun h1 h2 => absurd h2 (by have h3 := HE.out.resolve_left (by simp); omega)), fun _ => rfl, by rw [← HG.out]; exact fillB_3 HBW.out (by rw [HG.out]; omega)⟩
  · have hno2 : no = false := by cases no; · rfl
                                 · exact absurd (.inl rfl) hno
    have hq : qn < 256 := by omega
    have hlt : ¬ (256 : Int) ≤ (qn : Int) := by omega
    subst hno2
    clear hno
    have hwr : IntKind.i64.wrap ((gv : Int) + 1) = (gv : Int) + 1 := by unfold IntKind.wrap; simp [IntKind.bits, IntKind.signed]; omega
    go_enter Try.func48, Try.ntmps48
    go_upto_region 1 with fail
    rw [HW.out, HG.out]
    go_upto_region 4 with fail
    obtain ⟨W2, hW2⟩ : ∃ W2, W.alloc (.cells #[.slice none 0 0, .int .i64 ((gv : Int) + 1), .bool false] 56) = W2 := ⟨_, rfl⟩
    have hA2 : W2.heap[W.heap.size]? = some (.cells #[.slice none 0 0, .int .i64 ((gv + 1 : Nat) : Int), .bool false] 56 (0, 0)) := by rw [← hW2]; exact heap_alloc_new _ _
    have hb2 : Below W.heap.size W W2 := by rw [← hW2]; exact (Below.refl _ _).alloc (Nat.le_refl _) _
    rw [hW2]
    obtain ⟨g2, hg2⟩ : ∃ z, W.heap.size = z := ⟨_, rfl⟩
    rw [hg2] at hA2 ⊢
    have HG2 : Hid (W.heap.size = g2) := hg2
    have HP0 : Hid (MkP W W2 g2 (gv + 1) false (.slice none 0 0) []) := ⟨owns_nil _ _ _ _, hA2, hb2⟩
    clear hA2 hb2 hW2 hg2 c0 c1 c2 r0 r1 r2 f1
    go_wp2_with fail
    go_loopw [9] (fun i wr => ∃ (j : Nat) (na : Option Addr) (nc : Nat), i = .int .i64 j ∧ j ≤ qn ∧ Hid (MkP W wr g2 (gv + 1) false (.slice na j nc) (l.take j))) (fun i _ => qn - (intOf i).toNat)
    case atStart => exact ⟨0, none, 0, rfl, Nat.zero_le _, HP0⟩
    case round =>
      obtain ⟨j, na, nc, rfl, hj, HP⟩ := hrel
      have HLJ : Hid ((l.take j).length = j) := by show _ = _; rw [List.length_take, HQ.out]; omega
      have hbr := HP.out.below
      obtain ⟨c0, c1, c2⟩ := cells_3 (kept_block hbr HA.out)
      obtain ⟨n0, n1, n2⟩ := cells_3 HP.out.box
      have fn := free_of HP.out.box
      by_cases hjl : j < qn
      · have hji : (j : Int) < (qn : Int) := by omega
        obtain ⟨x, hx⟩ : ∃ x, l[j]? = some x := ⟨l[j]'(by rw [HQ.out]; exact hjl), List.getElem?_eq_getElem _⟩
        obtain ⟨b5, cc, hv, hb5, x0, x1, x2, x3, x4⟩ := fl_get (owns_below HFL.out (trans2 HBW.out hbr)) hx
        obtain ⟨rfl, rfl⟩ : a = some ⟨b5, 0, none⟩ ∧ c = cc := by simp only [Value.slice.injEq] at hv; exact ⟨hv.1, hv.2.2⟩
        have HT2 : Hid (l.take j ++ [x] = l.take (j + 1)) := by show _ = _; rw [take_at hx]
        have hby : (j + 1) * 48 ≤ 140737488355328 := by omega
        have hold : ∀ ob o, (wr.alloc ob).cell? ⟨g2, o, none⟩ = wr.cell? ⟨g2, o, none⟩ := fun ob o => ((Below.refl wr.heap.size wr).alloc (Nat.le_refl _) ob).cell (p := ⟨g2, o, none⟩) (lt_of_blk HP.out.box)
        clear hx hb5 hbr hv
        go_wp2_with fail
        go_region_law
          (first
          | (refine step_row Try.underlying54 Try.info_pc rfl (by decide) rfl (.tmp 31) (.tmp 37) rfl (W.heap.size + 1) (.slice na j nc) j ((l.take j).flatMap PcT.cells) (by simp [Act.eval, Act.put]) (by have h9 := HP.out.row; rw [HLJ.out] at h9; exact owns_below h9 ((below_drew (Below.refl _ _)).alloc (Nat.le_refl _) _)) wr.heap.size 1 x.cells (by simp [Act.eval, Act.put]) (heap_alloc_new wr.drew _) rfl (by simp [Value.oneCell']) (by unfold maxLen; omega) hby (by have h1 := lt_of_blk HP.out.box; have h2 := HG2.out; show W.heap.size + 1 ≤ (wr.drew.alloc _).heap.size; rw [World.size_alloc]; show _ ≤ wr.heap.size + 1; omega) ?_
             intro v5 w5 hd5 hg5 ho5
             have hal : Below wr.heap.size wr (wr.drew.alloc (.cells x.cells.toArray 97)) := (below_drew (Below.refl _ _)).alloc (Nat.le_refl _) _
             obtain ⟨sa, sc, hv5, _⟩ := row_form hd5
             subst hv5
             have HM5 : Hid (MkP W (w5.setCell ⟨g2, 0, none⟩ (.slice sa (j + 1) sc)) g2 (gv + 1) false (.slice sa (j + 1) sc) (l.take (j + 1))) := by
               have h9 := (HP.out.at hal).push (t := x) HG2.out.symm (by rw [HLJ.out]; exact hd5) hg5
               rw [HT2.out] at h9
               exact h9
             have hbx5 : w5.heap[g2]? = some (.cells #[.slice na j nc, .int .i64 ((gv + 1 : Nat) : Int), .bool false] 56 (0, 0)) := by
               rw [(Chg.grown hg5).block g2 (Nat.lt_of_lt_of_le (lt_of_blk HP.out.box) hal.size) (fun e => by have h2 := (row_block HP.out.row g2 e).1; have h3 := HG2.out; omega)]
               exact kept_block hal HP.out.box
             obtain ⟨d0, d1, d2⟩ := cells_3 hbx5
             have fb5 := free_of hbx5
             clear hd5 hg5 ho5 hal hbx5)
          | fail)
        all_goals
          go_wp2_with fail
          exact ⟨⟨j + 1, sa, sc, by simp, by omega, HM5⟩, by simp [intOf]; omega⟩
      · obtain rfl : j = qn := by omega
        have hge : ¬ (j : Int) < (j : Int) := by omega
        have HTA : Hid (l.take j = l) := by show _ = _; exact List.take_of_length_le (by rw [HQ.out]; exact Nat.le_refl _)
        have hP := HP.out
        rw [HTA.out] at hP
        have HPA : Hid (MkP W wr g2 (gv + 1) false (.slice na j nc) l) := hP
        obtain ⟨m0, m1, m2⟩ := cells_3 (kept_block hbr HM.out)
        have HBr : Hid (Below W.heap.size W wr) := hbr
        have hold : ∀ ob o, (wr.alloc ob).cell? ⟨g2, o, none⟩ = wr.cell? ⟨g2, o, none⟩ := fun ob o => ((Below.refl wr.heap.size wr).alloc (Nat.le_refl _) ob).cell (p := ⟨g2, o, none⟩) (lt_of_blk HP.out.box)
        clear hbr hP
        go_upto_region 9 with (first
          | (at_builtin; refine wpList_row Try.underlying54 Try.info_pc rfl (by decide) rfl _ _ rfl (W.heap.size + 1) (.slice na j nc) j (l.flatMap PcT.cells) rfl (by have h9 := HPA.out.row; rw [HQ.out] at h9; exact owns_below h9 ((Below.refl _ _).alloc (Nat.le_refl _) _)) wr.heap.size 1 (PcT.cells ⟨gv + 1, m, s⟩) rfl (heap_alloc_new _ _) rfl (by simp [Value.oneCell']) (by unfold maxLen; omega) (by omega) (by have h1 := lt_of_blk HP.out.box; have h2 := HG2.out; rw [World.size_alloc]; omega) ?_
             intro v5 w5 hd5 hg5 ho5
             have hal : Below wr.heap.size wr (wr.alloc (.cells (PcT.cells ⟨gv + 1, m, s⟩).toArray 97)) := (Below.refl _ _).alloc (Nat.le_refl _) _
             obtain ⟨sa, sc, hv5, _⟩ := row_form hd5
             subst hv5
             have HM5 : Hid (MkP W (w5.setCell ⟨g2, 0, none⟩ (.slice sa (j + 1) sc)) g2 (gv + 1) false (.slice sa (j + 1) sc) (l ++ [⟨gv + 1, m, s⟩])) := (HPA.out.at hal).push (t := ⟨gv + 1, m, s⟩) HG2.out.symm (by rw [HQ.out]; exact hd5) hg5
             have hbx5 : w5.heap[g2]? = some (.cells #[.slice na j nc, .int .i64 ((gv + 1 : Nat) : Int), .bool false] 56 (0, 0)) := by
               rw [(Chg.grown hg5).block g2 (Nat.lt_of_lt_of_le (lt_of_blk HP.out.box) hal.size) (fun e => by have h2 := (row_block HP.out.row g2 e).1; have h3 := HG2.out; omega)]
               exact kept_block hal HP.out.box
             obtain ⟨d0, d1, d2⟩ := cells_3 hbx5
             have fb5 := free_of hbx5
             clear hd5 hg5 ho5 hal hbx5))
        obtain ⟨W6, hW6⟩ : ∃ W6, w5.setCell ⟨g2, 0, none⟩ (.slice sa (j + 1) sc) = W6 := ⟨_, rfl⟩
        rw [hW6] at HM5
        have HW6 : Hid (_ = W6) := hW6
        obtain ⟨e0, e1, e2⟩ := cells_3 HM5.out.box
        have hB6 := kept_block HM5.out.below HB.out
        obtain ⟨r0, r1, r2⟩ := cells_3 hB6
        have f6 := free_of hB6
        have HB6 : Hid (W6.heap[g + 1 + 1]? = some (.cells #[.slice none 0 0, .int .i64 0, .bool false] 56 (0, 0))) := hB6
        have hne : g2 ≠ g + 1 + 1 := by have := lt_of_blk HB.out; have := HG2.out; omega
        have hne2 : g + 1 + 1 ≠ g2 := fun e => hne e.symm
        rw [HW6.out]
        clear hW6 d0 d1 d2 fb5 n0 n1 n2 fn c0 c1 c2 m0 m1 m2 hold hB6 hge
        go_region
        go_wp2_with fail
        have hsz : W6.heap.size = (put_3 W6 (g + 1 + 1) (.slice sa (j + 1) sc) (.int .i64 ((gv : Int) + 1)) (.bool false)).heap.size := by simp
        have HF6 : Hid (FlAt (put_3 W6 (g + 1 + 1) (.slice sa (j + 1) sc) (.int .i64 ((gv : Int) + 1)) (.bool false)).drew (.slice sa (j + 1) sc) (l ++ [⟨gv + 1, m, s⟩])) := by
          have h9 : FlAt W6 (.slice sa (j + 1) sc) (l ++ [⟨gv + 1, m, s⟩]) := ⟨HM5.out.row.1, by
            rcases HM5.out.row.2 with h | ⟨g', cap', cur, hv, hb, hr⟩
            · exact .inl h
            · exact .inr ⟨g', cap', cur, hv, Nat.zero_le _, hr⟩⟩
          have hc : Chg W6 (put_3 W6 (g + 1 + 1) (.slice sa (j + 1) sc) (.int .i64 ((gv : Int) + 1)) (.bool false)) (fun k => k = g + 1 + 1) := chg_put3 W6 (g + 1 + 1) _ _ _
          exact owns_below (row_chg h9 hc (fun k hk e => by
            have e : k = g + 1 + 1 := e
            have h1 := (row_block HM5.out.row k hk).1
            have h2 := lt_of_blk HB.out
            omega)) (below_drew (Below.refl _ _))
        exact bodyPost_ret (results_cell_tmp rfl _ _ (g + 1 + 1) 56 _ (0, 0) _ _ rfl rfl ((heap_drew_at _ _).trans (fill_3 HB6.out)) Try.underlying56 rfl (by kernel_rfl)) rfl ⟨fun _ _ => ⟨_, rfl, HF6.out⟩, (fun h => absurd h (by rw [HQ.out]; simp; omega)), below_drew (by rw [← HG.out]; exact fillB_3 (trans2 HBW.out HM5.out.below) (by rw [HG.out]; omega))⟩
end Go.Proofs.Ytfcobhgjkibdgaa
