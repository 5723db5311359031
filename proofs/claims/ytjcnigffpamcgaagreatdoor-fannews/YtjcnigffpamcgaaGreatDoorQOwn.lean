/-
  queue: ownSeen, ownTagged, ownPart.
-/
import Derived.Test.YtjcnigffpamcgaaGreatDoorQCopyI
namespace Go.Proofs.YtjcnigffpamcgaaGreatDoor
open Go.RowKit
set_option linter.unusedVariables false
set_option linter.unusedSimpArgs false

abbrev put_5 (w : World) (g : Nat) (x0 x1 x2 x3 x4 : Value) : World := (((((w.setCell ⟨g, 0, none⟩ x0).setCell ⟨g, 1, none⟩ x1).setCell ⟨g, 2, none⟩ x2).setCell ⟨g, 3, none⟩ x3).setCell ⟨g, 4, none⟩ x4)
theorem fill_5 {w : World} {g : Nat} {t : TypeId} {x0 x1 x2 x3 x4 y0 y1 y2 y3 y4 : Value} (h : w.heap[g]? = some (.cells #[y0, y1, y2, y3, y4] t (0, 0))) : (put_5 w g x0 x1 x2 x3 x4).heap[g]? = some (.cells #[x0, x1, x2, x3, x4] t (0, 0)) := by
  have h0 := same_blk (i := 0) (v := x0) (cs' := #[x0, y1, y2, y3, y4]) h rfl
  have h1 := same_blk (i := 1) (v := x1) (cs' := #[x0, x1, y2, y3, y4]) h0 rfl
  have h2 := same_blk (i := 2) (v := x2) (cs' := #[x0, x1, x2, y3, y4]) h1 rfl
  have h3 := same_blk (i := 3) (v := x3) (cs' := #[x0, x1, x2, x3, y4]) h2 rfl
  have h4 := same_blk (i := 4) (v := x4) (cs' := #[x0, x1, x2, x3, x4]) h3 rfl
  exact h4
theorem fillB_5 {B : Nat} {w0 w : World} {g : Nat} {x0 x1 x2 x3 x4 : Value} (h : Below B w0 w) (hg : B ≤ g) : Below B w0 (put_5 w g x0 x1 x2 x3 x4) := (((((h.setCell hg _).setCell hg _).setCell hg _).setCell hg _).setCell hg _)
theorem fillO_5 {w : World} {g b : Nat} {o : Obj} {x0 x1 x2 x3 x4 : Value} (h : w.heap[b]? = some o) (hne : b ≠ g) : (put_5 w g x0 x1 x2 x3 x4).heap[b]? = some o := (other_blk (other_blk (other_blk (other_blk (other_blk h hne) hne) hne) hne) hne)
theorem cells_5 {W : World} {b : Nat} {t : TypeId} {x0 x1 x2 x3 x4 : Value} (h : W.heap[b]? = some (.cells #[x0, x1, x2, x3, x4] t (0, 0))) : W.cell? ⟨b, 0, none⟩ = some x0 ∧ W.cell? ⟨b, 1, none⟩ = some x1 ∧ W.cell? ⟨b, 2, none⟩ = some x2 ∧ W.cell? ⟨b, 3, none⟩ = some x3 ∧ W.cell? ⟨b, 4, none⟩ = some x4 := by
  simp [World.cell?, h]
theorem chg_put5 (w : World) (g0 g : Nat) (v x0 x1 x2 x3 x4 : Value) : Chg w (put_5 (w.setCell ⟨g0, 4, none⟩ v) g x0 x1 x2 x3 x4) (fun b => b = g0 ∨ b = g) := by
  have h : ∀ (W : World) (o : Nat) (x : Value), Chg W (W.setCell ⟨g, o, none⟩ x) (fun b => b = g0 ∨ b = g) := fun W o x => (Chg.set W ⟨g, o, none⟩ x).mono (fun b _ e => .inr e)
  have h0 : Chg w (w.setCell ⟨g0, 4, none⟩ v) (fun b => b = g0 ∨ b = g) := (Chg.set w ⟨g0, 4, none⟩ v).mono (fun b _ e => .inl e)
  exact ((((h0.trans (h _ 0 x0)).trans (h _ 1 x1)).trans (h _ 2 x2)).trans (h _ 3 x3)).trans (h _ 4 x4)
set_option maxHeartbeats 1600000 in
set_option maxRecDepth 100000 in
theorem ownSeen_any (s : SeT) (w : World) (hs : s.Small) :
    Calls Tryz.prog 286 #[.agg #[.string s.p, .string s.d, .int .i64 s.v]] w fun e w' => e = .returned (.agg #[.string s.p, .string s.d, .int .i64 s.v]) ∧ Below w.heap.size w w' := by
  obtain ⟨p, d, v⟩ := s
  have HP : Hid (∀ w, Calls Tryz.prog 123 #[.string p] w fun e w' => e = .returned (.string p) ∧ Below w.heap.size w w') := fun w => clone_any p w hs.p
  have HD : Hid (∀ w, Calls Tryz.prog 123 #[.string d] w fun e w' => e = .returned (.string d) ∧ Below w.heap.size w w') := fun w => clone_any d w hs.d
  have HA0 : Hid (((w.alloc (.cells #[.string p, .string d, .int .i64 v] 124)).alloc (.cells #[.string ⟨#[]⟩, .string ⟨#[]⟩, .int .i64 0] 124)).heap[w.heap.size]? = some (.cells #[.string p, .string d, .int .i64 v] 124 (0, 0))) := new_old (heap_alloc_new _ _) _
  have HR0 : Hid (((w.alloc (.cells #[.string p, .string d, .int .i64 v] 124)).alloc (.cells #[.string ⟨#[]⟩, .string ⟨#[]⟩, .int .i64 0] 124)).heap[w.heap.size + 1]? = some (.cells #[.string ⟨#[]⟩, .string ⟨#[]⟩, .int .i64 0] 124 (0, 0))) := heap_new' (by simp)
  have HB0 : Hid (Below w.heap.size w ((w.alloc (.cells #[.string p, .string d, .int .i64 v] 124)).alloc (.cells #[.string ⟨#[]⟩, .string ⟨#[]⟩, .int .i64 0] 124))) := ((Below.refl _ _).alloc (Nat.le_refl _) _).alloc (by simp) _
  clear hs
  obtain ⟨a0, a1, a2⟩ := cells_3 HA0.out
  go_enter Tryz.func286, Tryz.ntmps286
  go_wp2_with fail
  refine (HP.out _).mono ?_
  rintro e w1 ⟨rfl, hb1⟩
  have HA1 : Hid _ := kept_block hb1 HA0.out
  have HR1 : Hid _ := kept_block hb1 HR0.out
  have HB1 : Hid (Below w.heap.size w w1) := trans2 HB0.out hb1
  clear hb1 a0 a1 a2
  obtain ⟨a0, a1, a2⟩ := cells_3 HA1.out
  have f1 := free_of HA1.out
  have hs1 := setCell_self HA1.out a0
  go_wp2_with fail
  refine (HD.out _).mono ?_
  rintro e w2 ⟨rfl, hb2⟩
  have HA2 : Hid _ := kept_block hb2 HA1.out
  have HR2 : Hid _ := kept_block hb2 HR1.out
  have HB2 : Hid (Below w.heap.size w w2) := trans2 HB1.out hb2
  clear hb2 a0 a1 a2 f1 hs1
  obtain ⟨a0, a1, a2⟩ := cells_3 HA2.out
  obtain ⟨r0, r1, r2⟩ := cells_3 HR2.out
  have f1 := free_of HA2.out
  have f2 := free_of HR2.out
  have hs1 := setCell_self HA2.out a1
  go_wp2_with fail
  exact bodyPost_ret (results_cell_row rfl _ _ (w.heap.size + 1) 124 _ (0, 0) _ rfl (fill_3 HR2.out) Tryz.underlying124 rfl (by kernel_rfl)) rfl ⟨rfl, fillB_3 HB2.out (by omega)⟩
set_option maxHeartbeats 3200000 in
set_option maxRecDepth 100000 in
theorem ownTagged_any (t : TgT) (u : Value) (w : World) (S : Nat → Prop) (h : IntsAt w S u t.tags) (hs : t.Small) :
    Calls Tryz.prog 207 #[.agg #[.int .i64 t.k, .string t.p, .string t.d, .int .i64 t.v, u]] w fun e w' => ∃ u', e = .returned (.agg #[.int .i64 t.k, .string t.p, .string t.d, .int .i64 t.v, u']) ∧ IntsAt w' (fun b => w.heap.size ≤ b) u' t.tags ∧ Below w.heap.size w w' := by
  obtain ⟨k, p, d, v, tags⟩ := t
  have HP : Hid (∀ w, Calls Tryz.prog 123 #[.string p] w fun e w' => e = .returned (.string p) ∧ Below w.heap.size w w') := fun w => clone_any p w hs.p
  have HD : Hid (∀ w, Calls Tryz.prog 123 #[.string d] w fun e w' => e = .returned (.string d) ∧ Below w.heap.size w w') := fun w => clone_any d w hs.d
  have HL : Hid (∀ w', Below w.heap.size w w' → Calls Tryz.prog 283 #[u, .func (.func 284) #[] #[]] w' fun e w'' => ∃ u', e = .returned u' ∧ IntsAt w'' (fun b => w'.heap.size ≤ b) u' tags ∧ Below w'.heap.size w' w'') := fun w' hb => copiesI_any u tags w' S (h.keep (Kp.of_below hb S)) hs.len
  have HA0 : Hid (((w.alloc (.cells #[.int .i64 k, .string p, .string d, .int .i64 v, u] 189)).alloc (.cells #[.int .i64 0, .string ⟨#[]⟩, .string ⟨#[]⟩, .int .i64 0, .slice none 0 0] 189)).heap[w.heap.size]? = some (.cells #[.int .i64 k, .string p, .string d, .int .i64 v, u] 189 (0, 0))) := new_old (heap_alloc_new _ _) _
  have HR0 : Hid (((w.alloc (.cells #[.int .i64 k, .string p, .string d, .int .i64 v, u] 189)).alloc (.cells #[.int .i64 0, .string ⟨#[]⟩, .string ⟨#[]⟩, .int .i64 0, .slice none 0 0] 189)).heap[w.heap.size + 1]? = some (.cells #[.int .i64 0, .string ⟨#[]⟩, .string ⟨#[]⟩, .int .i64 0, .slice none 0 0] 189 (0, 0))) := heap_new' (by simp)
  have HB0 : Hid (Below w.heap.size w ((w.alloc (.cells #[.int .i64 k, .string p, .string d, .int .i64 v, u] 189)).alloc (.cells #[.int .i64 0, .string ⟨#[]⟩, .string ⟨#[]⟩, .int .i64 0, .slice none 0 0] 189))) := ((Below.refl _ _).alloc (Nat.le_refl _) _).alloc (by simp) _
  clear hs h
  obtain ⟨a0, a1, a2, a3, a4⟩ := cells_5 HA0.out
  go_enter Tryz.func207, Tryz.ntmps207
  go_wp2_with fail
  refine (HP.out _).mono ?_
  rintro e w1 ⟨rfl, hb1⟩
  have HA1 : Hid _ := kept_block hb1 HA0.out
  have HR1 : Hid _ := kept_block hb1 HR0.out
  have HB1 : Hid (Below w.heap.size w w1) := trans2 HB0.out hb1
  clear hb1 a0 a1 a2 a3 a4
  obtain ⟨a0, a1, a2, a3, a4⟩ := cells_5 HA1.out
  have f1 := free_of HA1.out
  have hs1 := setCell_self HA1.out a1
  go_wp2_with fail
  refine (HD.out _).mono ?_
  rintro e w2 ⟨rfl, hb2⟩
  have HA2 : Hid _ := kept_block hb2 HA1.out
  have HR2 : Hid _ := kept_block hb2 HR1.out
  have HB2 : Hid (Below w.heap.size w w2) := trans2 HB1.out hb2
  clear hb2 a0 a1 a2 a3 a4 f1 hs1
  obtain ⟨a0, a1, a2, a3, a4⟩ := cells_5 HA2.out
  have f1 := free_of HA2.out
  have hs1 := setCell_self HA2.out a2
  go_wp2_with fail
  refine Calls.mono (HL.out _ HB2.out) ?_
  rintro e w3 ⟨u', rfl, hu, hb3⟩
  obtain ⟨ua, uc, rfl, huc⟩ := _root_.id hu
  have HU : Hid (IntsAt w3 (fun b => w.heap.size ≤ b ∧ b ≠ w.heap.size ∧ b ≠ w.heap.size + 1) (.slice ua tags.length uc) tags) := hu.mono (fun b _ hb => by
    have := lt_of_blk HR2.out
    exact ⟨by omega, by omega, by omega⟩)
  have HA3 : Hid _ := kept_block hb3 HA2.out
  have HR3 : Hid _ := kept_block hb3 HR2.out
  have HB3 : Hid (Below w.heap.size w w3) := trans2 HB2.out hb3
  clear hb3 a0 a1 a2 a3 a4 f1 hs1 hu huc
  obtain ⟨a0, a1, a2, a3, a4⟩ := cells_5 HA3.out
  have f1 := free_of HA3.out
  have HA' : Hid _ := same_blk (i := 4) (v := (.slice ua tags.length uc)) (cs' := #[.int .i64 k, .string p, .string d, .int .i64 v, (.slice ua tags.length uc)]) HA3.out rfl
  have HR' : Hid ((w3.setCell ⟨w.heap.size, 4, none⟩ (.slice ua tags.length uc)).heap[w.heap.size + 1]? = _) := other_blk HR3.out (by omega)
  obtain ⟨b0, b1, b2, b3, b4⟩ := cells_5 HA'.out
  obtain ⟨r0, r1, r2, r3, r4⟩ := cells_5 HR'.out
  have f2 := free_of HR'.out
  go_wp2_with fail
  refine bodyPost_ret (results_cell_row rfl _ _ (w.heap.size + 1) 189 _ (0, 0) _ rfl (fill_5 HR'.out) Tryz.underlying189 rfl (by kernel_rfl)) rfl ⟨(.slice ua tags.length uc), rfl, ?_, fillB_5 (HB3.out.setCell (Nat.le_refl _) _) (by omega)⟩
  exact IntsAt.mono (IntsAt.keep HU.out (Kp.of_chg (chg_put5 _ _ _ _ _ _ _ _ _) (fun b _ hb e => by
    rcases e with e | e
    · exact hb.2.1 e
    · exact hb.2.2 e))) (fun b _ hb => hb.1)
end Go.Proofs.YtjcnigffpamcgaaGreatDoor
