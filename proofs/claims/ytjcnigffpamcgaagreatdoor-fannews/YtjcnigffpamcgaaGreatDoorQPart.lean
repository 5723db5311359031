/-
  queue: ownPart.
-/
import Derived.Test.YtjcnigffpamcgaaGreatDoorQCopyS
namespace Go.Proofs.YtjcnigffpamcgaaGreatDoor
open Go.RowKit
set_option linter.unusedVariables false
set_option linter.unusedSimpArgs false

set_option maxHeartbeats 3200000 in
set_option maxRecDepth 100000 in
theorem ownPart_any (t : PaT) (u : Value) (w : World) (S : Nat → Prop) (h : SesAt w S u t.nodes) (hs : t.Small) :
    Calls Tryz.prog 209 #[.agg #[.int .i64 t.id, .int .i64 t.st, .string t.p, .int .i64 t.k, u]] w fun e w' => ∃ u', e = .returned (.agg #[.int .i64 t.id, .int .i64 t.st, .string t.p, .int .i64 t.k, u']) ∧ SesAt w' (fun b => w.heap.size ≤ b) u' t.nodes ∧ Below w.heap.size w w' := by
  obtain ⟨id, st, p, k, nodes⟩ := t
  have HP : Hid (∀ w, Calls Tryz.prog 123 #[.string p] w fun e w' => e = .returned (.string p) ∧ Below w.heap.size w w') := fun w => clone_any p w hs.p
  have HL : Hid (∀ w', Below w.heap.size w w' → Calls Tryz.prog 285 #[u, .func (.func 286) #[] #[]] w' fun e w'' => ∃ u', e = .returned u' ∧ SesAt w'' (fun b => w'.heap.size ≤ b) u' nodes ∧ Below w'.heap.size w' w'') := fun w' hb => copiesS_any u nodes w' S (h.keep (Kp.of_below hb S)) hs.len hs.each
  have HA0 : Hid (((w.alloc (.cells #[.int .i64 id, .int .i64 st, .string p, .int .i64 k, u] 118)).alloc (.cells #[.int .i64 0, .int .i64 0, .string ⟨#[]⟩, .int .i64 0, .slice none 0 0] 118)).heap[w.heap.size]? = some (.cells #[.int .i64 id, .int .i64 st, .string p, .int .i64 k, u] 118 (0, 0))) := new_old (heap_alloc_new _ _) _
  have HR0 : Hid (((w.alloc (.cells #[.int .i64 id, .int .i64 st, .string p, .int .i64 k, u] 118)).alloc (.cells #[.int .i64 0, .int .i64 0, .string ⟨#[]⟩, .int .i64 0, .slice none 0 0] 118)).heap[w.heap.size + 1]? = some (.cells #[.int .i64 0, .int .i64 0, .string ⟨#[]⟩, .int .i64 0, .slice none 0 0] 118 (0, 0))) := heap_new' (by simp)
  have HB0 : Hid (Below w.heap.size w ((w.alloc (.cells #[.int .i64 id, .int .i64 st, .string p, .int .i64 k, u] 118)).alloc (.cells #[.int .i64 0, .int .i64 0, .string ⟨#[]⟩, .int .i64 0, .slice none 0 0] 118))) := ((Below.refl _ _).alloc (Nat.le_refl _) _).alloc (by simp) _
  clear hs h
  obtain ⟨a0, a1, a2, a3, a4⟩ := cells_5 HA0.out
  go_enter Tryz.func209, Tryz.ntmps209
  go_wp2_with fail
  refine (HP.out _).mono ?_
  rintro e w1 ⟨rfl, hb1⟩
  have HA1 : Hid _ := kept_block hb1 HA0.out
  have HR1 : Hid _ := kept_block hb1 HR0.out
  have HB1 : Hid (Below w.heap.size w w1) := trans2 HB0.out hb1
  clear hb1 a0 a1 a2 a3 a4
  obtain ⟨a0, a1, a2, a3, a4⟩ := cells_5 HA1.out
  have f1 := free_of HA1.out
  have hs1 := setCell_self HA1.out a2
  go_wp2_with fail
  refine Calls.mono (HL.out _ HB1.out) ?_
  rintro e w2 ⟨u', rfl, hu, hb2⟩
  obtain ⟨ua, uc, rfl, huc⟩ := _root_.id hu
  have HU : Hid (SesAt w2 (fun b => w.heap.size ≤ b ∧ b ≠ w.heap.size ∧ b ≠ w.heap.size + 1) (.slice ua nodes.length uc) nodes) := hu.mono (fun b _ hb => by
    have := lt_of_blk HR1.out
    exact ⟨by omega, by omega, by omega⟩)
  have HA2 : Hid _ := kept_block hb2 HA1.out
  have HR2 : Hid _ := kept_block hb2 HR1.out
  have HB2 : Hid (Below w.heap.size w w2) := trans2 HB1.out hb2
  clear hb2 a0 a1 a2 a3 a4 f1 hs1 hu huc
  obtain ⟨a0, a1, a2, a3, a4⟩ := cells_5 HA2.out
  have f1 := free_of HA2.out
  have HA' : Hid _ := same_blk (i := 4) (v := (.slice ua nodes.length uc)) (cs' := #[.int .i64 id, .int .i64 st, .string p, .int .i64 k, (.slice ua nodes.length uc)]) HA2.out rfl
  have HR' : Hid ((w2.setCell ⟨w.heap.size, 4, none⟩ (.slice ua nodes.length uc)).heap[w.heap.size + 1]? = _) := other_blk HR2.out (by omega)
  obtain ⟨b0, b1, b2, b3, b4⟩ := cells_5 HA'.out
  obtain ⟨r0, r1, r2, r3, r4⟩ := cells_5 HR'.out
  have f2 := free_of HR'.out
  go_wp2_with fail
  refine bodyPost_ret (results_cell_row rfl _ _ (w.heap.size + 1) 118 _ (0, 0) _ rfl (fill_5 HR'.out) Tryz.underlying118 rfl (by kernel_rfl)) rfl ⟨(.slice ua nodes.length uc), rfl, ?_, fillB_5 (HB2.out.setCell (Nat.le_refl _) _) (by omega)⟩
  exact SesAt.mono (SesAt.keep HU.out (Kp.of_chg (chg_put5 _ _ _ _ _ _ _ _ _) (fun b _ hb e => by
    rcases e with e | e
    · exact hb.2.1 e
    · exact hb.2.2 e))) (fun b _ hb => hb.1)
end Go.Proofs.YtjcnigffpamcgaaGreatDoor
