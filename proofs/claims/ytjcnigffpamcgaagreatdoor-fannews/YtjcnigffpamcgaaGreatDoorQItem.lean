/-
  queue: own.
-/
import Derived.Test.YtjcnigffpamcgaaGreatDoorQCopyT
import Derived.Test.YtjcnigffpamcgaaGreatDoorQCopyP
namespace Go.Proofs.YtjcnigffpamcgaaGreatDoor
open Go.RowKit
set_option linter.unusedVariables false
set_option linter.unusedSimpArgs false

abbrev itA (t : ItT) (u1 u2 : Value) : Array Value := #[.int .i64 t.st, .int .i64 t.af, .bool t.mark, u1, u2]
abbrev NewIn (w : World) : Nat → Prop := fun b => w.heap.size ≤ b
set_option maxHeartbeats 3200000 in
set_option maxRecDepth 100000 in
theorem ownItem_any (t : ItT) (u1 u2 : Value) (w : World) (S : Nat → Prop) (h1 : TgsAt w S u1 t.cs) (h2 : PasAt w S u2 t.ps) (hs : t.Small) :
    Calls Tryz.prog 133 #[.agg (itA t u1 u2)] w fun e w' => ∃ v1 v2, e = .returned (.agg (itA t v1 v2)) ∧ TgsAt w' (NewIn w) v1 t.cs ∧ PasAt w' (NewIn w) v2 t.ps ∧ Below w.heap.size w w' := by
  obtain ⟨st, af, mark, cs, ps⟩ := t
  have HL1 : Hid (∀ w', Below w.heap.size w w' → Calls Tryz.prog 206 #[u1, .func (.func 207) #[] #[]] w' fun e w'' => ∃ u', e = .returned u' ∧ TgsAt w'' (NewIn w') u' cs ∧ Below w'.heap.size w' w'') := fun w' hb => copiesT_any u1 cs w' S (TgsAt.keep h1 (Kp.of_below hb S)) hs.cs.len hs.cs.each
  have HL2 : Hid (∀ w', Below w.heap.size w w' → Calls Tryz.prog 208 #[u2, .func (.func 209) #[] #[]] w' fun e w'' => ∃ u', e = .returned u' ∧ PasAt w'' (NewIn w') u' ps ∧ Below w'.heap.size w' w'') := fun w' hb => copiesP_any u2 ps w' S (PasAt.keep h2 (Kp.of_below hb S)) hs.ps.len hs.ps.each
  have HA0 : Hid (((w.alloc (.cells #[.int .i64 st, .int .i64 af, .bool mark, u1, u2] 130)).alloc (.cells #[.int .i64 0, .int .i64 0, .bool false, .slice none 0 0, .slice none 0 0] 130)).heap[w.heap.size]? = some (.cells #[.int .i64 st, .int .i64 af, .bool mark, u1, u2] 130 (0, 0))) := new_old (heap_alloc_new _ _) _
  have HR0 : Hid (((w.alloc (.cells #[.int .i64 st, .int .i64 af, .bool mark, u1, u2] 130)).alloc (.cells #[.int .i64 0, .int .i64 0, .bool false, .slice none 0 0, .slice none 0 0] 130)).heap[w.heap.size + 1]? = some (.cells #[.int .i64 0, .int .i64 0, .bool false, .slice none 0 0, .slice none 0 0] 130 (0, 0))) := heap_new' (by simp)
  have HB0 : Hid (Below w.heap.size w ((w.alloc (.cells #[.int .i64 st, .int .i64 af, .bool mark, u1, u2] 130)).alloc (.cells #[.int .i64 0, .int .i64 0, .bool false, .slice none 0 0, .slice none 0 0] 130))) := ((Below.refl _ _).alloc (Nat.le_refl _) _).alloc (by simp) _
  clear hs h1 h2
  obtain ⟨a0, a1, a2, a3, a4⟩ := cells_5 HA0.out
  go_enter Tryz.func133, Tryz.ntmps133
  go_wp2_with fail
  refine Calls.mono (HL1.out _ HB0.out) ?_
  rintro e w1 ⟨v1, rfl, hu1, hb1⟩
  obtain ⟨xa, xc, rfl, _⟩ := _root_.id hu1
  have HU1 : Hid (TgsAt w1 (fun b => w.heap.size ≤ b ∧ b ≠ w.heap.size ∧ b ≠ w.heap.size + 1) (.slice xa cs.length xc) cs) := TgsAt.mono hu1 (fun b _ hb => by
    simp [NewIn] at hb
    exact ⟨by omega, by omega, by omega⟩)
  have HA1 : Hid _ := kept_block hb1 HA0.out
  have HR1 : Hid _ := kept_block hb1 HR0.out
  have HB1 : Hid (Below w.heap.size w w1) := trans2 HB0.out hb1
  clear hb1 hu1 a0 a1 a2 a3 a4
  obtain ⟨a0, a1, a2, a3, a4⟩ := cells_5 HA1.out
  have f1 := free_of HA1.out
  have HA2 : Hid _ := same_blk (i := 3) (v := .slice xa cs.length xc) (cs' := #[.int .i64 st, .int .i64 af, .bool mark, .slice xa cs.length xc, u2]) HA1.out rfl
  have HR2 : Hid ((w1.setCell ⟨w.heap.size, 3, none⟩ (.slice xa cs.length xc)).heap[w.heap.size + 1]? = _) := other_blk HR1.out (by omega)
  have HB2 : Hid (Below w.heap.size w (w1.setCell ⟨w.heap.size, 3, none⟩ (.slice xa cs.length xc))) := HB1.out.setCell (Nat.le_refl _) _
  have HU2 : Hid (TgsAt (w1.setCell ⟨w.heap.size, 3, none⟩ (.slice xa cs.length xc)) (fun b => w.heap.size ≤ b ∧ b ≠ w.heap.size ∧ b ≠ w.heap.size + 1) (.slice xa cs.length xc) cs) := TgsAt.keep HU1.out (Kp.of_chg (Chg.set w1 ⟨w.heap.size, 3, none⟩ _) (fun b _ hb e => hb.2.1 e))
  obtain ⟨c0, c1, c2, c3, c4⟩ := cells_5 HA2.out
  go_wp2_with fail
  refine Calls.mono (HL2.out _ HB2.out) ?_
  rintro e w3 ⟨v2, rfl, hu2, hb3⟩
  obtain ⟨ya, yc, rfl, _⟩ := _root_.id hu2
  have HP3 : Hid (PasAt w3 (fun b => w.heap.size ≤ b ∧ b ≠ w.heap.size ∧ b ≠ w.heap.size + 1) (.slice ya ps.length yc) ps) := PasAt.mono hu2 (fun b _ hb => by
    have h1 := lt_of_blk HR1.out
    simp [NewIn] at hb
    exact ⟨by omega, by omega, by omega⟩)
  have HA3 : Hid _ := kept_block hb3 HA2.out
  have HR3 : Hid _ := kept_block hb3 HR2.out
  have HB3 : Hid (Below w.heap.size w w3) := trans2 HB2.out hb3
  have HU3 : Hid (TgsAt w3 (fun b => w.heap.size ≤ b ∧ b ≠ w.heap.size ∧ b ≠ w.heap.size + 1) (.slice xa cs.length xc) cs) := TgsAt.keep HU2.out (Kp.of_below hb3 _)
  clear hb3 hu2 a0 a1 a2 a3 a4 c0 c1 c2 c3 c4 f1
  obtain ⟨a0, a1, a2, a3, a4⟩ := cells_5 HA3.out
  have f1 := free_of HA3.out
  have HA4 : Hid _ := same_blk (i := 4) (v := .slice ya ps.length yc) (cs' := #[.int .i64 st, .int .i64 af, .bool mark, .slice xa cs.length xc, .slice ya ps.length yc]) HA3.out rfl
  have HR4 : Hid ((w3.setCell ⟨w.heap.size, 4, none⟩ (.slice ya ps.length yc)).heap[w.heap.size + 1]? = _) := other_blk HR3.out (by omega)
  obtain ⟨b0, b1, b2, b3, b4⟩ := cells_5 HA4.out
  obtain ⟨r0, r1, r2, r3, r4⟩ := cells_5 HR4.out
  have f2 := free_of HR4.out
  go_wp2_with fail
  have HK : Kp w3 (put_5 (w3.setCell ⟨w.heap.size, 4, none⟩ (.slice ya ps.length yc)) (w.heap.size + 1) (.int .i64 st) (.int .i64 af) (.bool mark) (.slice xa cs.length xc) (.slice ya ps.length yc)) (fun b => w.heap.size ≤ b ∧ b ≠ w.heap.size ∧ b ≠ w.heap.size + 1) := Kp.of_chg (chg_put5 _ _ _ _ _ _ _ _ _) (fun b _ hb e => by
    rcases e with e | e
    · exact hb.2.1 e
    · exact hb.2.2 e)
  refine bodyPost_ret (results_cell_row rfl _ _ (w.heap.size + 1) 130 _ (0, 0) _ rfl (fill_5 HR4.out) Tryz.underlying130 rfl (by kernel_rfl)) rfl ⟨.slice xa cs.length xc, .slice ya ps.length yc, rfl, ?_, ?_, fillB_5 (HB3.out.setCell (Nat.le_refl _) _) (by omega)⟩
  · exact TgsAt.mono (TgsAt.keep HU3.out HK) (fun b _ hb => hb.1)
  · exact PasAt.mono (PasAt.keep HP3.out HK) (fun b _ hb => hb.1)
end Go.Proofs.YtjcnigffpamcgaaGreatDoor
