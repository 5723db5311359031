/-
  line: a message in memory of its own.
-/
import Derived.Test.YtfcobhgjkibdgaaLMapS
import Derived.Test.YtfcobhgjkibdgaaRClone
namespace Go.Proofs.Ytfcobhgjkibdgaa
open Go.RowKit Go.Maps
set_option linter.unusedVariables false
set_option linter.unusedSimpArgs false

theorem clone_any (s : ByteArray) (w : World) (h : s.size ≤ 281474976710656) : Calls Try.prog 45 #[.string s] w fun e w' => e = .returned (.string s) ∧ Below w.heap.size w w' := by
  have HC : Hid _ := Try.stringslite_Clone s w h
  clear h
  go_enter Try.func45, Try.ntmps45
  go_wp2_with fail
  refine Calls.mono HC.out ?_
  rintro e w1 ⟨rfl, hb⟩
  have HB : Hid (Below w.heap.size w w1) := hb
  clear hb
  go_wp2_with fail
  go_ret
  exact ⟨rfl, HB.out⟩
set_option maxHeartbeats 1600000 in
set_option maxRecDepth 100000 in
theorem own_any (m : MsT) (w : World) (h : m.b.size ≤ 1000000) : Calls Try.prog 32 #[m.val] w fun e w' => e = .returned m.val ∧ Below w.heap.size w w' := by
  obtain ⟨f, t, s⟩ := m
  have HC : Hid (∀ w, Calls Try.prog 45 #[.string s] w fun e w' => e = .returned (.string s) ∧ Below w.heap.size w w') := fun w => clone_any s w (Nat.le_trans h (by decide))
  obtain ⟨hA, hB, hbel⟩ := pair_blocks (w := w) (t := 23) (cs := #[.int .i64 f, .int .i64 t, .string s]) (t' := 23) (cs' := #[.int .i64 0, .int .i64 0, .string ⟨#[]⟩])
  obtain ⟨W, hW⟩ : ∃ W, ((w.alloc (.cells #[.int .i64 f, .int .i64 t, .string s] 23)).alloc (.cells #[.int .i64 0, .int .i64 0, .string ⟨#[]⟩] 23)) = W := ⟨_, rfl⟩
  rw [hW] at hA hB hbel
  obtain ⟨g, hg⟩ : ∃ g, w.heap.size = g := ⟨_, rfl⟩
  have HBW : Hid (Below w.heap.size w W) := hbel
  rw [hg] at hA hB
  have HG : Hid (w.heap.size = g) := hg
  have HW : Hid (_ = W) := hW
  have HA : Hid (W.heap[g]? = some (.cells #[.int .i64 f, .int .i64 t, .string s] 23 (0, 0))) := hA
  have HB : Hid (W.heap[g + 1]? = some (.cells #[.int .i64 0, .int .i64 0, .string ⟨#[]⟩] 23 (0, 0))) := hB
  obtain ⟨c0, c1, c2⟩ := cells_3 hA
  clear hW hA hB hbel hg h
  go_enter Try.func32, Try.ntmps32
  go_upto_region 1 with fail
  rw [HW.out, HG.out]
  go_wp2_with fail
  refine Calls.mono (HC.out _) ?_
  rintro e w1 ⟨rfl, hb1⟩
  have HA1 : Hid (w1.heap[g]? = some (.cells #[.int .i64 f, .int .i64 t, .string s] 23 (0, 0))) := kept_block hb1 HA.out
  have HB1 : Hid (w1.heap[g + 1]? = some (.cells #[.int .i64 0, .int .i64 0, .string ⟨#[]⟩] 23 (0, 0))) := kept_block hb1 HB.out
  have HBW1 : Hid (Below w.heap.size w w1) := trans2 HBW.out hb1
  have f1 := free_of HA1.out
  clear hb1 c0 c1 c2
  obtain ⟨W2, hW2⟩ : ∃ z, w1.setCell ⟨g, 2, none⟩ (.string s) = z := ⟨_, rfl⟩
  have HW2 : Hid (_ = W2) := hW2
  have HA2 : Hid (W2.heap[g]? = some (.cells #[.int .i64 f, .int .i64 t, .string s] 23 (0, 0))) := by show _ = _; rw [← hW2]; exact set_at HA1.out
  have HB2 : Hid (W2.heap[g + 1]? = some (.cells #[.int .i64 0, .int .i64 0, .string ⟨#[]⟩] 23 (0, 0))) := by show _ = _; rw [← hW2]; exact (Below.heap_setCell w1 ⟨g, 2, none⟩ _ (g + 1) (by show g + 1 ≠ g; omega)).trans HB1.out
  have HBW2 : Hid (Below w.heap.size w W2) := by show Below _ _ _; rw [← hW2]; exact HBW1.out.trans ((Chg.set w1 ⟨g, 2, none⟩ (.string s)).below HBW1.out.size (fun k _ e => by rw [HG.out]; exact Nat.le_of_eq e.symm))
  clear hW2
  obtain ⟨c0, c1, c2⟩ := cells_3 HA1.out
  go_upto_region 2 with fail
  rw [HW2.out]
  clear c0 c1 c2 f1
  obtain ⟨c0, c1, c2⟩ := cells_3 HA2.out
  obtain ⟨r0, r1, r2⟩ := cells_3 HB2.out
  have f1 := free_of HB2.out
  go_wp2_with fail
  exact bodyPost_ret (results_cell rfl _ _ (g + 1) 23 _ (0, 0) _ rfl (fill_3 HB2.out) Try.underlying23 rfl (by kernel_rfl)) rfl ⟨rfl, fillB_3 HBW2.out (by rw [HG.out]; omega)⟩
end Go.Proofs.Ytfcobhgjkibdgaa
