/-
  line: turned.
-/
import Derived.Test.YtfcobhgjkibdgaaLAtD
import Derived.Laws.IdiomStrings
namespace Go.Proofs.Ytfcobhgjkibdgaa
open Go.RowKit Go.Maps
set_option linter.unusedVariables false
set_option linter.unusedSimpArgs false

theorem nb_data {s : ByteArray} {j : Nat} (h : j < s.data.size) : nb s j = (s.data[j].toNat : Int) := by
  unfold nb
  rw [dif_pos (show j < s.size from h)]
  rfl
set_option maxHeartbeats 1600000 in
set_option maxRecDepth 100000 in
theorem turned_any (s : ByteArray) (at' t : Int) (w : World) (h0 : 0 ≤ at') (hs : 0 < s.size) (hs2 : s.size ≤ 1000000) :
    Calls Try.prog 31 #[.string s, .int .i64 at', .int .u8 t] w fun e w' => e = .returned (.string (tnB s at' t)) ∧ Below w.heap.size w w' := by
  obtain ⟨r, hr⟩ : ∃ z, at'.toNat % s.size = z := ⟨_, rfl⟩
  have hrl : r < s.size := by rw [← hr]; exact Nat.mod_lt _ hs
  have hcv := run_bytes_of_string (P := Try.prog) w 9 99 5 s Try.underlying9 Try.underlying99 Try.underlying5
  obtain ⟨cap, hcap⟩ : ∃ z, grownCap w s.size 0 5 = z := ⟨_, rfl⟩
  rw [hcap] at hcv
  obtain ⟨W, hW⟩ : ∃ z, w.drew.alloc (.cells (bytesRow s cap) 5 ((bytesRow s cap).size, (bytesRow s cap).size + 1)) = z := ⟨_, rfl⟩
  rw [hW] at hcv
  obtain ⟨g, hg⟩ : ∃ g, w.heap.size = g := ⟨_, rfl⟩
  have hX : W.heap[g]? = some (.cells (bytesRow s cap) 5 ((bytesRow s cap).size, (bytesRow s cap).size + 1)) := by rw [← hW, ← hg]; exact heap_alloc_new w.drew _
  have HB : Hid (Below w.heap.size w W) := by show Below _ _ _; rw [← hW]; exact (below_drew (Below.refl _ _)).alloc (Nat.le_refl _) _
  have hsz : s.size ≤ (bytesRow s cap).size := by unfold bytesRow; rw [Array.size_append, Array.size_map]; exact Nat.le_add_right _ _
  have c0 : W.cell? ⟨g, r, none⟩ = some (.int .u8 (nb s r)) := by
    rw [cell_blkD hX, bytesRow_at s cap r hrl, nb_data hrl]
  have f0 : W.frozen? ⟨g, r, none⟩ = false := by
    simp [World.frozen?, hX]
    omega
  obtain ⟨W2, hW2⟩ : ∃ z, W.setCell ⟨g, r, none⟩ (.int .u8 (bits .xor .u8 (nb s r) t)) = z := ⟨_, rfl⟩
  have HW2 : Hid (_ = W2) := hW2
  have HB2 : Hid (Below w.heap.size w W2) := by show Below _ _ _; rw [← hW2]; exact HB.out.trans ((Chg.set W ⟨g, r, none⟩ _).below HB.out.size (fun k _ e => by rw [hg]; exact Nat.le_of_eq e.symm))
  have hcv2 : (convert 99 9 (.slice (some ⟨g, 0, none⟩) s.size cap)).run Try.prog W2 = .ok (.string (tnB s at' t)) W2 := by
    unfold tnB
    rw [hr]
    refine run_convert_bytes_arg _ 99 5 Try.underlying99 Try.underlying5 g 0 s.size cap (tnL s r t) (tnL_len _ _ _) (fun i hi => ?_) 9 Try.underlying9
    rw [Nat.zero_add, List.getD_eq_getElem?_getD, tnL_at hi]
    by_cases e : i = r
    · subst e
      rw [← hW2, if_pos rfl]
      exact World.cell?_setCell_same (h := c0) ..
    · rw [if_neg e, ← hW2, World.cell?_setCell_other (h := fun h => e (by injection h with h1 h2; exact h2.symm)), cell_blkD hX, bytesRow_at s cap i hi, nb_data hi]
      rfl
  obtain ⟨R, hR⟩ : ∃ R, tnB s at' t = R := ⟨_, rfl⟩
  rw [hR] at hcv2 ⊢
  obtain ⟨N, hN⟩ : ∃ z, s.size = z := ⟨_, rfl⟩
  have hr1 : at'.tmod (N : Int) = (r : Int) := by
    rw [← hr, ← hN]
    obtain ⟨k, rfl⟩ := Int.eq_ofNat_of_zero_le h0
    rw [← Int.ofNat_tmod]
    simp
  rw [hN] at hcv hcv2 hrl hs hs2
  have hri : (r : Int) < (N : Int) := by omega
  have hrw : IntKind.i64.wrap (r : Int) = (r : Int) := by unfold IntKind.wrap; simp [IntKind.bits, IntKind.signed]; omega
  have hN0 : ((N : Int) == 0) = false := by simp; omega
  have hN1 : (N : Int) ≠ 0 := by omega
  rw [hg] at hcv
  clear hr hcap hW hg hX hsz hW2 hR h0 hs hN hs2
  go_enter Try.func31, Try.ntmps31
  go_upto_region 3 with fail
  rw [HW2.out]
  go_wp2_with fail
  go_ret
  exact ⟨rfl, HB2.out⟩
end Go.Proofs.Ytfcobhgjkibdgaa
