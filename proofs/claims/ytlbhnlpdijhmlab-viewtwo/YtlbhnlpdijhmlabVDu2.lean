/-
  heraldref12: New.
-/
import Derived.Test.YtlbhnlpdijhmlabVDu
namespace Go.Proofs.Ytlbhnlpdijhmlab
open Go.RowKit
set_option linter.unusedVariables false
set_option linter.unusedSimpArgs false

set_option maxHeartbeats 1600000 in
theorem refNew_ok (n : Int) (w : World) (h1 : 1 ≤ n) (h2 : n ≤ 5) : Calls Try.prog 7 #[.int .i64 n] w fun e w' => ∃ g, e = .returned (.tuple #[svV n (.slice (some ⟨g, 0, none⟩) 1 1) false, .int .i64 0]) ∧ VwsAt w' (fun j => w.heap.size ≤ j) (.slice (some ⟨g, 0, none⟩) 1 1) (newV n).l ∧ Below w.heap.size w w' := by
  have a0 : ¬ n < 1 := by omega
  have a1 : ¬ 5 < n := by omega
  have hW : (w.alloc (.cells #[.int .i64 0, .slice none 0 0, .bool false] 30)).heap[w.heap.size]? = some (.cells #[.int .i64 0, .slice none 0 0, .bool false] 30 (0, 0)) := heap_alloc_new _ _
  have hB : Below w.heap.size w (w.alloc (.cells #[.int .i64 0, .slice none 0 0, .bool false] 30)) := (Below.refl _ _).alloc (Nat.le_refl _) _
  obtain ⟨W, hWW⟩ : ∃ W, w.alloc (.cells #[.int .i64 0, .slice none 0 0, .bool false] 30) = W := ⟨_, rfl⟩
  rw [hWW] at hW hB
  have HW : Hid (w.alloc (.cells #[.int .i64 0, .slice none 0 0, .bool false] 30) = W) := hWW
  have HX : Hid (W.heap[w.heap.size]? = some (.cells #[.int .i64 0, .slice none 0 0, .bool false] 30 (0, 0))) := hW
  have HB : Hid (Below w.heap.size w W) := hB
  have hsz : W.heap.size = w.heap.size + 1 := by rw [← hWW]; simp
  have HSZ : Hid (W.heap.size = w.heap.size + 1) := hsz
  clear h1 h2 hWW hB hW hsz
  have hfin : ∀ (q : Int), q = (if 1 < n then 2 else 0) → ∀ (X : World) (hX : Below W.heap.size W X), let Y := X.alloc (.cells #[.int .i64 1, .int .i64 1, .int .i64 q] 37); Y.heap[w.heap.size]? = some (.cells #[.int .i64 0, .slice none 0 0, .bool false] 30 (0, 0)) ∧ VwsAt (put_3 Y w.heap.size (.int .i64 n) (.slice (some ⟨X.heap.size, 0, none⟩) 1 1) (.bool false)) (fun j => w.heap.size ≤ j) (.slice (some ⟨X.heap.size, 0, none⟩) 1 1) (newV n).l ∧ Below w.heap.size w (put_3 Y w.heap.size (.int .i64 n) (.slice (some ⟨X.heap.size, 0, none⟩) 1 1) (.bool false)) := fun q hq X hX => by
    have hs := hX.size
    have hs2 := HSZ.out
    have hy : (X.alloc (.cells #[.int .i64 1, .int .i64 1, .int .i64 q] 37)).heap[X.heap.size]? = some (.cells #[.int .i64 1, .int .i64 1, .int .i64 q] 37 (0, 0)) := heap_alloc_new _ _
    have hz := new_old (kept_block hX HX.out) (.cells #[.int .i64 1, .int .i64 1, .int .i64 q] 37)
    have hbe : Below w.heap.size w (X.alloc (.cells #[.int .i64 1, .int .i64 1, .int .i64 q] 37)) := (trans2 HB.out hX).alloc (by omega) _
    refine ⟨hz, ?_, fillB_3 hbe (Nat.le_refl _)⟩
    have hy2 := fillO_3 (g := w.heap.size) (x0 := .int .i64 n) (x1 := .slice (some ⟨X.heap.size, 0, none⟩) 1 1) (x2 := .bool false) hy (by omega)
    obtain ⟨c0, c1, c2⟩ := cells_3 hy2
    refine ⟨_, 1, rfl, Nat.le_refl _, (fun h => by cases h), .inr ⟨X.heap.size, 0, rfl, by show w.heap.size ≤ X.heap.size; omega, lt_of_blk hy2, fun i x hi => ?_⟩⟩
    match i, hi with
    | 0, hi =>
      obtain rfl : (⟨1, 1, if 1 < n then 2 else 0⟩ : VwT) = x := by simpa [newV] using hi
      rw [← hq]
      exact ⟨c0, c1, c2⟩
  have HF : Hid _ := hfin
  clear hfin
  by_cases hn : 1 < n
  · have HQ : Hid ((2 : Int) = if 1 < n then 2 else 0) := by show _ = _; rw [if_pos hn]
    go_enter Try.func7, Try.ntmps7
    go_upto_region 1 with fail
    rw [HW.out]
    go_upto_region 6 with fail
    obtain ⟨X, hX⟩ : ∃ X, W.alloc (.cells #[.int .i64 1, .int .i64 1, .int .i64 2] 37) = X := ⟨_, rfl⟩
    have hbX : Below W.heap.size W X := by rw [← hX]; exact (Below.refl _ _).alloc (Nat.le_refl _) _
    obtain ⟨e0, e1, e2⟩ : X.cell? ⟨W.heap.size, 0, none⟩ = some (.int .i64 1) ∧ X.cell? ⟨W.heap.size, 1, none⟩ = some (.int .i64 1) ∧ X.cell? ⟨W.heap.size, 2, none⟩ = some (.int .i64 2) := by rw [← hX]; exact cells_3 (heap_alloc_new _ _)
    rw [hX]
    have hf := HF.out 2 HQ.out X hbX
    obtain ⟨r0, r1, r2⟩ := cells_3 hf.1
    have fr : ∀ o, (X.alloc (.cells #[.int .i64 1, .int .i64 1, .int .i64 2] 37)).frozen? ⟨w.heap.size, o, none⟩ = false := free_of hf.1
    have HFF : Hid _ := hf
    clear hX hbX hf
    go_wp2_with fail
    exact bodyPost_ret (results_cell_tmp rfl _ _ w.heap.size 30 _ (0, 0) _ _ rfl rfl (fill_3 HFF.out.1) Try.underlying30 rfl (by kernel_rfl)) rfl ⟨_, rfl, HFF.out.2.1, HFF.out.2.2⟩
  · have HQ : Hid ((0 : Int) = if 1 < n then 2 else 0) := by show _ = _; rw [if_neg hn]
    go_enter Try.func7, Try.ntmps7
    go_upto_region 1 with fail
    rw [HW.out]
    go_upto_region 6 with fail
    obtain ⟨X, hX⟩ : ∃ X, W.alloc (.cells #[.int .i64 1, .int .i64 1, .int .i64 0] 37) = X := ⟨_, rfl⟩
    have hbX : Below W.heap.size W X := by rw [← hX]; exact (Below.refl _ _).alloc (Nat.le_refl _) _
    obtain ⟨e0, e1, e2⟩ : X.cell? ⟨W.heap.size, 0, none⟩ = some (.int .i64 1) ∧ X.cell? ⟨W.heap.size, 1, none⟩ = some (.int .i64 1) ∧ X.cell? ⟨W.heap.size, 2, none⟩ = some (.int .i64 0) := by rw [← hX]; exact cells_3 (heap_alloc_new _ _)
    rw [hX]
    have hf := HF.out 0 HQ.out X hbX
    obtain ⟨r0, r1, r2⟩ := cells_3 hf.1
    have fr : ∀ o, (X.alloc (.cells #[.int .i64 1, .int .i64 1, .int .i64 0] 37)).frozen? ⟨w.heap.size, o, none⟩ = false := free_of hf.1
    have HFF : Hid _ := hf
    clear hX hbX hf
    go_wp2_with fail
    exact bodyPost_ret (results_cell_tmp rfl _ _ w.heap.size 30 _ (0, 0) _ _ rfl rfl (fill_3 HFF.out.1) Try.underlying30 rfl (by kernel_rfl)) rfl ⟨_, rfl, HFF.out.2.1, HFF.out.2.2⟩
end Go.Proofs.Ytlbhnlpdijhmlab
