import Derived.Test.YtbblckcjedjbcaaGreatDoorJZero
import Derived.Test.YtbblckcjedjbcaaGreatDoorXTrie
import Derived.Test.YtbblckcjedjbcaaGreatDoorXOf
import Derived.Test.YtbblckcjedjbcaaGreatDoorXDropT
import Derived.Test.YtbblckcjedjbcaaGreatDoorXForget
import Derived.Test.YtbblckcjedjbcaaGreatDoorXMatchT
import Derived.Test.YtbblckcjedjbcaaGreatDoorXAt
import Derived.Test.YtbblckcjedjbcaaGreatDoorXWalkL
import Derived.Test.YtbblckcjedjbcaaGreatDoorXBegins
namespace Go.Proofs.YtbblckcjedjbcaaGreatDoor.J
open Go.RowKit Go.Maps
set_option linter.unusedVariables false
set_option linter.unusedSimpArgs false

theorem cells_keep {w w' : World} {B b : Nat} {cs : Array Value} {t : TypeId} (h : Below B w w') (hb : b < B) (hc : w.heap[b]? = some (.cells cs t (0, 0))) : w'.heap[b]? = some (.cells cs t (0, 0)) := by
  rw [h.block b hb]; exact hc
set_option maxHeartbeats 16000000 in
set_option maxRecDepth 100000 in
theorem add0 (s i : Int) (p : ByteArray) (k f : Int) (w : World) :
    Calls Tryz.prog 49 #[xN, .int .i64 s, watV i p k f] w fun e w' => e = .returned (.tuple #[xN, .int .i64 (mayL [] true s i p k f)]) ∧ Below w.heap.size w w' := by
  obtain ⟨wb, hwb⟩ : ∃ wb, ((w.alloc (.cells #[.bool true, .slice none 0 0] 69)).alloc (.cells #[.int .i64 i, .string p, .int .i64 k, .int .i64 f] 40)).alloc (.cells #[.bool false, .slice none 0 0] 69) = wb := ⟨_, rfl⟩
  have hB : Below w.heap.size w wb := by rw [← hwb]; exact (((Below.refl _ _).alloc (Nat.le_refl _) _).alloc (by simp) _).alloc (by simp; omega) _
  have hB0 : wb.heap[w.heap.size]? = some (.cells #[.bool true, .slice none 0 0] 69 (0, 0)) := by rw [← hwb]; exact new_old (new_old (heap_alloc_new _ _) _) _
  have hB1 : wb.heap[w.heap.size + 1]? = some (.cells #[.int .i64 i, .string p, .int .i64 k, .int .i64 f] 40 (0, 0)) := by rw [← hwb]; exact new_old (heap_new' (by simp)) _
  have hB2 : wb.heap[w.heap.size + 2]? = some (.cells #[.bool false, .slice none 0 0] 69 (0, 0)) := by rw [← hwb]; exact heap_new' (by simp)
  obtain ⟨c0, c1⟩ := cells_2 hB0
  obtain ⟨b0, b1, b2, b3⟩ := cells_4 hB1
  obtain ⟨d0, d1⟩ := cells_2 hB2
  have fd := free_of hB2
  have HB : Hid _ := hB
  have HB0 : Hid (wb.heap[w.heap.size]? = some (.cells #[.bool true, .slice none 0 0] 69 (0, 0))) := hB0
  have HB1 : Hid (wb.heap[w.heap.size + 1]? = some (.cells #[.int .i64 i, .string p, .int .i64 k, .int .i64 f] 40 (0, 0))) := hB1
  have HB2 : Hid (wb.heap[w.heap.size + 2]? = some (.cells #[.bool false, .slice none 0 0] 69 (0, 0))) := hB2
  have HW : Hid (((w.alloc (.cells #[.bool true, .slice none 0 0] 69)).alloc (.cells #[.int .i64 i, .string p, .int .i64 k, .int .i64 f] 40)).alloc (.cells #[.bool false, .slice none 0 0] 69) = wb) := hwb
  clear hB hB0 hB1 hB2
  unfold mayL
  cases hnb : numsB s i f with
  | true =>
    rw [if_pos rfl]
    unfold numsB at hnb
    simp only [Bool.or_eq_true, decide_eq_true_eq] at hnb
    by_cases h1 : s < 1
    · go_enter Tryz.func49, Tryz.ntmps49
      rw [← hwb] at c0 c1 b0 b1 b2 b3 d0 d1 fd
      clear hwb
      go_wp2_with fail
      exact bodyPost_ret (results_cell_tmp rfl _ _ (w.heap.size + 1 + 1) 69 _ (0, 0) _ _ rfl rfl (heap_new' (by simp)) Tryz.underlying69 rfl (by kernel_rfl)) rfl ⟨rfl, (((Below.refl _ _).alloc (Nat.le_refl _) _).alloc (by simp) _).alloc (by simp; omega) _⟩
    by_cases h2 : (2147483647 : Int) < s
    · go_enter Tryz.func49, Tryz.ntmps49
      rw [← hwb] at c0 c1 b0 b1 b2 b3 d0 d1 fd
      clear hwb
      go_wp2_with fail
      exact bodyPost_ret (results_cell_tmp rfl _ _ (w.heap.size + 1 + 1) 69 _ (0, 0) _ _ rfl rfl (heap_new' (by simp)) Tryz.underlying69 rfl (by kernel_rfl)) rfl ⟨rfl, (((Below.refl _ _).alloc (Nat.le_refl _) _).alloc (by simp) _).alloc (by simp; omega) _⟩
    by_cases h3 : i < 1
    · go_enter Tryz.func49, Tryz.ntmps49
      rw [← hwb] at c0 c1 b0 b1 b2 b3 d0 d1 fd
      clear hwb
      go_wp2_with fail
      exact bodyPost_ret (results_cell_tmp rfl _ _ (w.heap.size + 1 + 1) 69 _ (0, 0) _ _ rfl rfl (heap_new' (by simp)) Tryz.underlying69 rfl (by kernel_rfl)) rfl ⟨rfl, (((Below.refl _ _).alloc (Nat.le_refl _) _).alloc (by simp) _).alloc (by simp; omega) _⟩
    by_cases h4 : (2147483647 : Int) < i
    · go_enter Tryz.func49, Tryz.ntmps49
      rw [← hwb] at c0 c1 b0 b1 b2 b3 d0 d1 fd
      clear hwb
      go_wp2_with fail
      exact bodyPost_ret (results_cell_tmp rfl _ _ (w.heap.size + 1 + 1) 69 _ (0, 0) _ _ rfl rfl (heap_new' (by simp)) Tryz.underlying69 rfl (by kernel_rfl)) rfl ⟨rfl, (((Below.refl _ _).alloc (Nat.le_refl _) _).alloc (by simp) _).alloc (by simp; omega) _⟩
    by_cases h5 : f < 0
    · go_enter Tryz.func49, Tryz.ntmps49
      rw [← hwb] at c0 c1 b0 b1 b2 b3 d0 d1 fd
      clear hwb
      go_wp2_with fail
      exact bodyPost_ret (results_cell_tmp rfl _ _ (w.heap.size + 1 + 1) 69 _ (0, 0) _ _ rfl rfl (heap_new' (by simp)) Tryz.underlying69 rfl (by kernel_rfl)) rfl ⟨rfl, (((Below.refl _ _).alloc (Nat.le_refl _) _).alloc (by simp) _).alloc (by simp; omega) _⟩
    have h6 : (2147483647 : Int) < f := by omega
    go_enter Tryz.func49, Tryz.ntmps49
    rw [← hwb] at c0 c1 b0 b1 b2 b3 d0 d1 fd
    clear hwb
    go_wp2_with fail
    exact bodyPost_ret (results_cell_tmp rfl _ _ (w.heap.size + 1 + 1) 69 _ (0, 0) _ _ rfl rfl (heap_new' (by simp)) Tryz.underlying69 rfl (by kernel_rfl)) rfl ⟨rfl, (((Below.refl _ _).alloc (Nat.le_refl _) _).alloc (by simp) _).alloc (by simp; omega) _⟩
  | false =>
    rw [if_neg (by decide)]
    obtain ⟨n1, n2, n3, n4, n5, n6⟩ := nums_no hnb
    clear hnb
    obtain ⟨pc, hpc⟩ : ∃ pc, (parse p).1 = pc := ⟨_, rfl⟩
    have HPA : Hid (∀ W, Calls Tryz.prog 75 #[.string p] W fun e w' => ∃ v, e = .returned (.tuple #[v, .int .i64 pc]) ∧ Below W.heap.size W w') := by
      intro W
      refine Calls.mono (refParse_any p W) ?_
      rintro e w' ⟨a, c, he, _, _, hb⟩
      exact ⟨_, by rw [he, hpc], hb⟩
    rw [hpc]
    clear hpc
    have HFI : Hid (∀ W, _) := fun W => find0 s i W
    have HOF : Hid (∀ W, _) := fun W => of0 s W
    by_cases h0 : pc = 0
    · subst h0
      rw [if_neg (by simp)]
      by_cases hk1 : k < 1
      · rw [if_pos (.inl hk1)]
        go_enter Tryz.func49, Tryz.ntmps49
        rw [← hwb] at c0 c1 b0 b1 b2 b3 d0 d1 fd
        clear hwb
        go_wp2_with (first
            | (go_at_call 75; rw [HW.out]; refine Calls.mono (HPA.out _) ?_; rintro e w1 ⟨v1, rfl, hb1⟩
               have H1 : Hid (Below w.heap.size w w1) := xtrans2 HB.out hb1
               have e0 := kept_block hb1 HB0.out
               have e1 := kept_block hb1 HB1.out
               have e2 := kept_block hb1 HB2.out
               have A0 : Hid (w1.heap[w.heap.size]? = some (.cells #[.bool true, .slice none 0 0] 69 (0, 0))) := e0
               have A1 : Hid (w1.heap[w.heap.size + 1]? = some (.cells #[.int .i64 i, .string p, .int .i64 k, .int .i64 f] 40 (0, 0))) := e1
               have A2 : Hid (w1.heap[w.heap.size + 2]? = some (.cells #[.bool false, .slice none 0 0] 69 (0, 0))) := e2
               clear c0 c1 b0 b1 b2 b3 d0 d1 fd hb1
               obtain ⟨c0, c1⟩ := cells_2 e0
               obtain ⟨b0, b1, b2, b3⟩ := cells_4 e1
               obtain ⟨d0, d1⟩ := cells_2 e2
               have fd := free_of e2
               clear e0 e1 e2)
            | (go_at_call 76; refine Calls.mono (HFI.out _) ?_; rintro e w2 ⟨rfl, hb1⟩
               have H2 : Hid (Below w.heap.size w w2) := xtrans2 H1.out hb1
               have e0 := kept_block hb1 A0.out
               have e1 := kept_block hb1 A1.out
               have e2 := kept_block hb1 A2.out
               have E0 : Hid (w2.heap[w.heap.size]? = some (.cells #[.bool true, .slice none 0 0] 69 (0, 0))) := e0
               have E1 : Hid (w2.heap[w.heap.size + 1]? = some (.cells #[.int .i64 i, .string p, .int .i64 k, .int .i64 f] 40 (0, 0))) := e1
               have E2 : Hid (w2.heap[w.heap.size + 2]? = some (.cells #[.bool false, .slice none 0 0] 69 (0, 0))) := e2
               clear c0 c1 b0 b1 b2 b3 d0 d1 fd hb1
               obtain ⟨c0, c1⟩ := cells_2 e0
               obtain ⟨b0, b1, b2, b3⟩ := cells_4 e1
               obtain ⟨d0, d1⟩ := cells_2 e2
               have fd := free_of e2
               clear e0 e1 e2)
            | fail)
        exact bodyPost_ret (results_cell_tmp rfl _ _ (w.heap.size + 2) 69 _ (0, 0) _ _ rfl rfl (fill2 E2.out) Tryz.underlying69 rfl (by kernel_rfl)) rfl ⟨rfl, (H2.out.setCell (Nat.le_add_right _ 2) _).setCell (Nat.le_add_right _ 2) _⟩
      by_cases hk2 : (3 : Int) < k
      · rw [if_pos (.inr (.inl hk2))]
        go_enter Tryz.func49, Tryz.ntmps49
        rw [← hwb] at c0 c1 b0 b1 b2 b3 d0 d1 fd
        clear hwb
        go_wp2_with (first
            | (go_at_call 75; rw [HW.out]; refine Calls.mono (HPA.out _) ?_; rintro e w1 ⟨v1, rfl, hb1⟩
               have H1 : Hid (Below w.heap.size w w1) := xtrans2 HB.out hb1
               have e0 := kept_block hb1 HB0.out
               have e1 := kept_block hb1 HB1.out
               have e2 := kept_block hb1 HB2.out
               have A0 : Hid (w1.heap[w.heap.size]? = some (.cells #[.bool true, .slice none 0 0] 69 (0, 0))) := e0
               have A1 : Hid (w1.heap[w.heap.size + 1]? = some (.cells #[.int .i64 i, .string p, .int .i64 k, .int .i64 f] 40 (0, 0))) := e1
               have A2 : Hid (w1.heap[w.heap.size + 2]? = some (.cells #[.bool false, .slice none 0 0] 69 (0, 0))) := e2
               clear c0 c1 b0 b1 b2 b3 d0 d1 fd hb1
               obtain ⟨c0, c1⟩ := cells_2 e0
               obtain ⟨b0, b1, b2, b3⟩ := cells_4 e1
               obtain ⟨d0, d1⟩ := cells_2 e2
               have fd := free_of e2
               clear e0 e1 e2)
            | (go_at_call 76; refine Calls.mono (HFI.out _) ?_; rintro e w2 ⟨rfl, hb1⟩
               have H2 : Hid (Below w.heap.size w w2) := xtrans2 H1.out hb1
               have e0 := kept_block hb1 A0.out
               have e1 := kept_block hb1 A1.out
               have e2 := kept_block hb1 A2.out
               have E0 : Hid (w2.heap[w.heap.size]? = some (.cells #[.bool true, .slice none 0 0] 69 (0, 0))) := e0
               have E1 : Hid (w2.heap[w.heap.size + 1]? = some (.cells #[.int .i64 i, .string p, .int .i64 k, .int .i64 f] 40 (0, 0))) := e1
               have E2 : Hid (w2.heap[w.heap.size + 2]? = some (.cells #[.bool false, .slice none 0 0] 69 (0, 0))) := e2
               clear c0 c1 b0 b1 b2 b3 d0 d1 fd hb1
               obtain ⟨c0, c1⟩ := cells_2 e0
               obtain ⟨b0, b1, b2, b3⟩ := cells_4 e1
               obtain ⟨d0, d1⟩ := cells_2 e2
               have fd := free_of e2
               clear e0 e1 e2)
            | fail)
        exact bodyPost_ret (results_cell_tmp rfl _ _ (w.heap.size + 2) 69 _ (0, 0) _ _ rfl rfl (fill2 E2.out) Tryz.underlying69 rfl (by kernel_rfl)) rfl ⟨rfl, (H2.out.setCell (Nat.le_add_right _ 2) _).setCell (Nat.le_add_right _ 2) _⟩
      rw [if_neg (by rintro (h | h | h); exact hk1 h; exact hk2 h; cases h), if_pos (.inl rfl)]
      go_enter Tryz.func49, Tryz.ntmps49
      rw [← hwb] at c0 c1 b0 b1 b2 b3 d0 d1 fd
      clear hwb
      go_wp2_with (first
          | (go_at_call 75; rw [HW.out]; refine Calls.mono (HPA.out _) ?_; rintro e w1 ⟨v1, rfl, hb1⟩
             have H1 : Hid (Below w.heap.size w w1) := xtrans2 HB.out hb1
             have e0 := kept_block hb1 HB0.out
             have e1 := kept_block hb1 HB1.out
             have e2 := kept_block hb1 HB2.out
             have A0 : Hid (w1.heap[w.heap.size]? = some (.cells #[.bool true, .slice none 0 0] 69 (0, 0))) := e0
             have A1 : Hid (w1.heap[w.heap.size + 1]? = some (.cells #[.int .i64 i, .string p, .int .i64 k, .int .i64 f] 40 (0, 0))) := e1
             have A2 : Hid (w1.heap[w.heap.size + 2]? = some (.cells #[.bool false, .slice none 0 0] 69 (0, 0))) := e2
             clear c0 c1 b0 b1 b2 b3 d0 d1 fd hb1
             obtain ⟨c0, c1⟩ := cells_2 e0
             obtain ⟨b0, b1, b2, b3⟩ := cells_4 e1
             obtain ⟨d0, d1⟩ := cells_2 e2
             have fd := free_of e2
             clear e0 e1 e2)
          | (go_at_call 76; refine Calls.mono (HFI.out _) ?_; rintro e w2 ⟨rfl, hb1⟩
             have H2 : Hid (Below w.heap.size w w2) := xtrans2 H1.out hb1
             have e0 := kept_block hb1 A0.out
             have e1 := kept_block hb1 A1.out
             have e2 := kept_block hb1 A2.out
             have E0 : Hid (w2.heap[w.heap.size]? = some (.cells #[.bool true, .slice none 0 0] 69 (0, 0))) := e0
             have E1 : Hid (w2.heap[w.heap.size + 1]? = some (.cells #[.int .i64 i, .string p, .int .i64 k, .int .i64 f] 40 (0, 0))) := e1
             have E2 : Hid (w2.heap[w.heap.size + 2]? = some (.cells #[.bool false, .slice none 0 0] 69 (0, 0))) := e2
             clear c0 c1 b0 b1 b2 b3 d0 d1 fd hb1
             obtain ⟨c0, c1⟩ := cells_2 e0
             obtain ⟨b0, b1, b2, b3⟩ := cells_4 e1
             obtain ⟨d0, d1⟩ := cells_2 e2
             have fd := free_of e2
             clear e0 e1 e2)
          | (go_at_call 53; refine Calls.mono (HOF.out _) ?_; rintro e w3 ⟨rfl, hb1⟩
             have H3 : Hid (Below w.heap.size w w3) := xtrans2 H2.out hb1
             have e0 := kept_block hb1 E0.out
             have e1 := kept_block hb1 E1.out
             have e2 := kept_block hb1 E2.out
             have G0 : Hid (w3.heap[w.heap.size]? = some (.cells #[.bool true, .slice none 0 0] 69 (0, 0))) := e0
             have G1 : Hid (w3.heap[w.heap.size + 1]? = some (.cells #[.int .i64 i, .string p, .int .i64 k, .int .i64 f] 40 (0, 0))) := e1
             have G2 : Hid (w3.heap[w.heap.size + 2]? = some (.cells #[.bool false, .slice none 0 0] 69 (0, 0))) := e2
             clear c0 c1 b0 b1 b2 b3 d0 d1 fd hb1
             obtain ⟨c0, c1⟩ := cells_2 e0
             obtain ⟨b0, b1, b2, b3⟩ := cells_4 e1
             obtain ⟨d0, d1⟩ := cells_2 e2
             have fd := free_of e2
             clear e0 e1 e2)
          | fail)
      exact bodyPost_ret (results_cell_tmp rfl _ _ (w.heap.size + 2) 69 _ (0, 0) _ _ rfl rfl (fill2 G2.out) Tryz.underlying69 rfl (by kernel_rfl)) rfl ⟨rfl, (H3.out.setCell (Nat.le_add_right _ 2) _).setCell (Nat.le_add_right _ 2) _⟩
    · rw [if_pos h0]
      go_enter Tryz.func49, Tryz.ntmps49
      rw [← hwb] at c0 c1 b0 b1 b2 b3 d0 d1 fd
      clear hwb
      go_wp2_with (first
          | (go_at_call 75; rw [HW.out]; refine Calls.mono (HPA.out _) ?_; rintro e w1 ⟨v1, rfl, hb1⟩
             have H1 : Hid (Below w.heap.size w w1) := xtrans2 HB.out hb1
             have e0 := kept_block hb1 HB0.out
             have e1 := kept_block hb1 HB1.out
             have e2 := kept_block hb1 HB2.out
             have A0 : Hid (w1.heap[w.heap.size]? = some (.cells #[.bool true, .slice none 0 0] 69 (0, 0))) := e0
             have A1 : Hid (w1.heap[w.heap.size + 1]? = some (.cells #[.int .i64 i, .string p, .int .i64 k, .int .i64 f] 40 (0, 0))) := e1
             have A2 : Hid (w1.heap[w.heap.size + 2]? = some (.cells #[.bool false, .slice none 0 0] 69 (0, 0))) := e2
             clear c0 c1 b0 b1 b2 b3 d0 d1 fd hb1
             obtain ⟨c0, c1⟩ := cells_2 e0
             obtain ⟨b0, b1, b2, b3⟩ := cells_4 e1
             obtain ⟨d0, d1⟩ := cells_2 e2
             have fd := free_of e2
             clear e0 e1 e2)
          | fail)
      exact bodyPost_ret (results_cell_tmp rfl _ _ (w.heap.size + 2) 69 _ (0, 0) _ _ rfl rfl (fill2 A2.out) Tryz.underlying69 rfl (by kernel_rfl)) rfl ⟨rfl, (H1.out.setCell (Nat.le_add_right _ 2) _).setCell (Nat.le_add_right _ 2) _⟩
end Go.Proofs.YtbblckcjedjbcaaGreatDoor.J
namespace Go.Proofs.YtbblckcjedjbcaaGreatDoor.J
open Go.RowKit Go.Maps
set_option linter.unusedVariables false
set_option linter.unusedSimpArgs false

theorem mayL_nil (s i : Int) (p : ByteArray) (k f : Int) : mayL [] true s i p k f ≠ 0 := by
  unfold mayL
  split
  · decide
  split
  · decide
  split
  · decide
  rw [if_pos (.inl rfl)]
  decide
set_option maxHeartbeats 3200000 in
theorem addNil (w : World) (s i : Int) (p : ByteArray) (k f : Int) (hg : Ground w) :
    Calls Tryz.prog 16 #[.pointer none, .int .i64 s, watV i p k f] w fun e w' => e = .returned (.int .i64 (mayL [] true s i p k f)) ∧ Below w.heap.size w w' := by
  have hne := mayL_nil s i p k f
  have hb0 : Below w.heap.size w (w.alloc (.cells #[.int .i64 i, .string p, .int .i64 k, .int .i64 f] 40)) := (Below.refl _ _).alloc (Nat.le_refl _) _
  obtain ⟨b0, b1, b2, b3⟩ := cells_4 (heap_alloc_new w (.cells #[.int .i64 i, .string p, .int .i64 k, .int .i64 f] 40))
  have HM : Hid _ := may_none (w.alloc (.cells #[.int .i64 i, .string p, .int .i64 k, .int .i64 f] 40)) s i p k f none 0 [] (hg.below hb0) (fun w1 _ => of_nil w1 s) ⟨World.ownsRow_nil _ _ _ _, fun x hx => (by cases hx)⟩ (by simp) List.Pairwise.nil
  have HB0 : Hid _ := hb0
  obtain ⟨m, hm⟩ : ∃ m, mayL [] true s i p k f = m := ⟨_, rfl⟩
  rw [hm] at HM hne ⊢
  clear hg hb0 hm
  go_enter Tryz.func16, Tryz.ntmps16
  go_wp2_with (first
    | (go_at_call 38; refine Calls.mono HM.out ?_; rintro e w1 ⟨rfl, hb1⟩; (have HB1 : Hid (Below w.heap.size w w1) := xtrans2 HB0.out hb1); clear hb1 b0 b1 b2 b3)
    | fail)
  go_ret
  exact ⟨rfl, HB1.out⟩
/-- walk over a nil trie, under way. -/
structure WnJ (w : World) (W : World) : Prop where
  b0 : W.heap[w.heap.size]? = some (.cells #[.slice none 0 0] 29 (0, 0))
  b1 : W.heap[w.heap.size + 1]? = some (.cells #[.bool false] 4 (0, 0))
  bb : W.heap[w.heap.size + 1 + 1]? = some (.cells #[.pointer none] 26 (0, 0))
  bl : W.heap[w.heap.size + 1 + 1 + 1]? = some (.cells #[.slice none 0 0] 29 (0, 0))
  fr : Below w.heap.size w W
theorem WnJ.grown {w W W' : World} {row : Option Nat} {B0 : Nat} (h : WnJ w W) (hB : w.heap.size ≤ B0) (hg : W.grownBy W' row) (hr : ∀ r, row = some r → B0 ≤ r ∧ ∃ o : Obj, W.heap[r]? = some o ∧ o.isCells = false) : WnJ w W' := by
  have hk : Go.Proofs.YtbblckcjedjbcaaGreatDoor.Kp Go.Proofs.YtbblckcjedjbcaaGreatDoor.NoB W W' := (Go.Proofs.YtbblckcjedjbcaaGreatDoor.Kp.refl _ _).grown hg hr
  have no : ∀ k, ¬ Go.Proofs.YtbblckcjedjbcaaGreatDoor.NoB k := fun _ h => h
  exact ⟨hk.cells _ _ _ _ h.b0 (no _), hk.cells _ _ _ _ h.b1 (no _), hk.cells _ _ _ _ h.bb (no _), hk.cells _ _ _ _ h.bl (no _), h.fr.trans ⟨hg.os, hg.tape, hg.output, hg.size, fun k hk' => hg.block k (Nat.lt_of_lt_of_le hk' h.fr.size) (fun e => by have := (hr k e.symm).1; omega)⟩⟩
set_option maxRecDepth 100000 in
set_option maxHeartbeats 3200000 in
theorem nil_seq (n : Nat) (w : World) (B : Nat) (s0 : Unit) :
    SeqSt Fence.wide n Tryz.prog 42 #[.pointer (some ⟨w.heap.size + 1 + 1, 0, none⟩)] (fun x : ByteArray × Int × Int => #[.string x.1, tagV x.2.1 x.2.2]) B (fun _ W => WnJ w W) (fun _ _ _ => False) (fun _ _ _ => True) (fun _ _ => False) (fun W => WnJ w W) s0 := by
  intro l Z Zx W1 hZ hZx hY h0 hz0
  have hbx : W1.cell? ⟨w.heap.size + 1 + 1, 0, none⟩ = some (.pointer none) := by rw [cell_blkX h0.bb]; rfl
  have HZ1 : Hid (Z W1) := hz0
  have HJ : Hid (WnJ w W1) := h0
  clear hY hZ hZx h0 hz0
  refine callsIn_of_wp Tryz.func42 rfl trivial ?_ rfl
  simp only [Tryz.ntmps42, List.size_toArray, List.length_cons, List.length_nil, Nat.reduceAdd, Nat.reduceSub, Array.replicate_succ, Array.replicate_zero, List.push_toArray, List.append_toArray, List.nil_append, List.cons_append]
  gi_wp2
  refine bodyPost_ret (results_none rfl _ _ _) rfl ?_
  exact ⟨⟨_, rfl⟩, .inl ⟨HJ.out, HZ1.out⟩⟩
set_option maxRecDepth 100000 in
set_option maxHeartbeats 6400000 in
theorem walkNil (w : World) :
    Calls Tryz.prog 11 #[.pointer none] w fun e w' => e = .returned (.tuple #[.slice none 0 0, .bool true]) ∧ Below w.heap.size w w' := by
  have heq := eql2_func_nil
  refine (callsIn_wide (n := 3)).1 ?_
  refine callsIn_of_wp_marks Tryz.func11 rfl trivial ?_ rfl
  simp only [Tryz.ntmps11, List.size_toArray, List.length_cons, List.length_nil, Nat.reduceAdd, Nat.reduceSub, Array.replicate_succ, Array.replicate_zero, List.push_toArray, List.append_toArray, List.nil_append, List.cons_append]
  gi_wp2_with (refine ⟨trivial, ?_⟩; gi_at_call 18; refine (callsIn_wide.2 (walk_func _ _)).mono ?_; rintro e w' ⟨rfl, rfl⟩)
  obtain ⟨W0, hW0⟩ : ∃ W0, ((((w.alloc (.cells #[.slice none 0 0] 29)).alloc (.cells #[.bool false] 4)).alloc (.cells #[.pointer none] 26)).alloc (.cells #[.slice none 0 0] 29)) = W0 := ⟨_, rfl⟩
  have hb0 : Below w.heap.size w W0 := by rw [← hW0]; exact ((((Below.refl _ w).alloc (Nat.le_refl _) _).alloc (by simp) _).alloc (by simp; omega) _).alloc (by simp; omega) _
  have HJ0 : Hid (WnJ w W0) := by
    refine ⟨?_, ?_, ?_, ?_, hb0⟩
    · rw [← hW0]; exact new_old (new_old (new_old (heap_alloc_new _ _) _) _) _
    · rw [← hW0]; exact new_old (new_old (heap_new' (by simp)) _) _
    · rw [← hW0]; exact new_old (heap_new' (by simp)) _
    · rw [← hW0]; exact heap_new' (by simp)
  have hsz : W0.heap.size = w.heap.size + 1 + 1 + 1 + 1 := by rw [← hW0]; simp
  have hB0 : w.heap.size ≤ W0.heap.size := by omega
  rw [hW0]
  refine wpIn_range_sa (σ := Unit) (α := ByteArray × Int × Int) rfl (by decide) (gf := 42) (lb := #[.pointer (some ⟨w.heap.size + 1 + 1, 0, none⟩)]) rfl trivial (enters_of Tryz.func42 (by kernel_rfl) rfl)
    (encs := fun x => #[.string x.1, tagV x.2.1 x.2.2]) (fun _ => rfl)
    (I := fun _ W => WnJ w W) (Y := fun _ _ _ => False) (N := fun _ _ _ => True) (X := fun _ _ => False) (E := fun W => WnJ w W) (s0 := ())
    (nil_seq _ w W0.heap.size ()) ?oI ?oY ?oX ?oE ?st
    (A := fun _ _ _ _ => False) ?oA ?assign ?body ?done ?stop
  case oI => exact fun s A C row hs hg hr => hs.grown hB0 hg hr
  case oY => exact fun s x _ A C row hs hg hr => hs.elim
  case oX => exact fun _ _ _ _ h => h.elim
  case oE => exact fun _ A C row h hg hr => h.grown hB0 hg hr
  case st => exact HJ0.out
  case oA => exact fun _ _ _ _ _ _ _ h => h.elim
  case assign => exact fun _ _ _ _ _ h => h.elim
  case body => exact fun _ _ _ _ _ _ _ h => h.elim
  case done =>
    rintro D W hD hT hK
    have c0 : W.cell? ⟨w.heap.size + 1 + 1 + 1, 0, none⟩ = some (.slice none 0 0) := by rw [cell_blkX hT.bl]; rfl
    have r0 : W.cell? ⟨w.heap.size, 0, none⟩ = some (.slice none 0 0) := by rw [cell_blkX hT.b0]; rfl
    have r1 : W.cell? ⟨w.heap.size + 1, 0, none⟩ = some (.bool false) := by rw [cell_blkX hT.b1]; rfl
    have f0 := free_blkX hT.b0
    have f1 := free_blkX hT.b1
    have HT : Hid (WnJ w W) := hT
    clear hT HJ0 heq
    gi_wp2
    have hD0 : D ≠ w.heap.size := by omega
    have hD1 : D ≠ w.heap.size + 1 := by omega
    have hKD : ((W.setCell ⟨w.heap.size, 0, none⟩ (.slice none 0 0)).setCell ⟨w.heap.size + 1, 0, none⟩ (.bool true)).heap[D]? = some (.deferred (some [])) := other_blk (other_blk hK hD0) hD1
    refine ⟨by simp, .inl ⟨_, _, rfl, run_takeDeferred hKD, ?_⟩⟩
    have hbw : Below w.heap.size w (((W.setCell ⟨w.heap.size, 0, none⟩ (.slice none 0 0)).setCell ⟨w.heap.size + 1, 0, none⟩ (.bool true)).putObj D (.deferred none)) := by
      have h1 : Below w.heap.size w ((W.setCell ⟨w.heap.size, 0, none⟩ (.slice none 0 0)).setCell ⟨w.heap.size + 1, 0, none⟩ (.bool true)) := (HT.out.fr.setCell (Nat.le_refl _) _).setCell (Nat.le_succ _) _
      have h2 := grownBy_putObj' ((W.setCell ⟨w.heap.size, 0, none⟩ (.slice none 0 0)).setCell ⟨w.heap.size + 1, 0, none⟩ (.bool true)) D (.deferred none)
      exact h1.grown h2 h1.size (fun j hj => by cases hj; omega)
    refine ⟨_, results_boxX rfl _ _ w.heap.size (w.heap.size + 1) (.slice none 0 0) true rfl rfl ?_ ?_, rfl, hbw⟩
    · have h9 : (((W.setCell ⟨w.heap.size, 0, none⟩ (.slice none 0 0)).setCell ⟨w.heap.size + 1, 0, none⟩ (.bool true)).putObj D (.deferred none)).heap[w.heap.size]? = some (.cells #[.slice none 0 0] 29 (0, 0)) := by
        rw [World.putObj_heap_other (Ne.symm hD0)]
        exact other_blk (same_blk HT.out.b0 rfl) (by omega)
      rw [cell_blkX h9]; rfl
    · have h9 : (((W.setCell ⟨w.heap.size, 0, none⟩ (.slice none 0 0)).setCell ⟨w.heap.size + 1, 0, none⟩ (.bool true)).putObj D (.deferred none)).heap[w.heap.size + 1]? = some (.cells #[.bool true] 4 (0, 0)) := by
        rw [World.putObj_heap_other (Ne.symm hD1)]
        exact same_blk (other_blk HT.out.b1 (by omega)) rfl
      rw [cell_blkX h9]; rfl
  case stop => exact fun _ _ _ _ h => h.elim
end Go.Proofs.YtbblckcjedjbcaaGreatDoor.J
