/-
  the document's ring that is all zero.
-/
import Derived.Test.YtonppfnjeomcoaaRFilled
namespace Go.Proofs.Ytonppfnjeomcoaa
open Go.RowKit
set_option linter.unusedVariables false
set_option linter.unusedSimpArgs false

def XZ (w : World) (b : Nat) : Prop := w.heap[b]? = some (.cells #[.int .i64 0, .int .i64 0, .int .i64 0, .int .i64 0, .slice none 0 0, .int .i64 0] 64 (0, 0))
theorem XZ.below {w w' : World} {b : Nat} (h : XZ w b) (hb : Below w.heap.size w w') : XZ w' b := kept_block hb h
theorem XZ.drewN {w : World} {b : Nat} (h : XZ w b) (n : Nat) : XZ (w.drewN n) b := h
theorem zeroR_last : zeroR.last = 0 := rfl
theorem zeroR_may (e : EnT) : zeroR.may e = if ¬ (0 ≤ e.v ∧ e.v ≤ 2147483647) then 3 else if e.s ≠ 1 then 61 else 62 := by
  show (if (0 : Nat) = 2147483647 ∨ ¬ (0 ≤ e.v ∧ e.v ≤ 2147483647) then (3 : Int) else if e.s ≠ ((0 : Nat) : Int) + 1 then 61 else if e.v < 0 then 1 else if (0 : Nat) = 0 ∧ (0 : Nat) = 0 then 62 else 0) = _
  by_cases h : 0 ≤ e.v ∧ e.v ≤ 2147483647
  · have h3 : ¬ e.v < 0 := by omega
    by_cases h2 : e.s = 1
    · simp [h, h2]
    · simp [h, h2]
  · rw [if_pos (.inr h), if_pos h]
theorem zeroR_free (n : Int) : zeroR.free n = if n < 0 then 63 else if 0 < n then 61 else 0 := rfl
theorem zeroR_atC (n : Int) : zeroR.atC n = if n ≤ 0 then 60 else if 0 < n then 61 else 0 := rfl
theorem zeroR_afterC (n most : Int) : zeroR.afterC n most = if most < 0 ∨ 64 < most then 1 else if n < 0 then 60 else if 0 < n then 61 else 0 := rfl
set_option maxHeartbeats 1600000 in
theorem xLast (b : Nat) (w : World) (h : XZ w b) : Calls Try.prog 40 #[.pointer (some ⟨b, 0, none⟩)] w fun e w' => e = .returned (.tuple #[.int .i64 0, .int .i64 0]) ∧ Below w.heap.size w w' := by
  obtain ⟨c0, c1, c2, c3, c4, c5⟩ := cells_6 h
  clear h
  go_enter Try.func40, Try.ntmps40
  go_wp2_with fail
  go_quiet (fail)
  go_wp2_with fail
  go_ret2
  exact ⟨rfl, below_drewN (Below.refl _ _) _⟩
set_option maxHeartbeats 1600000 in
theorem xFloor (b : Nat) (w : World) (h : XZ w b) : Calls Try.prog 41 #[.pointer (some ⟨b, 0, none⟩)] w fun e w' => e = .returned (.tuple #[.int .i64 0, .int .i64 0]) ∧ Below w.heap.size w w' := by
  obtain ⟨c0, c1, c2, c3, c4, c5⟩ := cells_6 h
  clear h
  go_enter Try.func41, Try.ntmps41
  go_wp2_with fail
  go_quiet (fail)
  go_wp2_with fail
  go_quiet (fail)
  go_wp2_with fail
  go_ret2
  exact ⟨rfl, below_drewN (below_drewN (Below.refl _ _) _) _⟩
set_option maxHeartbeats 1600000 in
theorem xHeld (b : Nat) (w : World) (h : XZ w b) : Calls Try.prog 43 #[.pointer (some ⟨b, 0, none⟩)] w fun e w' => e = .returned (.int .i64 0) ∧ w' = w := by
  obtain ⟨c0, c1, c2, c3, c4, c5⟩ := cells_6 h
  clear h
  go_enter Try.func43, Try.ntmps43
  go_wp2_with fail
  go_ret
  exact ⟨rfl, rfl⟩
set_option maxHeartbeats 1600000 in
theorem xAll (b : Nat) (w : World) (h : XZ w b) : Calls Try.prog 47 #[.pointer (some ⟨b, 0, none⟩)] w fun e w' => e = .returned (.slice none 0 0) ∧ Below w.heap.size w w' := by
  obtain ⟨c0, c1, c2, c3, c4, c5⟩ := cells_6 h
  clear h
  go_enter Try.func47, Try.ntmps47
  go_wp2_with fail
  go_quiet (fail)
  go_wp2_with fail
  go_ret
  exact ⟨rfl, below_drewN (Below.refl _ _) _⟩
set_option maxHeartbeats 1600000 in
theorem xHold (b : Nat) (n : Int) (w : World) (h : XZ w b) : Calls Try.prog 44 #[.pointer (some ⟨b, 0, none⟩), .int .i64 n] w fun e w' => e = .returned (.int .i64 (zeroR.free n)) ∧ Below w.heap.size w w' := by
  rw [zeroR_free]
  have HL : Hid _ := xLast b w h
  have HX : Hid (XZ w b) := h
  clear h
  go_enter Try.func44, Try.ntmps44
  go_wp2_with fail
  refine Calls.mono HL.out ?_
  rintro e w1 ⟨rfl, hb⟩
  have HX1 : Hid (XZ w1 b) := HX.out.below hb
  obtain ⟨c0, c1, c2, c3, c4, c5⟩ := cells_6 HX1.out
  have f0 := free_blk HX1.out
  have HB : Hid (Below w.heap.size w w1) := hb
  have hself := setCell_self HX1.out c3
  clear hb HL
  by_cases h1 : n < 0
  · go_wp2_with fail
    go_ret
    exact ⟨rfl, HB.out⟩
  by_cases h2 : 0 < n
  · go_wp2_with fail
    go_ret
    exact ⟨rfl, HB.out⟩
  obtain rfl : n = 0 := by omega
  clear h1 h2
  go_wp2_with fail
  go_ret
  exact ⟨rfl, HB.out⟩
set_option maxHeartbeats 1600000 in
theorem xCut (b : Nat) (n : Int) (w : World) (h : XZ w b) : Calls Try.prog 45 #[.pointer (some ⟨b, 0, none⟩), .int .i64 n] w fun e w' => e = .returned (.int .i64 (zeroR.free n)) ∧ Below w.heap.size w w' := by
  rw [zeroR_free]
  have HL : Hid _ := xLast b w h
  have HX : Hid (XZ w b) := h
  clear h
  go_enter Try.func45, Try.ntmps45
  go_wp2_with fail
  refine Calls.mono HL.out ?_
  rintro e w1 ⟨rfl, hb⟩
  have HX1 : Hid (XZ w1 b) := HX.out.below hb
  obtain ⟨c0, c1, c2, c3, c4, c5⟩ := cells_6 HX1.out
  have f0 := free_blk HX1.out
  have HB : Hid (Below w.heap.size w w1) := hb
  have hself := setCell_self HX1.out c4
  have hself2 := setCell_self HX1.out c5
  clear hb HL
  by_cases h1 : n < 0
  · go_wp2_with fail
    go_ret
    exact ⟨rfl, HB.out⟩
  by_cases h2 : 0 < n
  · go_wp2_with fail
    go_ret
    exact ⟨rfl, HB.out⟩
  obtain rfl : n = 0 := by omega
  clear h1 h2
  go_wp2_with fail
  go_region
  go_wp2_with fail
  go_ret
  exact ⟨rfl, below_drew HB.out⟩
set_option maxHeartbeats 1600000 in
theorem xApp_a (b : Nat) (e : EnT) (x : Value) (w : World) (h : XZ w b) (h1 : e.v < 0) : Calls Try.prog 50 #[.pointer (some ⟨b, 0, none⟩), e.val x] w fun e' w' => e' = .returned (.int .i64 3) ∧ Below w.heap.size w w' := by
  obtain ⟨s, v, k, se, rq, ops⟩ := e
  have HX : Hid (XZ w b) := h
  have HL : Hid (∀ w', Below w.heap.size w w' → _) := fun w' hb => xLast b w' (h.below hb)
  have HF : Hid (∀ w', Below w.heap.size w w' → _) := fun w' hb => xFloor b w' (h.below hb)
  clear h
  go_enter Try.func50, Try.ntmps50
  go_wp2_with fail
  refine Calls.mono (HL.out _ ((Below.refl _ _).alloc (Nat.le_refl _) _)) ?_
  rintro e' w1 ⟨rfl, hb1⟩
  have HB1 : Hid (Below w.heap.size w w1) := trans2 ((Below.refl _ _).alloc (Nat.le_refl _) _) hb1
  have HE1 : Hid (w1.heap[w.heap.size]? = some (.cells #[.int .i64 s, .int .i64 v, .int .i64 k, .int .i64 se, .int .i64 rq, x] 33 (0, 0))) := kept_block hb1 (heap_alloc_new _ _)
  clear hb1
  go_wp2_with fail
  refine Calls.mono (HF.out _ HB1.out) ?_
  rintro e' w2 ⟨rfl, hb2⟩
  have HB2 : Hid (Below w.heap.size w w2) := trans2 HB1.out hb2
  obtain ⟨q0, q1, -, -, -, -⟩ := cells_6 (kept_block hb2 HE1.out)
  obtain ⟨c0, c1, c2, c3, c4, c5⟩ := cells_6 (HX.out.below HB2.out)
  clear hb2 HL HF HE1 HB1
  go_wp2_with fail
  go_ret
  exact ⟨rfl, HB2.out⟩
set_option maxHeartbeats 1600000 in
theorem xApp_b (b : Nat) (e : EnT) (x : Value) (w : World) (h : XZ w b) (h0 : 0 ≤ e.v) (h1 : 2147483647 < e.v) : Calls Try.prog 50 #[.pointer (some ⟨b, 0, none⟩), e.val x] w fun e' w' => e' = .returned (.int .i64 3) ∧ Below w.heap.size w w' := by
  obtain ⟨s, v, k, se, rq, ops⟩ := e
  have HX : Hid (XZ w b) := h
  have HL : Hid (∀ w', Below w.heap.size w w' → _) := fun w' hb => xLast b w' (h.below hb)
  have HF : Hid (∀ w', Below w.heap.size w w' → _) := fun w' hb => xFloor b w' (h.below hb)
  clear h
  go_enter Try.func50, Try.ntmps50
  go_wp2_with fail
  refine Calls.mono (HL.out _ ((Below.refl _ _).alloc (Nat.le_refl _) _)) ?_
  rintro e' w1 ⟨rfl, hb1⟩
  have HB1 : Hid (Below w.heap.size w w1) := trans2 ((Below.refl _ _).alloc (Nat.le_refl _) _) hb1
  have HE1 : Hid (w1.heap[w.heap.size]? = some (.cells #[.int .i64 s, .int .i64 v, .int .i64 k, .int .i64 se, .int .i64 rq, x] 33 (0, 0))) := kept_block hb1 (heap_alloc_new _ _)
  clear hb1
  go_wp2_with fail
  refine Calls.mono (HF.out _ HB1.out) ?_
  rintro e' w2 ⟨rfl, hb2⟩
  have HB2 : Hid (Below w.heap.size w w2) := trans2 HB1.out hb2
  obtain ⟨q0, q1, -, -, -, -⟩ := cells_6 (kept_block hb2 HE1.out)
  obtain ⟨c0, c1, c2, c3, c4, c5⟩ := cells_6 (HX.out.below HB2.out)
  clear hb2 HL HF HE1 HB1
  go_wp2_with fail
  go_ret
  exact ⟨rfl, HB2.out⟩
set_option maxHeartbeats 1600000 in
theorem xApp_c (b : Nat) (e : EnT) (x : Value) (w : World) (h : XZ w b) (h0 : 0 ≤ e.v) (h1 : e.v ≤ 2147483647) (h2 : e.s ≠ 1) : Calls Try.prog 50 #[.pointer (some ⟨b, 0, none⟩), e.val x] w fun e' w' => e' = .returned (.int .i64 61) ∧ Below w.heap.size w w' := by
  obtain ⟨s, v, k, se, rq, ops⟩ := e
  have HX : Hid (XZ w b) := h
  have HL : Hid (∀ w', Below w.heap.size w w' → _) := fun w' hb => xLast b w' (h.below hb)
  have HF : Hid (∀ w', Below w.heap.size w w' → _) := fun w' hb => xFloor b w' (h.below hb)
  clear h
  go_enter Try.func50, Try.ntmps50
  go_wp2_with fail
  refine Calls.mono (HL.out _ ((Below.refl _ _).alloc (Nat.le_refl _) _)) ?_
  rintro e' w1 ⟨rfl, hb1⟩
  have HB1 : Hid (Below w.heap.size w w1) := trans2 ((Below.refl _ _).alloc (Nat.le_refl _) _) hb1
  have HE1 : Hid (w1.heap[w.heap.size]? = some (.cells #[.int .i64 s, .int .i64 v, .int .i64 k, .int .i64 se, .int .i64 rq, x] 33 (0, 0))) := kept_block hb1 (heap_alloc_new _ _)
  clear hb1
  go_wp2_with fail
  refine Calls.mono (HF.out _ HB1.out) ?_
  rintro e' w2 ⟨rfl, hb2⟩
  have HB2 : Hid (Below w.heap.size w w2) := trans2 HB1.out hb2
  obtain ⟨q0, q1, -, -, -, -⟩ := cells_6 (kept_block hb2 HE1.out)
  obtain ⟨c0, c1, c2, c3, c4, c5⟩ := cells_6 (HX.out.below HB2.out)
  clear hb2 HL HF HE1 HB1
  go_wp2_with fail
  go_ret
  exact ⟨rfl, HB2.out⟩
set_option maxHeartbeats 1600000 in
theorem xApp_d (b : Nat) (e : EnT) (x : Value) (w : World) (h : XZ w b) (h0 : 0 ≤ e.v) (h1 : e.v ≤ 2147483647) (h2 : e.s = 1) : Calls Try.prog 50 #[.pointer (some ⟨b, 0, none⟩), e.val x] w fun e' w' => e' = .returned (.int .i64 62) ∧ Below w.heap.size w w' := by
  obtain ⟨s, v, k, se, rq, ops⟩ := e
  have h2' : s = 1 := h2
  clear h2
  subst h2'
  have HX : Hid (XZ w b) := h
  have HL : Hid (∀ w', Below w.heap.size w w' → _) := fun w' hb => xLast b w' (h.below hb)
  have HF : Hid (∀ w', Below w.heap.size w w' → _) := fun w' hb => xFloor b w' (h.below hb)
  clear h
  go_enter Try.func50, Try.ntmps50
  go_wp2_with fail
  refine Calls.mono (HL.out _ ((Below.refl _ _).alloc (Nat.le_refl _) _)) ?_
  rintro e' w1 ⟨rfl, hb1⟩
  have HB1 : Hid (Below w.heap.size w w1) := trans2 ((Below.refl _ _).alloc (Nat.le_refl _) _) hb1
  have HE1 : Hid (w1.heap[w.heap.size]? = some (.cells #[.int .i64 1, .int .i64 v, .int .i64 k, .int .i64 se, .int .i64 rq, x] 33 (0, 0))) := kept_block hb1 (heap_alloc_new _ _)
  clear hb1
  go_wp2_with fail
  refine Calls.mono (HF.out _ HB1.out) ?_
  rintro e' w2 ⟨rfl, hb2⟩
  have HB2 : Hid (Below w.heap.size w w2) := trans2 HB1.out hb2
  obtain ⟨q0, q1, -, -, -, -⟩ := cells_6 (kept_block hb2 HE1.out)
  obtain ⟨c0, c1, c2, c3, c4, c5⟩ := cells_6 (HX.out.below HB2.out)
  clear hb2 HL HF HE1 HB1
  go_wp2_with fail
  go_quiet (fail)
  go_wp2_with fail
  go_ret
  exact ⟨rfl, below_drewN HB2.out _⟩
theorem xAppend (b : Nat) (e : EnT) (x : Value) (w : World) (h : XZ w b) : Calls Try.prog 50 #[.pointer (some ⟨b, 0, none⟩), e.val x] w fun e' w' => e' = .returned (.int .i64 (zeroR.may e)) ∧ Below w.heap.size w w' := by
  rw [zeroR_may]
  by_cases h0 : 0 ≤ e.v
  · by_cases h1 : e.v ≤ 2147483647
    · rw [if_neg (fun h' => h' ⟨h0, h1⟩)]
      by_cases h2 : e.s = 1
      · rw [if_neg (fun h' => h' h2)]
        exact xApp_d b e x w h h0 h1 h2
      · rw [if_pos h2]
        exact xApp_c b e x w h h0 h1 h2
    · rw [if_pos (fun h' => h1 h'.2)]
      exact xApp_b b e x w h h0 (by omega)
  · rw [if_pos (fun h' => h0 h'.1)]
    exact xApp_a b e x w h (by omega)
set_option maxHeartbeats 1600000 in
theorem xAt_a (b : Nat) (n : Int) (w : World) (h : XZ w b) (h1 : n ≤ 0) : Calls Try.prog 51 #[.pointer (some ⟨b, 0, none⟩), .int .i64 n] w fun e' w' => e' = .returned (.tuple #[zeroE.val (.slice none 0 0), .int .i64 60]) ∧ Below w.heap.size w w' := by
  have HX : Hid (XZ w b) := h
  have HL : Hid (∀ w', Below w.heap.size w w' → _) := fun w' hb => xLast b w' (h.below hb)
  have HF : Hid (∀ w', Below w.heap.size w w' → _) := fun w' hb => xFloor b w' (h.below hb)
  clear h
  go_enter Try.func51, Try.ntmps51
  go_wp2_with fail
  refine Calls.mono (HF.out _ ((Below.refl _ _).alloc (Nat.le_refl _) _)) ?_
  rintro e' w1 ⟨rfl, hb1⟩
  have HB1 : Hid (Below w.heap.size w w1) := trans2 ((Below.refl _ _).alloc (Nat.le_refl _) _) hb1
  have HZ1 : Hid (w1.heap[w.heap.size]? = some (.cells #[.int .i64 0, .int .i64 0, .int .i64 0, .int .i64 0, .int .i64 0, .slice none 0 0] 33 (0, 0))) := kept_block hb1 (heap_alloc_new _ _)
  clear hb1
  go_wp2_with fail
  refine Calls.mono (HL.out _ HB1.out) ?_
  rintro e' w2 ⟨rfl, hb2⟩
  have HB2 : Hid (Below w.heap.size w w2) := trans2 HB1.out hb2
  have HZ : Hid (w2.heap[w.heap.size]? = some (.cells #[.int .i64 0, .int .i64 0, .int .i64 0, .int .i64 0, .int .i64 0, .slice none 0 0] 33 (0, 0))) := kept_block hb2 HZ1.out
  obtain ⟨z0, z1, z2, z3, z4, z5⟩ := cells_6 HZ.out
  have fz := free_blk HZ.out
  clear hb2 HL HF HB1
  go_wp2_with fail
  exact bodyPost_ret (results_ct rfl _ _ w.heap.size 33 _ (0, 0) _ (.int .i64 60) rfl rfl (fill_6 HZ.out) Try.underlying33 rfl (by kernel_rfl)) rfl ⟨rfl, fillB_6 HB2.out (Nat.le_refl _)⟩
set_option maxHeartbeats 1600000 in
theorem xAt_b (b : Nat) (n : Int) (w : World) (h : XZ w b) (h1 : 0 < n) : Calls Try.prog 51 #[.pointer (some ⟨b, 0, none⟩), .int .i64 n] w fun e' w' => e' = .returned (.tuple #[zeroE.val (.slice none 0 0), .int .i64 61]) ∧ Below w.heap.size w w' := by
  have HX : Hid (XZ w b) := h
  have HL : Hid (∀ w', Below w.heap.size w w' → _) := fun w' hb => xLast b w' (h.below hb)
  have HF : Hid (∀ w', Below w.heap.size w w' → _) := fun w' hb => xFloor b w' (h.below hb)
  clear h
  go_enter Try.func51, Try.ntmps51
  go_wp2_with fail
  refine Calls.mono (HF.out _ ((Below.refl _ _).alloc (Nat.le_refl _) _)) ?_
  rintro e' w1 ⟨rfl, hb1⟩
  have HB1 : Hid (Below w.heap.size w w1) := trans2 ((Below.refl _ _).alloc (Nat.le_refl _) _) hb1
  have HZ1 : Hid (w1.heap[w.heap.size]? = some (.cells #[.int .i64 0, .int .i64 0, .int .i64 0, .int .i64 0, .int .i64 0, .slice none 0 0] 33 (0, 0))) := kept_block hb1 (heap_alloc_new _ _)
  clear hb1
  go_wp2_with fail
  refine Calls.mono (HL.out _ HB1.out) ?_
  rintro e' w2 ⟨rfl, hb2⟩
  have HB2 : Hid (Below w.heap.size w w2) := trans2 HB1.out hb2
  have HZ : Hid (w2.heap[w.heap.size]? = some (.cells #[.int .i64 0, .int .i64 0, .int .i64 0, .int .i64 0, .int .i64 0, .slice none 0 0] 33 (0, 0))) := kept_block hb2 HZ1.out
  obtain ⟨z0, z1, z2, z3, z4, z5⟩ := cells_6 HZ.out
  have fz := free_blk HZ.out
  clear hb2 HL HF HB1
  go_wp2_with fail
  exact bodyPost_ret (results_ct rfl _ _ w.heap.size 33 _ (0, 0) _ (.int .i64 61) rfl rfl (fill_6 HZ.out) Try.underlying33 rfl (by kernel_rfl)) rfl ⟨rfl, fillB_6 HB2.out (Nat.le_refl _)⟩
theorem xAt (b : Nat) (n : Int) (w : World) (h : XZ w b) : Calls Try.prog 51 #[.pointer (some ⟨b, 0, none⟩), .int .i64 n] w fun e' w' => e' = .returned (.tuple #[zeroE.val (.slice none 0 0), .int .i64 (zeroR.atC n)]) ∧ Below w.heap.size w w' := by
  rw [zeroR_atC]
  by_cases h1 : n ≤ 0
  · rw [if_pos h1]
    exact xAt_a b n w h h1
  · rw [if_neg h1, if_pos (by omega)]
    exact xAt_b b n w h (by omega)
set_option maxHeartbeats 1600000 in
theorem xAft_a (b : Nat) (n most : Int) (w : World) (h : XZ w b) (h1 : most < 0) : Calls Try.prog 52 #[.pointer (some ⟨b, 0, none⟩), .int .i64 n, .int .i64 most] w fun e' w' => e' = .returned (.tuple #[.slice none 0 0, .int .i64 1]) ∧ Below w.heap.size w w' := by
  have HX : Hid (XZ w b) := h
  have HL : Hid (∀ w', Below w.heap.size w w' → _) := fun w' hb => xLast b w' (h.below hb)
  have HF : Hid (∀ w', Below w.heap.size w w' → _) := fun w' hb => xFloor b w' (h.below hb)
  clear h
  go_enter Try.func52, Try.ntmps52
  go_wp2_with fail
  refine Calls.mono (HF.out _ (Below.refl _ _)) ?_
  rintro e' w1 ⟨rfl, hb1⟩
  have HB1 : Hid (Below w.heap.size w w1) := trans2 (Below.refl _ _) hb1
  clear hb1
  go_wp2_with fail
  refine Calls.mono (HL.out _ HB1.out) ?_
  rintro e' w2 ⟨rfl, hb2⟩
  have HB2 : Hid (Below w.heap.size w w2) := trans2 HB1.out hb2
  clear hb2 HL HF HB1
  go_wp2_with fail
  go_ret2
  exact ⟨rfl, HB2.out⟩
set_option maxHeartbeats 1600000 in
theorem xAft_b (b : Nat) (n most : Int) (w : World) (h : XZ w b) (h0 : 0 ≤ most) (h1 : 64 < most) : Calls Try.prog 52 #[.pointer (some ⟨b, 0, none⟩), .int .i64 n, .int .i64 most] w fun e' w' => e' = .returned (.tuple #[.slice none 0 0, .int .i64 1]) ∧ Below w.heap.size w w' := by
  have HX : Hid (XZ w b) := h
  have HL : Hid (∀ w', Below w.heap.size w w' → _) := fun w' hb => xLast b w' (h.below hb)
  have HF : Hid (∀ w', Below w.heap.size w w' → _) := fun w' hb => xFloor b w' (h.below hb)
  clear h
  go_enter Try.func52, Try.ntmps52
  go_wp2_with fail
  refine Calls.mono (HF.out _ (Below.refl _ _)) ?_
  rintro e' w1 ⟨rfl, hb1⟩
  have HB1 : Hid (Below w.heap.size w w1) := trans2 (Below.refl _ _) hb1
  clear hb1
  go_wp2_with fail
  refine Calls.mono (HL.out _ HB1.out) ?_
  rintro e' w2 ⟨rfl, hb2⟩
  have HB2 : Hid (Below w.heap.size w w2) := trans2 HB1.out hb2
  clear hb2 HL HF HB1
  go_wp2_with fail
  go_ret2
  exact ⟨rfl, HB2.out⟩
set_option maxHeartbeats 1600000 in
theorem xAft_c (b : Nat) (n most : Int) (w : World) (h : XZ w b) (h0 : 0 ≤ most) (h1 : most ≤ 64) (h2 : n < 0) : Calls Try.prog 52 #[.pointer (some ⟨b, 0, none⟩), .int .i64 n, .int .i64 most] w fun e' w' => e' = .returned (.tuple #[.slice none 0 0, .int .i64 60]) ∧ Below w.heap.size w w' := by
  have HX : Hid (XZ w b) := h
  have HL : Hid (∀ w', Below w.heap.size w w' → _) := fun w' hb => xLast b w' (h.below hb)
  have HF : Hid (∀ w', Below w.heap.size w w' → _) := fun w' hb => xFloor b w' (h.below hb)
  clear h
  go_enter Try.func52, Try.ntmps52
  go_wp2_with fail
  refine Calls.mono (HF.out _ (Below.refl _ _)) ?_
  rintro e' w1 ⟨rfl, hb1⟩
  have HB1 : Hid (Below w.heap.size w w1) := trans2 (Below.refl _ _) hb1
  clear hb1
  go_wp2_with fail
  refine Calls.mono (HL.out _ HB1.out) ?_
  rintro e' w2 ⟨rfl, hb2⟩
  have HB2 : Hid (Below w.heap.size w w2) := trans2 HB1.out hb2
  clear hb2 HL HF HB1
  go_wp2_with fail
  go_ret2
  exact ⟨rfl, HB2.out⟩
set_option maxHeartbeats 1600000 in
theorem xAft_d (b : Nat) (n most : Int) (w : World) (h : XZ w b) (h0 : 0 ≤ most) (h1 : most ≤ 64) (h2 : 0 < n) : Calls Try.prog 52 #[.pointer (some ⟨b, 0, none⟩), .int .i64 n, .int .i64 most] w fun e' w' => e' = .returned (.tuple #[.slice none 0 0, .int .i64 61]) ∧ Below w.heap.size w w' := by
  have HX : Hid (XZ w b) := h
  have HL : Hid (∀ w', Below w.heap.size w w' → _) := fun w' hb => xLast b w' (h.below hb)
  have HF : Hid (∀ w', Below w.heap.size w w' → _) := fun w' hb => xFloor b w' (h.below hb)
  clear h
  go_enter Try.func52, Try.ntmps52
  go_wp2_with fail
  refine Calls.mono (HF.out _ (Below.refl _ _)) ?_
  rintro e' w1 ⟨rfl, hb1⟩
  have HB1 : Hid (Below w.heap.size w w1) := trans2 (Below.refl _ _) hb1
  clear hb1
  go_wp2_with fail
  refine Calls.mono (HL.out _ HB1.out) ?_
  rintro e' w2 ⟨rfl, hb2⟩
  have HB2 : Hid (Below w.heap.size w w2) := trans2 HB1.out hb2
  clear hb2 HL HF HB1
  go_wp2_with fail
  go_ret2
  exact ⟨rfl, HB2.out⟩
set_option maxHeartbeats 1600000 in
theorem xAft_e (b : Nat) (n most : Int) (w : World) (h : XZ w b) (h0 : 0 ≤ most) (h1 : most ≤ 64) (h2 : n = 0) : Calls Try.prog 52 #[.pointer (some ⟨b, 0, none⟩), .int .i64 n, .int .i64 most] w fun e' w' => e' = .returned (.tuple #[.slice none 0 0, .int .i64 0]) ∧ Below w.heap.size w w' := by
  have HX : Hid (XZ w b) := h
  have HL : Hid (∀ w', Below w.heap.size w w' → _) := fun w' hb => xLast b w' (h.below hb)
  have HF : Hid (∀ w', Below w.heap.size w w' → _) := fun w' hb => xFloor b w' (h.below hb)
  clear h
  go_enter Try.func52, Try.ntmps52
  go_wp2_with fail
  refine Calls.mono (HF.out _ (Below.refl _ _)) ?_
  rintro e' w1 ⟨rfl, hb1⟩
  have HB1 : Hid (Below w.heap.size w w1) := trans2 (Below.refl _ _) hb1
  clear hb1
  go_wp2_with fail
  refine Calls.mono (HL.out _ HB1.out) ?_
  rintro e' w2 ⟨rfl, hb2⟩
  have HB2 : Hid (Below w.heap.size w w2) := trans2 HB1.out hb2
  clear hb2 HL HF HB1
  subst h2
  go_wp2_with fail
  go_loopw [12, 13] (fun m i wr => m = .slice none 0 0 ∧ i = .int .i64 1 ∧ wr = w2) (fun _ _ _ => 0)
  case atStart => exact ⟨rfl, rfl, rfl⟩
  case round =>
    obtain ⟨rfl, rfl, rfl⟩ := hrel
    go_wp2_with fail
    go_ret2
    exact ⟨rfl, HB2.out⟩
theorem xAfter (b : Nat) (n most : Int) (w : World) (h : XZ w b) : Calls Try.prog 52 #[.pointer (some ⟨b, 0, none⟩), .int .i64 n, .int .i64 most] w fun e' w' => e' = .returned (.tuple #[.slice none 0 0, .int .i64 (zeroR.afterC n most)]) ∧ Below w.heap.size w w' := by
  rw [zeroR_afterC]
  by_cases h0 : most < 0
  · rw [if_pos (.inl h0)]
    exact xAft_a b n most w h h0
  by_cases h1 : 64 < most
  · rw [if_pos (.inr h1)]
    exact xAft_b b n most w h (by omega) h1
  rw [if_neg (fun h' => h'.elim h0 h1)]
  by_cases h2 : n < 0
  · rw [if_pos h2]
    exact xAft_c b n most w h (by omega) (by omega) h2
  rw [if_neg h2]
  by_cases h3 : 0 < n
  · rw [if_pos h3]
    exact xAft_d b n most w h (by omega) (by omega) h3
  rw [if_neg h3]
  exact xAft_e b n most w h (by omega) (by omega) (by omega)
end Go.Proofs.Ytonppfnjeomcoaa
