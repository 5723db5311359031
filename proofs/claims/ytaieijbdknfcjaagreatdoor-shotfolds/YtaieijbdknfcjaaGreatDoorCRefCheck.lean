/-
  heraldref5: Check.
-/
import Derived.Test.YtaieijbdknfcjaaGreatDoorCRefLoop
namespace Go.Proofs.YtaieijbdknfcjaaGreatDoor
open Go.RowKit Classical
set_option linter.unusedVariables false
set_option linter.unusedSimpArgs false

set_option maxHeartbeats 6400000 in
set_option maxRecDepth 100000 in
theorem refCheck_any (st : Int) (p : ByteArray) (k : Int) (a : Option Addr) (c : Nat) (l : List SeenT) (w : World) (hs : Ss w a l) (hok : ∀ s ∈ l, s.p.size ≤ maxLen) (hl : l.length ≤ maxLen) :
    Calls Tryz.prog 22 #[.agg (shA st p k a l.length c)] w fun e w' => e = .returned (.int .i64 (rchk st p k l)) ∧ Below w.heap.size w w' := by
  unfold maxLen at hl
  have HS : Hid (Ss w a l) := hs
  have HOK : Hid (∀ s ∈ l, s.p.size ≤ maxLen) := hok
  have HB0 : Hid (Below w.heap.size w (w.alloc (.cells (shA st p k a l.length c) 24))) := (Below.refl _ _).alloc (Nat.le_refl _) _
  have HA0 : Hid ((w.alloc (.cells (shA st p k a l.length c) 24)).heap[w.heap.size]? = some (.cells (shA st p k a l.length c) 24 (0, 0))) := heap_alloc_new _ _
  clear hs hok
  by_cases hst : 0 ≤ st ∧ st ≤ 2147483647
  · obtain ⟨hs1, hs2⟩ := hst
    have HST : Hid (isNum st = true) := by show _ = _; simp [isNum, hs1, hs2]
    have HI : Hid _ := refIs_any p (w.alloc (.cells (shA st p k a l.length c) 24))
    cases hip : isP p with
    | false =>
      rw [hip] at HI
      have HM : Hid (rchk st p k l = 51) := rchk_bad (fun h => by have := h.2.1; rw [hip] at this; cases this)
      go_enter Tryz.func22, Tryz.ntmps22
      go_wp2_with fail
      refine Calls.mono HI.out ?_
      rintro e w2 ⟨rfl, hb2⟩
      have HB2 : Hid (Below w.heap.size w w2) := trans2 HB0.out hb2
      clear hb2
      go_wp2_with fail
      go_ret
      exact ⟨by rw [HM.out]; rfl, HB2.out⟩
    | true =>
      rw [hip] at HI
      have HIP : Hid (isP p = true) := hip
      clear hip
      by_cases hk : 1 ≤ k ∧ k ≤ 3
      · obtain ⟨hk1, hk2⟩ := hk
        by_cases h64 : l.length ≤ 64
        · have h64' : (l.length : Int) ≤ 64 := by omega
          by_cases hl0 : l = []
          · subst hl0
            by_cases hrt : p = pRoot
            · subst hrt
              have HM : Hid (rchk st pRoot k [] = 51) := rchk_bad (fun h => h.2.2.2.2.1 ⟨rfl, rfl⟩)
              go_enter Tryz.func22, Tryz.ntmps22
              go_wp2_with fail
              refine Calls.mono HI.out ?_
              rintro e w2 ⟨rfl, hb2⟩
              have HB2 : Hid (Below w.heap.size w w2) := trans2 HB0.out hb2
              have HA2 : Hid (w2.heap[w.heap.size]? = some (.cells (shA st pRoot k a 0 c) 24 (0, 0))) := kept_block hb2 HA0.out
              obtain ⟨a0, a1, a2, a3⟩ := cells_4 HA2.out
              clear hb2
              go_wp2_with fail
              go_ret
              exact ⟨by rw [HM.out]; rfl, HB2.out⟩
            · have HM : Hid (rchk st p k [] = 0) := rchk_good ⟨HST.out, HIP.out, ⟨hk1, hk2⟩, by simp, fun h => hrt h.1, fun i x h => by simp at h⟩
              have hrt' : (p.toList == [47]) = false := by have := list_ne hrt; simpa using this
              go_enter Tryz.func22, Tryz.ntmps22
              go_wp2_with fail
              refine Calls.mono HI.out ?_
              rintro e w2 ⟨rfl, hb2⟩
              have HB2 : Hid (Below w.heap.size w w2) := trans2 HB0.out hb2
              have HA2 : Hid (w2.heap[w.heap.size]? = some (.cells (shA st p k a 0 c) 24 (0, 0))) := kept_block hb2 HA0.out
              obtain ⟨a0, a1, a2, a3⟩ := cells_4 HA2.out
              clear hb2
              go_wp2_with fail
              refine wp_loop_rounds 1 ?_
              rw [rounds_succ]
              go_wp2_with fail
              go_ret
              exact ⟨by rw [HM.out]; rfl, HB2.out⟩
          · exact refCheck_main st p k a c l w HS.out HOK.out (by unfold maxLen; exact hl) hs1 hs2 HIP.out hk1 hk2 h64 hl0
        · have h64' : ¬ (l.length : Int) ≤ 64 := by omega
          have HM : Hid (rchk st p k l = 51) := rchk_bad (fun h => h64 h.2.2.2.1)
          go_enter Tryz.func22, Tryz.ntmps22
          go_wp2_with fail
          refine Calls.mono HI.out ?_
          rintro e w2 ⟨rfl, hb2⟩
          have HB2 : Hid (Below w.heap.size w w2) := trans2 HB0.out hb2
          have HA2 : Hid (w2.heap[w.heap.size]? = some (.cells (shA st p k a l.length c) 24 (0, 0))) := kept_block hb2 HA0.out
          obtain ⟨a0, a1, a2, a3⟩ := cells_4 HA2.out
          clear hb2
          go_wp2_with fail
          go_ret
          exact ⟨by rw [HM.out]; rfl, HB2.out⟩
      · have HM : Hid (rchk st p k l = 51) := rchk_bad (fun h => hk h.2.2.1)
        have hk' : k < 1 ∨ (1 ≤ k ∧ 3 < k) := by omega
        clear hk
        rcases hk' with hk1 | ⟨hk1, hk2⟩
        all_goals
          go_enter Tryz.func22, Tryz.ntmps22
          go_wp2_with fail
          refine Calls.mono HI.out ?_
          rintro e w2 ⟨rfl, hb2⟩
          have HB2 : Hid (Below w.heap.size w w2) := trans2 HB0.out hb2
          have HA2 : Hid (w2.heap[w.heap.size]? = some (.cells (shA st p k a l.length c) 24 (0, 0))) := kept_block hb2 HA0.out
          obtain ⟨a0, a1, a2, a3⟩ := cells_4 HA2.out
          clear hb2
          go_wp2_with fail
          go_ret
          exact ⟨by rw [HM.out]; rfl, HB2.out⟩
  · have HM : Hid (rchk st p k l = 51) := rchk_bad (fun h => hst (by have := h.1; simpa [isNum] using this))
    have hst' : st < 0 ∨ (0 ≤ st ∧ 2147483647 < st) := by omega
    clear hst
    rcases hst' with hs1 | ⟨hs1, hs2⟩
    all_goals
      go_enter Tryz.func22, Tryz.ntmps22
      go_wp2_with fail
      go_ret
      exact ⟨by rw [HM.out]; rfl, HB0.out⟩
end Go.Proofs.YtaieijbdknfcjaaGreatDoor
