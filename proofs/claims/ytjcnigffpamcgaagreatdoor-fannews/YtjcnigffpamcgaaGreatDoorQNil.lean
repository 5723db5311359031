/-
  queue: the calls of a nil queue.
-/
import Derived.Test.YtjcnigffpamcgaaGreatDoorQNext
import Derived.Test.YtjcnigffpamcgaaGreatDoorQPut
import Derived.Test.YtjcnigffpamcgaaGreatDoorQColl
namespace Go.Proofs.YtjcnigffpamcgaaGreatDoor
open Go.RowKit Go.MuLone
set_option linter.unusedVariables false
set_option linter.unusedSimpArgs false

theorem below_one {w0 w w' : World} {b : Nat} (h : Below w0.heap.size w0 w) (hb : w0.heap.size = b) (hc : Chg w w' (fun j => j = b)) : Below w0.heap.size w0 w' :=
  ⟨hc.os.trans h.os, hc.tape.trans h.tape, hc.output.trans h.output, Nat.le_trans h.size hc.size, fun j hj => by rw [hc.block j (Nat.lt_of_lt_of_le hj h.size) (fun e => by have e : j = b := e; omega)]; exact h.block j hj⟩
theorem orZero_nil (b : Nat) (w : World) (hb : w.heap.size = b) : Calls Tryz.prog 132 #[.pointer none] w fun e w' => e = .returned (.pointer (some ⟨b, 0, none⟩)) ∧ QueueAt w' (fun j => b < j) b 0 zeroQ ∧ Below w.heap.size w w' := by
  have := orZero_none w (fun j => b < j) (by omega)
  rw [hb] at this
  rw [hb]
  exact this
/-- A zero queue that is locked. -/
structure Zq (w w1 : World) (b : Nat) : Prop where
  q : QueueAt w1 (fun j => b < j) b 1 zeroQ
  below : Below w.heap.size w w1
  eq : w.heap.size = b
theorem Zq.of {w w1 : World} {b : Nat} (hb : w.heap.size = b) (h : QueueAt w1 (fun j => b < j) b 0 zeroQ) (hw : Below w.heap.size w w1) : Zq w (w1.setCell ⟨b, 0, none⟩ (.int .i32 1)) b :=
  ⟨(qset_lock h 1).1, below_one hw hb (qset_lock h 1).2, hb⟩
theorem Zq.on {w w1 w2 : World} {b : Nat} (h : Zq w w1 b) (hb : Below w1.heap.size w1 w2) : Zq w w2 b := ⟨h.q.below hb, trans2 h.below hb, h.eq⟩
theorem Zq.done {w w1 : World} {b : Nat} (h : Zq w w1 b) : Below w.heap.size w (w1.setCell ⟨b, 0, none⟩ (.int .i32 0)) := below_one h.below h.eq (qset_lock h.q 0).2
theorem Zq.cells {w w1 : World} {b : Nat} (h : Zq w w1 b) : w1.cell? ⟨b, 162, none⟩ = some (.int .i64 0) ∧ w1.cell? ⟨b, 163, none⟩ = some (.int .i64 0) ∧ w1.cell? ⟨b, 164, none⟩ = some (.int .i64 0) ∧ w1.cell? ⟨b, 165, none⟩ = some (.int .i64 0) := ⟨h.q.room, h.q.first, h.q.count, h.q.last⟩
set_option maxHeartbeats 1600000 in
theorem len_none (w : World) : Calls Tryz.prog 78 #[.pointer none] w fun e w' => e = .returned (.int .i64 0) ∧ Below w.heap.size w w' := by
  obtain ⟨b, hb⟩ : ∃ b, w.heap.size = b := ⟨_, rfl⟩
  have HB : Hid (w.heap.size = b) := hb
  have HO : Hid _ := orZero_nil b w hb
  clear hb
  go_enter_defers Tryz.func78, Tryz.ntmps78
  go_wp2_with (first
    | (go_at_call 132; refine Calls.mono HO.out ?_; rintro e w1 ⟨rfl, hq1, hb1⟩
       have HQ : Hid (QueueAt w1 (fun j => b < j) b 0 zeroQ) := hq1
       have HZ : Hid (Zq w (w1.setCell ⟨b, 0, none⟩ (.int .i32 1)) b) := Zq.of HB.out hq1 hb1
       clear hq1 hb1)
    | (go_at_call 65; refine (lock_free Tryz.muLib ⟨b, 0, none⟩ _ HQ.out.lock (HQ.out.free 0)).mono ?_; rintro e w2 ⟨rfl, hw2⟩
       rw [← hw2] at HZ
       clear hw2
       obtain ⟨c162, c163, c164, c165⟩ := HZ.out.cells)
    | fail)
  refine leaves_cons (f := 66) (args := #[.pointer (some ⟨b, 0, none⟩)]) (by simp) (by simp [go_sem]) ?_
  refine (unlock_deferred Tryz.muLib ⟨b, 0, none⟩ .returning _ HZ.out.q.lock (HZ.out.q.free 0)).mono ?_
  rintro e u' w'' ⟨rfl, rfl, rfl⟩
  exact ⟨_, results_tmp rfl _ _ _, rfl, HZ.out.done⟩
set_option maxHeartbeats 1600000 in
theorem took_none (st : Int) (w : World) : Calls Tryz.prog 90 #[.pointer none, .int .i64 st] w fun e w' => e = .returned (.int .i64 0) ∧ Below w.heap.size w w' := by
  obtain ⟨b, hb⟩ : ∃ b, w.heap.size = b := ⟨_, rfl⟩
  have HB : Hid (w.heap.size = b) := hb
  have HO : Hid _ := orZero_nil b w hb
  clear hb
  go_enter_defers Tryz.func90, Tryz.ntmps90
  go_wp2_with (first
    | (go_at_call 132; refine Calls.mono HO.out ?_; rintro e w1 ⟨rfl, hq1, hb1⟩
       have HQ : Hid (QueueAt w1 (fun j => b < j) b 0 zeroQ) := hq1
       have HZ : Hid (Zq w (w1.setCell ⟨b, 0, none⟩ (.int .i32 1)) b) := Zq.of HB.out hq1 hb1
       clear hq1 hb1)
    | (go_at_call 65; refine (lock_free Tryz.muLib ⟨b, 0, none⟩ _ HQ.out.lock (HQ.out.free 0)).mono ?_; rintro e w2 ⟨rfl, hw2⟩
       rw [← hw2] at HZ
       clear hw2
       obtain ⟨c162, c163, c164, c165⟩ := HZ.out.cells)
    | fail)
  go_loopw [5] (fun i wr => i = .int .i64 0 ∧ wr = w2) (fun _ _ => 0)
  case atStart => exact ⟨rfl, rfl⟩
  case round =>
    obtain ⟨rfl, hwr⟩ := hrel
    subst hwr
    go_wp2_with fail
    refine Calls.mono (takeOff_any b 0 1 zeroQ _ _ HZ.out.q (Nat.zero_le _)) ?_
    rintro e w5 ⟨rfl, ⟨f, hq5⟩, hc5⟩
    have HQ5 : Hid (QueueAt w5 (fun j => b < j) b 1 ⟨0, f, 0, []⟩) := hq5
    have HB5 : Hid (Below w.heap.size w w5) := below_one HZ.out.below HB.out hc5
    clear hq5 hc5
    go_wp2_with fail
    refine leaves_cons (f := 66) (args := #[.pointer (some ⟨b, 0, none⟩)]) (by simp) (by simp [go_sem]) ?_
    refine (unlock_deferred Tryz.muLib ⟨b, 0, none⟩ .returning _ HQ5.out.lock (HQ5.out.free 0)).mono ?_
    rintro e u' w'' ⟨rfl, rfl, rfl⟩
    exact ⟨_, results_tmp rfl _ _ _, rfl, below_one HB5.out HB.out (qset_lock HQ5.out 0).2⟩
set_option maxHeartbeats 1600000 in
theorem next_none (most : Int) (w : World) : Calls Tryz.prog 71 #[.pointer none, .int .i64 most] w fun e w' => e = .returned (.slice none 0 0) ∧ Below w.heap.size w w' := by
  obtain ⟨z, hz⟩ : ∃ z : Int, min most 0 = z := ⟨_, rfl⟩
  have hpos : ¬ 0 < z := by rw [← hz]; have := Int.min_le_right most 0; omega
  obtain ⟨b, hb⟩ : ∃ b, w.heap.size = b := ⟨_, rfl⟩
  have HB : Hid (w.heap.size = b) := hb
  have HO : Hid _ := orZero_nil b w hb
  clear hb
  go_enter_defers Tryz.func71, Tryz.ntmps71
  go_wp2_with (first
    | (go_at_call 132; refine Calls.mono HO.out ?_; rintro e w1 ⟨rfl, hq1, hb1⟩
       have HQ : Hid (QueueAt w1 (fun j => b < j) b 0 zeroQ) := hq1
       have HZ : Hid (Zq w (w1.setCell ⟨b, 0, none⟩ (.int .i32 1)) b) := Zq.of HB.out hq1 hb1
       clear hq1 hb1)
    | (go_at_call 65; refine (lock_free Tryz.muLib ⟨b, 0, none⟩ _ HQ.out.lock (HQ.out.free 0)).mono ?_; rintro e w2 ⟨rfl, hw2⟩
       rw [← hw2] at HZ
       clear hw2
       obtain ⟨c162, c163, c164, c165⟩ := HZ.out.cells)
    | fail)
  go_loopw [29] (fun i wr => i = .int .i64 0 ∧ wr = w2) (fun _ _ => 0)
  case atStart => exact ⟨rfl, rfl⟩
  case round =>
    obtain ⟨rfl, hwr⟩ := hrel
    subst hwr
    go_wp2_with fail
    refine leaves_cons (f := 66) (args := #[.pointer (some ⟨b, 0, none⟩)]) (by simp) (by simp [go_sem]) ?_
    refine (unlock_deferred Tryz.muLib ⟨b, 0, none⟩ .returning _ HZ.out.q.lock (HZ.out.q.free 0)).mono ?_
    rintro e u' w'' ⟨rfl, rfl, rfl⟩
    exact ⟨_, results_tmp rfl _ _ _, rfl, HZ.out.done⟩
set_option maxHeartbeats 3200000 in
theorem put_none (st : Int) (v : Value) (l : List TgT) (w : World) (P : Nat → Prop) (hv : TgsAt w P v l) (hs : TgsSmall l) :
    Calls Tryz.prog 200 #[.pointer none, .int .i64 st, v] w fun e w' => e = .returned (.int .i64 (zeroQ.putC st l)) ∧ Below w.heap.size w w' := by
  obtain ⟨a, c, rfl, hva⟩ := _root_.id hv
  obtain ⟨n, hn⟩ : ∃ n, l.length = n := ⟨_, rfl⟩
  have HV : Hid (TgsAt w P (.slice a l.length c) l) := hv
  obtain ⟨says, hsays⟩ : ∃ says, (decide (l ≠ []) && !tagless l) = says := ⟨_, rfl⟩
  have hlen : l.length ≤ MaxRow := by have := hs.len; unfold MaxRow at *; omega
  have HAR : Hid (∀ w', Below w.heap.size w w' → Calls Tryz.prog 277 #[.slice a n c] w' fun e w'' => e = .returned (.bool says) ∧ Below w'.heap.size w' w'') := fun w' hb => by
    have := areTagged_any _ l w' _ (TgsAt.keep HV.out (Kp.of_below hb _)) hlen
    rw [hsays, hn] at this
    exact this
  clear hlen
  obtain ⟨m, hm⟩ : ∃ m, mayQ 0 st says = m := ⟨_, rfl⟩
  have hpc : zeroQ.putC st l = if m ≠ 0 then m else 46 := by unfold QuT.putC; rw [hsays]; show (if mayQ 0 st says ≠ 0 then mayQ 0 st says else if (0 : Nat) = 0 then 46 else 0) = _; rw [hm, if_pos rfl]
  rw [hpc]
  show Calls Tryz.prog 200 #[.pointer none, .int .i64 st, .slice a l.length c] w _
  have HM : Hid (mayQ 0 st says = m) := hm
  rw [hn] at HV ⊢
  clear hva hv hpc hm hsays hs
  by_cases h0 : m = 0
  · subst h0
    obtain ⟨b, hb⟩ : ∃ b, w.heap.size = b := ⟨_, rfl⟩
    have HB : Hid (w.heap.size = b) := hb
    have HO : Hid _ := orZero_nil b w hb
    clear hb
    go_enter_defers Tryz.func200, Tryz.ntmps200
    go_wp2_with (first
      | (go_at_call 132; refine Calls.mono HO.out ?_; rintro e w1 ⟨rfl, hq1, hb1⟩
         have HQ : Hid (QueueAt w1 (fun j => b < j) b 0 zeroQ) := hq1
         have HZ : Hid (Zq w (w1.setCell ⟨b, 0, none⟩ (.int .i32 1)) b) := Zq.of HB.out hq1 hb1
         clear hq1 hb1)
      | (go_at_call 65; refine (lock_free Tryz.muLib ⟨b, 0, none⟩ _ HQ.out.lock (HQ.out.free 0)).mono ?_; rintro e w2 ⟨rfl, hw2⟩
         rw [← hw2] at HZ
         clear hw2
         obtain ⟨c162, c163, c164, c165⟩ := HZ.out.cells)
      | fail)
    refine Calls.mono (HAR.out _ HZ.out.below) ?_
    rintro e w3 ⟨rfl, hb3⟩
    have HZ3 : Hid (Zq w w3 b) := HZ.out.on hb3
    clear hb3
    go_wp2_with fail
    refine Calls.mono (mayFollow_any b 1 zeroQ _ _ HZ3.out.q st says) ?_
    rintro e w4 ⟨rfl, hw4⟩
    have HZ4 : Hid (Zq w w4 b) := by rw [hw4]; exact HZ3
    clear hw4
    rw [show mayQ zeroQ.last st says = _ from HM.out]
    obtain ⟨c162, c163, c164, c165⟩ := HZ4.out.cells
    go_wp2_with fail
    go_quiet (fail)
    go_wp2_with fail
    have HZ5 : Hid (Zq w _ b) := HZ4.out.on (below_drewN (Below.refl _ _) nq)
    refine leaves_cons (f := 66) (args := #[.pointer (some ⟨b, 0, none⟩)]) (by simp) (by simp [go_sem]) ?_
    refine (unlock_deferred Tryz.muLib ⟨b, 0, none⟩ .returning _ HZ5.out.q.lock (HZ5.out.q.free 0)).mono ?_
    rintro e u' w'' ⟨rfl, rfl, rfl⟩
    exact ⟨_, results_tmp rfl _ _ _, rfl, HZ5.out.done⟩
  · have hmb : (m != 0) = true := by simpa using h0
    rw [if_pos h0]
    clear h0
    obtain ⟨b, hb⟩ : ∃ b, w.heap.size = b := ⟨_, rfl⟩
    have HB : Hid (w.heap.size = b) := hb
    have HO : Hid _ := orZero_nil b w hb
    clear hb
    go_enter_defers Tryz.func200, Tryz.ntmps200
    go_wp2_with (first
      | (go_at_call 132; refine Calls.mono HO.out ?_; rintro e w1 ⟨rfl, hq1, hb1⟩
         have HQ : Hid (QueueAt w1 (fun j => b < j) b 0 zeroQ) := hq1
         have HZ : Hid (Zq w (w1.setCell ⟨b, 0, none⟩ (.int .i32 1)) b) := Zq.of HB.out hq1 hb1
         clear hq1 hb1)
      | (go_at_call 65; refine (lock_free Tryz.muLib ⟨b, 0, none⟩ _ HQ.out.lock (HQ.out.free 0)).mono ?_; rintro e w2 ⟨rfl, hw2⟩
         rw [← hw2] at HZ
         clear hw2
         obtain ⟨c162, c163, c164, c165⟩ := HZ.out.cells)
      | fail)
    refine Calls.mono (HAR.out _ HZ.out.below) ?_
    rintro e w3 ⟨rfl, hb3⟩
    have HZ3 : Hid (Zq w w3 b) := HZ.out.on hb3
    clear hb3
    go_wp2_with fail
    refine Calls.mono (mayFollow_any b 1 zeroQ _ _ HZ3.out.q st says) ?_
    rintro e w4 ⟨rfl, hw4⟩
    have HZ4 : Hid (Zq w w4 b) := by rw [hw4]; exact HZ3
    clear hw4
    rw [show mayQ zeroQ.last st says = _ from HM.out]
    obtain ⟨c162, c163, c164, c165⟩ := HZ4.out.cells
    go_wp2_with fail
    refine leaves_cons (f := 66) (args := #[.pointer (some ⟨b, 0, none⟩)]) (by simp) (by simp [go_sem]) ?_
    refine (unlock_deferred Tryz.muLib ⟨b, 0, none⟩ .returning _ HZ4.out.q.lock (HZ4.out.q.free 0)).mono ?_
    rintro e u' w'' ⟨rfl, rfl, rfl⟩
    exact ⟨_, results_tmp rfl _ _ _, rfl, HZ4.out.done⟩
set_option maxHeartbeats 3200000 in
theorem coll_none (st : Int) (v : Value) (l : List PaT) (w : World) (P : Nat → Prop) (hv : PasAt w P v l) (hs : PasSmall l) :
    Calls Tryz.prog 257 #[.pointer none, .int .i64 st, v] w fun e w' => e = .returned (.int .i64 (zeroQ.collC st l)) ∧ Below w.heap.size w w' := by
  obtain ⟨a, c, rfl, hva⟩ := _root_.id hv
  obtain ⟨n, hn⟩ : ∃ n, l.length = n := ⟨_, rfl⟩
  have HV : Hid (PasAt w P (.slice a l.length c) l) := hv
  obtain ⟨says, hsays⟩ : ∃ says, decide (l ≠ []) = says := ⟨_, rfl⟩
  have hgt : decide (0 < n) = says := by
    rw [← hsays, ← hn]
    cases l with
    | nil => rfl
    | cons x r => simp
  have hnm : n ≤ 140737488355328 := by have := hs.len; unfold MaxRow at this; omega
  have HMF : Hid (∀ w' b, QueueAt w' (fun j => b < j) b 1 zeroQ → Calls Tryz.prog 276 #[.pointer (some ⟨b, 0, none⟩), .int .i64 st, .bool (decide (0 < n))] w' fun e w'' => e = .returned (.int .i64 (mayQ 0 st says)) ∧ w'' = w') := fun w' b h => by rw [hgt]; exact mayFollow_any b 1 zeroQ w' _ h st says
  clear hgt
  obtain ⟨m, hm⟩ : ∃ m, mayQ 0 st says = m := ⟨_, rfl⟩
  have hpc : zeroQ.collC st l = if m ≠ 0 then m else 46 := by unfold QuT.collC; rw [hsays]; show (if mayQ 0 st says ≠ 0 then mayQ 0 st says else if (0 : Nat) = 0 then 46 else 0) = _; rw [hm, if_pos rfl]
  rw [hpc]
  show Calls Tryz.prog 257 #[.pointer none, .int .i64 st, .slice a l.length c] w _
  have HM : Hid (mayQ 0 st says = m) := hm
  rw [hn] at HV ⊢
  clear hva hv hpc hm hsays hs
  by_cases h0 : m = 0
  · subst h0
    obtain ⟨b, hb⟩ : ∃ b, w.heap.size = b := ⟨_, rfl⟩
    have HB : Hid (w.heap.size = b) := hb
    have HO : Hid _ := orZero_nil b w hb
    clear hb
    go_enter_defers Tryz.func257, Tryz.ntmps257
    go_wp2_with (first
      | (go_at_call 132; refine Calls.mono HO.out ?_; rintro e w1 ⟨rfl, hq1, hb1⟩
         have HQ : Hid (QueueAt w1 (fun j => b < j) b 0 zeroQ) := hq1
         have HZ : Hid (Zq w (w1.setCell ⟨b, 0, none⟩ (.int .i32 1)) b) := Zq.of HB.out hq1 hb1
         clear hq1 hb1)
      | (go_at_call 65; refine (lock_free Tryz.muLib ⟨b, 0, none⟩ _ HQ.out.lock (HQ.out.free 0)).mono ?_; rintro e w2 ⟨rfl, hw2⟩
         rw [← hw2] at HZ
         clear hw2
         obtain ⟨c162, c163, c164, c165⟩ := HZ.out.cells)
      | fail)
    have HZ3 : Hid (Zq w w2 b) := HZ
    refine Calls.mono (HMF.out _ b HZ3.out.q) ?_
    rintro e w4 ⟨rfl, hw4⟩
    have HZ4 : Hid (Zq w w4 b) := by rw [hw4]; exact HZ3
    clear hw4
    rw [HM.out]
    obtain ⟨c162, c163, c164, c165⟩ := HZ4.out.cells
    go_wp2_with fail
    refine leaves_cons (f := 66) (args := #[.pointer (some ⟨b, 0, none⟩)]) (by simp) (by simp [go_sem]) ?_
    refine (unlock_deferred Tryz.muLib ⟨b, 0, none⟩ .returning _ HZ4.out.q.lock (HZ4.out.q.free 0)).mono ?_
    rintro e u' w'' ⟨rfl, rfl, rfl⟩
    exact ⟨_, results_tmp rfl _ _ _, rfl, HZ4.out.done⟩
  · have hmb : (m != 0) = true := by simpa using h0
    rw [if_pos h0]
    clear h0
    obtain ⟨b, hb⟩ : ∃ b, w.heap.size = b := ⟨_, rfl⟩
    have HB : Hid (w.heap.size = b) := hb
    have HO : Hid _ := orZero_nil b w hb
    clear hb
    go_enter_defers Tryz.func257, Tryz.ntmps257
    go_wp2_with (first
      | (go_at_call 132; refine Calls.mono HO.out ?_; rintro e w1 ⟨rfl, hq1, hb1⟩
         have HQ : Hid (QueueAt w1 (fun j => b < j) b 0 zeroQ) := hq1
         have HZ : Hid (Zq w (w1.setCell ⟨b, 0, none⟩ (.int .i32 1)) b) := Zq.of HB.out hq1 hb1
         clear hq1 hb1)
      | (go_at_call 65; refine (lock_free Tryz.muLib ⟨b, 0, none⟩ _ HQ.out.lock (HQ.out.free 0)).mono ?_; rintro e w2 ⟨rfl, hw2⟩
         rw [← hw2] at HZ
         clear hw2
         obtain ⟨c162, c163, c164, c165⟩ := HZ.out.cells)
      | fail)
    have HZ3 : Hid (Zq w w2 b) := HZ
    refine Calls.mono (HMF.out _ b HZ3.out.q) ?_
    rintro e w4 ⟨rfl, hw4⟩
    have HZ4 : Hid (Zq w w4 b) := by rw [hw4]; exact HZ3
    clear hw4
    rw [HM.out]
    obtain ⟨c162, c163, c164, c165⟩ := HZ4.out.cells
    go_wp2_with fail
    refine leaves_cons (f := 66) (args := #[.pointer (some ⟨b, 0, none⟩)]) (by simp) (by simp [go_sem]) ?_
    refine (unlock_deferred Tryz.muLib ⟨b, 0, none⟩ .returning _ HZ4.out.q.lock (HZ4.out.q.free 0)).mono ?_
    rintro e u' w'' ⟨rfl, rfl, rfl⟩
    exact ⟨_, results_tmp rfl _ _ _, rfl, HZ4.out.done⟩
end Go.Proofs.YtjcnigffpamcgaaGreatDoor
