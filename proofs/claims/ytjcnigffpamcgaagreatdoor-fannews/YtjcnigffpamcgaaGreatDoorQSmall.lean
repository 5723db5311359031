/-
  queue: orZero, mayFollow, begin, New.
-/
import Derived.Test.YtjcnigffpamcgaaGreatDoorQQueue
namespace Go.Proofs.YtjcnigffpamcgaaGreatDoor
open Go.RowKit
set_option linter.unusedVariables false
set_option linter.unusedSimpArgs false

theorem orZero_some (b : Nat) (w : World) : Calls Tryz.prog 132 #[.pointer (some ⟨b, 0, none⟩)] w fun e w' => e = .returned (.pointer (some ⟨b, 0, none⟩)) ∧ w' = w := by
  go_enter Tryz.func132, Tryz.ntmps132
  go_wp2_with fail
  go_ret
  exact ⟨rfl, rfl⟩
/-- The cells of a queue that is all zero, but for its room and last stamp. -/
def quCs (r x : Int) : Array Value := ([Value.int .i32 0, Value.int .u32 0] ++ ((List.replicate 32 [Value.int .i64 0, Value.int .i64 0, Value.bool false, Value.slice none 0 0, Value.slice none 0 0]).flatten ++ [Value.int .i64 r, Value.int .i64 0, Value.int .i64 0, Value.int .i64 x])).toArray
theorem zero_queue : (Tryz.prog.info? 249).map (fun i => (i.zero, i.size)) = some (some (.agg (quCs 0 0)), 166) := by kernel_rfl
theorem quCs_size (r x : Int) : (quCs r x).size = 166 := by kernel_rfl
theorem quCs_at (r x : Int) : (quCs r x)[0]? = some (.int .i32 0) ∧ (quCs r x)[162]? = some (.int .i64 r) ∧ (quCs r x)[163]? = some (.int .i64 0) ∧ (quCs r x)[164]? = some (.int .i64 0) ∧ (quCs r x)[165]? = some (.int .i64 x) := ⟨by kernel_rfl, by kernel_rfl, by kernel_rfl, by kernel_rfl, by kernel_rfl⟩
def zeroQ : QuT := ⟨0, 0, 0, []⟩
theorem queue_new {w : World} {S : Nat → Prop} {r x : Nat} {Z : Array Value} (hZ : Z = quCs r x) (hr : r ≤ 32) (hx : x ≤ 2147483647) (hS : ¬ S w.heap.size) : QueueAt (w.alloc (.cells Z 249)) S w.heap.size 0 ⟨r, 0, x, []⟩ := by
  have hb : (w.alloc (.cells Z 249)).heap[w.heap.size]? = some (.cells Z 249 (0, 0)) := heap_alloc_new _ _
  refine ⟨⟨hr, Nat.zero_le _, Nat.zero_le _, hx, fun e he => by cases he⟩, hS, ⟨Z, hb, by rw [hZ]; exact quCs_size _ _⟩, ?_, ?_, ?_, ?_, ?_, fun k e hk => by simp at hk⟩
  all_goals rw [cell_of hb, hZ]
  · exact (quCs_at r x).1
  · exact (quCs_at r x).2.1
  · exact (quCs_at r x).2.2.1
  · exact (quCs_at r x).2.2.2.1
  · exact (quCs_at r x).2.2.2.2
set_option maxHeartbeats 1600000 in
theorem orZero_none (w : World) (S : Nat → Prop) (hS : ¬ S w.heap.size) : Calls Tryz.prog 132 #[.pointer none] w fun e w' => e = .returned (.pointer (some ⟨w.heap.size, 0, none⟩)) ∧ QueueAt w' S w.heap.size 0 zeroQ ∧ Below w.heap.size w w' := by
  have hz := (zero_of_info zero_queue).1
  have hs := (zero_of_info zero_queue).2
  obtain ⟨Z, hZ⟩ : ∃ Z, Z = quCs 0 0 := ⟨_, rfl⟩
  rw [← hZ] at hz
  have HZ : Hid (Z = quCs 0 0) := hZ
  clear hZ
  go_enter Tryz.func132, Tryz.ntmps132
  go_wp2_with fail
  go_ret
  exact ⟨rfl, queue_new (r := 0) (x := 0) HZ.out (by decide) (by decide) hS, (Below.refl _ _).alloc (Nat.le_refl _) _⟩
def mayQ (last : Nat) (st : Int) (says : Bool) : Int := if 2147483647 < st then 3 else if st ≤ last ∨ says = false then 100 else 0
set_option maxHeartbeats 1600000 in
theorem mayFollow_any (b : Nat) (x : Int) (Q : QuT) (w : World) (S : Nat → Prop) (h : QueueAt w S b x Q) (st : Int) (says : Bool) :
    Calls Tryz.prog 276 #[.pointer (some ⟨b, 0, none⟩), .int .i64 st, .bool says] w fun e w' => e = .returned (.int .i64 (mayQ Q.last st says)) ∧ w' = w := by
  have c := h.last
  clear h
  by_cases h1 : 2147483647 < st
  · have HM : Hid (mayQ Q.last st says = 3) := by show _ = _; unfold mayQ; rw [if_pos h1]
    go_enter Tryz.func276, Tryz.ntmps276
    go_wp2_with fail
    go_ret
    exact ⟨by rw [HM.out]; rfl, rfl⟩
  · by_cases h2 : st ≤ (Q.last : Int)
    · have HM : Hid (mayQ Q.last st says = 100) := by show _ = _; unfold mayQ; rw [if_neg h1, if_pos (.inl h2)]
      go_enter Tryz.func276, Tryz.ntmps276
      go_wp2_with fail
      go_ret
      exact ⟨by rw [HM.out]; rfl, rfl⟩
    · cases says with
      | true =>
        have HM : Hid (mayQ Q.last st true = 0) := by show _ = _; unfold mayQ; rw [if_neg h1, if_neg (by simp [h2])]
        go_enter Tryz.func276, Tryz.ntmps276
        go_wp2_with fail
        go_ret
        exact ⟨by rw [HM.out]; rfl, rfl⟩
      | false =>
        have HM : Hid (mayQ Q.last st false = 100) := by show _ = _; unfold mayQ; rw [if_neg h1, if_pos (.inr rfl)]
        go_enter Tryz.func276, Tryz.ntmps276
        go_wp2_with fail
        go_ret
        exact ⟨by rw [HM.out]; rfl, rfl⟩
def QuT.begin (Q : QuT) : Int := match Q.l with | [] => Q.last | e :: _ => e.af
set_option maxHeartbeats 1600000 in
theorem begin_any (b : Nat) (x : Int) (Q : QuT) (w : World) (S : Nat → Prop) (h : QueueAt w S b x Q) :
    Calls Tryz.prog 320 #[.pointer (some ⟨b, 0, none⟩)] w fun e w' => e = .returned (.int .i64 Q.begin) ∧ ∃ n, w' = w.drewN n := by
  have c0 := h.count
  have c1 := h.last
  cases hl : Q.l with
  | nil =>
    have HM : Hid (Q.begin = Q.last) := by show _ = _; unfold QuT.begin; rw [hl]
    rw [hl] at c0
    simp only [List.length_nil] at c0
    clear h hl
    go_enter Tryz.func320, Tryz.ntmps320
    go_wp2_with fail
    go_ret
    exact ⟨by rw [HM.out]; rfl, 0, rfl⟩
  | cons e r =>
    have HM : Hid (Q.begin = e.af) := by show _ = _; unfold QuT.begin; rw [hl]
    rw [hl] at c0
    have hz : (((e :: r).length : Int) == 0) = false := by simp; omega
    have h0 : 0 < Q.room := by have := h.ok.fits; rw [hl] at this; simp at this; omega
    obtain ⟨u1, u2, hi⟩ := h.items 0 e (by rw [hl]; rfl)
    have HA : Hid _ := at_any b 0 x Q w S h h0 (by decide)
    obtain ⟨n, hn⟩ : ∃ n, (e :: r).length = n := ⟨_, rfl⟩
    rw [hn] at c0 hz
    have HI : Hid _ := hi.af
    rw [Nat.add_zero] at HA HI
    have HH : Hid (QueueAt w S b x Q) := h
    clear h hl hi hn
    go_enter Tryz.func320, Tryz.ntmps320
    go_wp2_with fail
    refine Calls.mono HA.out ?_
    rintro e' w' ⟨rfl, nn, rfl⟩
    have c2 : (w.drewN nn).cell? ⟨b, 2 + Q.first % Q.room * 5 + 1, none⟩ = some (.int .i64 e.af) := HI.out
    go_wp2_with fail
    go_ret
    exact ⟨by rw [HM.out]; rfl, nn, rfl⟩
def newQ (r x : Int) : Int := if r < 1 ∨ 32 < r then 1 else if x < 0 ∨ 2147483647 < x then 3 else 0
set_option maxHeartbeats 1600000 in
theorem new_ok (r x : Int) (w : World) (S : Nat → Prop) (hS : ¬ S w.heap.size) (h : newQ r x = 0) :
    Calls Tryz.prog 175 #[.int .i64 r, .int .i64 x] w fun e w' => e = .returned (.tuple #[.pointer (some ⟨w.heap.size, 0, none⟩), .int .i64 0]) ∧ QueueAt w' S w.heap.size 0 ⟨r.toNat, 0, x.toNat, []⟩ ∧ Below w.heap.size w w' := by
  have hh : ¬ (r < 1 ∨ 32 < r) ∧ ¬ (x < 0 ∨ 2147483647 < x) := by
    unfold newQ at h
    split at h
    · cases h
    · split at h
      · cases h
      · exact ⟨by assumption, by assumption⟩
  have a0 : ¬ r < 1 := fun h => hh.1 (.inl h)
  have a1 : ¬ 32 < r := fun h => hh.1 (.inr h)
  have b0 : ¬ x < 0 := fun h => hh.2 (.inl h)
  have b1 : ¬ 2147483647 < x := fun h => hh.2 (.inr h)
  have hz := (zero_of_info zero_queue).1
  have hs := (zero_of_info zero_queue).2
  obtain ⟨Z, hZ⟩ : ∃ Z, Z = quCs 0 0 := ⟨_, rfl⟩
  rw [← hZ] at hz
  have HZ : Hid (Z = quCs 0 0) := hZ
  have hsz : Z.size = 166 := by rw [hZ]; exact quCs_size _ _
  clear hZ h hh
  go_enter Tryz.func175, Tryz.ntmps175
  go_wp2_with fail
  go_ret2
  obtain ⟨C, hC⟩ : ∃ C, C = ((Z.setIfInBounds 162 (Value.int .i64 r)).setIfInBounds 165 (Value.int .i64 x)) := ⟨_, rfl⟩
  rw [← hC]
  have hx : (w.alloc (.cells C 249)).heap[w.heap.size]? = some (.cells C 249 (0, 0)) := heap_alloc_new _ _
  have hf : ((x.toNat : Nat) : Int) = x := by omega
  have hr : ((r.toNat : Nat) : Int) = r := by omega
  obtain ⟨q0, q1, q2, q3, q4⟩ := quCs_at 0 0
  refine ⟨rfl, ⟨⟨by show r.toNat ≤ 32; omega, Nat.zero_le _, Nat.zero_le _, by show x.toNat ≤ _; omega, fun e he => (by cases he)⟩, hS, ⟨C, hx, by rw [hC]; simpa using hsz⟩, ?_, ?_, ?_, ?_, ?_, fun k e hk => by cases hk⟩, (Below.refl _ _).alloc (Nat.le_refl _) _⟩
  all_goals rw [cell_of hx, hC]
  · rw [Array.getElem?_setIfInBounds_ne (by omega), Array.getElem?_setIfInBounds_ne (by omega), HZ.out]; exact q0
  · show _ = some (Value.int .i64 ((r.toNat : Nat) : Int))
    rw [hr]
    simp [Array.getElem?_setIfInBounds, hsz]
  · rw [Array.getElem?_setIfInBounds_ne (by omega), Array.getElem?_setIfInBounds_ne (by omega), HZ.out]; exact q2
  · rw [Array.getElem?_setIfInBounds_ne (by omega), Array.getElem?_setIfInBounds_ne (by omega), HZ.out]; exact q3
  · show _ = some (Value.int .i64 ((x.toNat : Nat) : Int))
    rw [hf]
    simp [Array.getElem?_setIfInBounds, hsz]
set_option maxHeartbeats 1600000 in
theorem new_no (r x : Int) (w : World) (h : newQ r x ≠ 0) :
    Calls Tryz.prog 175 #[.int .i64 r, .int .i64 x] w fun e w' => e = .returned (.tuple #[.pointer none, .int .i64 (newQ r x)]) ∧ w' = w := by
  by_cases h1 : r < 1
  · have HM : Hid (newQ r x = 1) := by show _ = _; unfold newQ; rw [if_pos (.inl h1)]
    clear h
    go_enter Tryz.func175, Tryz.ntmps175
    go_wp2_with fail
    go_ret2
    exact ⟨by rw [HM.out]; rfl, rfl⟩
  · by_cases h2 : 32 < r
    · have HM : Hid (newQ r x = 1) := by show _ = _; unfold newQ; rw [if_pos (.inr h2)]
      clear h
      go_enter Tryz.func175, Tryz.ntmps175
      go_wp2_with fail
      go_ret2
      exact ⟨by rw [HM.out]; rfl, rfl⟩
    · have hr : ¬ (r < 1 ∨ 32 < r) := by omega
      by_cases h3 : x < 0
      · have HM : Hid (newQ r x = 3) := by show _ = _; unfold newQ; rw [if_neg hr, if_pos (.inl h3)]
        clear h hr
        go_enter Tryz.func175, Tryz.ntmps175
        go_wp2_with fail
        go_ret2
        exact ⟨by rw [HM.out]; rfl, rfl⟩
      · by_cases h4 : 2147483647 < x
        · have HM : Hid (newQ r x = 3) := by show _ = _; unfold newQ; rw [if_neg hr, if_pos (.inr h4)]
          clear h hr
          go_enter Tryz.func175, Tryz.ntmps175
          go_wp2_with fail
          go_ret2
          exact ⟨by rw [HM.out]; rfl, rfl⟩
        · exact absurd (by unfold newQ; rw [if_neg hr, if_neg (by omega)]) h
end Go.Proofs.YtjcnigffpamcgaaGreatDoor
