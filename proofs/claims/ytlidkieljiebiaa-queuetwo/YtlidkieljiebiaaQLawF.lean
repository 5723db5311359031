/-
  queue: the law's num, tag, step.
-/
import Derived.Test.YtlidkieljiebiaaQSoundP
namespace Go.Proofs.Ytlidkieljiebiaa
open Go.RowKit
set_option linter.unusedVariables false
set_option linter.unusedSimpArgs false

theorem num_any (x : Int) (w : World) : Calls Try.prog 10 #[.int .i64 x] w fun e w' => e = .returned (.int .i64 x) ∧ w' = w := by
  go_enter Try.func10, Try.ntmps10
  go_wp2_with fail
  go_ret
  exact ⟨rfl, rfl⟩
theorem pair_blocks {w : World} {t t' : TypeId} {cs cs' : Array Value} : ((w.alloc (.cells cs t)).alloc (.cells cs' t')).heap[w.heap.size]? = some (.cells cs t (0, 0)) ∧ ((w.alloc (.cells cs t)).alloc (.cells cs' t')).heap[w.heap.size + 1]? = some (.cells cs' t' (0, 0)) ∧ Below w.heap.size w ((w.alloc (.cells cs t)).alloc (.cells cs' t')) :=
  ⟨new_old (heap_alloc_new _ _) _, heap_new' (by simp), ((Below.refl _ _).alloc (Nat.le_refl _) _).alloc (by simp) _⟩
set_option maxHeartbeats 1600000 in
theorem tag_any (p : ByteArray) (w : World) : Calls Try.prog 28 #[.string p] w fun e w' => ∃ v, e = .returned v ∧ TgsAt w' (NewIn w) v [⟨1, p, ⟨#[]⟩, 0, [1]⟩] ∧ Below w.heap.size w w' := by
  go_enter Try.func28, Try.ntmps28
  go_wp2_with fail
  go_ret
  obtain ⟨hA, hB, hbel⟩ := pair_blocks (w := w) (t := 3) (t' := 88) (cs := #[.int .i64 1]) (cs' := #[.int .i64 1, .string p, .string ⟨#[]⟩, .int .i64 0, .slice (some ⟨w.heap.size, 0, none⟩) 1 1])
  obtain ⟨b0, b1, b2, b3, b4⟩ := cells_5 hB
  have a0 := cells_1 hA
  refine ⟨_, rfl, ⟨_, _, rfl, Nat.le_refl _, (fun h => by cases h), .inr ⟨w.heap.size + 1, 0, rfl, Nat.le_succ _, lt_of_blk hB, fun i x hi => ?_⟩⟩, hbel⟩
  obtain ⟨rfl, rfl⟩ : i = 0 ∧ x = ⟨1, p, ⟨#[]⟩, 0, [1]⟩ := by
    cases i with
    | zero => exact ⟨rfl, by simpa using hi.symm⟩
    | succ i => simp at hi
  refine ⟨_, b0, b1, b2, b3, b4, ⟨_, _, rfl, Nat.le_refl _, (fun h => by cases h), .inr ⟨w.heap.size, 0, rfl, Nat.le_refl _, lt_of_blk hA, fun j y hj => ?_⟩⟩⟩
  obtain ⟨rfl, rfl⟩ : j = 0 ∧ y = 1 := by
    cases j with
    | zero => exact ⟨rfl, by simpa using hj.symm⟩
    | succ i => simp at hj
  exact a0
/-- A queue behind a step. -/
theorem stepped_eq {Q : QuT} {s : StT} : (s.kind = 1 → Q.putC s.st s.cs ≠ 0 → Q.stepped s = (Q.last, Q.l)) ∧ (s.kind = 1 → Q.putC s.st s.cs = 0 → Q.stepped s = (s.st.toNat, Q.l ++ [⟨s.st, Q.last, false, s.cs, []⟩])) ∧ (s.kind = 2 → Q.collC s.st s.ps ≠ 0 → Q.stepped s = (Q.last, Q.l)) ∧ (s.kind = 2 → Q.collC s.st s.ps = 0 → Q.stepped s = (s.st.toNat, [⟨s.st, Q.begin, true, [], s.ps⟩])) ∧ (s.kind = 4 → Q.stepped s = (Q.last, Q.l.drop (tookN Q.l s.st))) ∧ (s.kind ≠ 1 → s.kind ≠ 2 → s.kind ≠ 4 → Q.stepped s = (Q.last, Q.l)) := by
  refine ⟨fun h g => ?_, fun h g => ?_, fun h g => ?_, fun h g => ?_, fun h => ?_, fun h1 h2 h4 => ?_⟩
  · simp [QuT.stepped, h, g]
  · simp [QuT.stepped, h, g]
  · simp [QuT.stepped, h, g]
  · simp [QuT.stepped, h, g]
  · simp [QuT.stepped, h]
  · simp [QuT.stepped, h1, h2, h4]
def StT.val (s : StT) (u1 u2 : Value) : Value := .agg #[.int .i64 s.kind, .int .i64 s.on, .int .i64 s.st, u1, u2]
set_option maxHeartbeats 3200000 in
set_option maxRecDepth 100000 in
theorem step_any (b : Nat) (Q : QuT) (s : StT) (u1 u2 : Value) (w : World) (S P : Nat → Prop) (h : QueueAt w S b 0 Q) (h1 : TgsAt w P u1 s.cs) (h2 : PasAt w P u2 s.ps) (hs : s.Small) (hPb : ¬ P b) (hSn : ∀ j, w.heap.size ≤ j → S j) :
    Calls Try.prog 19 #[.pointer (some ⟨b, 0, none⟩), .agg #[.int .i64 s.kind, .int .i64 s.on, .int .i64 s.st, u1, u2]] w fun e w' => e = .returned (.tuple #[]) ∧ (∃ f, QueueAt w' S b 0 ⟨Q.room, f, (Q.stepped s).1, (Q.stepped s).2⟩) ∧ Chg w w' (fun j => j = b) := by
  obtain ⟨p1, p2, p3, p4, p5, p6⟩ := stepped_eq (Q := Q) (s := s)
  obtain ⟨kind, on, st, cs, ps⟩ := s
  obtain ⟨Z, hZ⟩ : ∃ Z, Q.stepped ⟨kind, on, st, cs, ps⟩ = Z := ⟨_, rfl⟩
  rw [hZ] at p1 p2 p3 p4 p5 p6 ⊢
  simp only at p1 p2 p3 p4 p5 p6 h1 h2
  have HB0 : Hid (Below w.heap.size w (w.alloc (.cells #[.int .i64 kind, .int .i64 on, .int .i64 st, u1, u2] 33))) := (Below.refl _ _).alloc (Nat.le_refl _) _
  obtain ⟨c0, c1, c2, c3, c4⟩ := cells_5 (heap_alloc_new w (.cells #[.int .i64 kind, .int .i64 on, .int .i64 st, u1, u2] 33))
  have HPUT : Hid (∀ w', Below w.heap.size w w' → _) := fun w' hb => put_some b Q st u1 cs w' S P (h.below hb) (TgsAt.keep h1 (Kp.of_below hb _)) hs.cs hPb (fun j hj => hSn j (Nat.le_trans hb.size hj))
  have HCOL : Hid (∀ w', Below w.heap.size w w' → _) := fun w' hb => coll_some b Q st u2 ps w' S P (h.below hb) (PasAt.keep h2 (Kp.of_below hb _)) hs.ps hPb (fun j hj => hSn j (Nat.le_trans hb.size hj))
  have HTOO : Hid (∀ w', Below w.heap.size w w' → _) := fun w' hb => took_some b Q st w' S (h.below hb)
  have HQ : Hid (QueueAt w S b 0 Q) := h
  have HP : Hid ((kind = 1 → Q.putC st cs ≠ 0 → Z = (Q.last, Q.l)) ∧ (kind = 1 → Q.putC st cs = 0 → Z = (st.toNat, Q.l ++ [⟨st, Q.last, false, cs, []⟩])) ∧ (kind = 2 → Q.collC st ps ≠ 0 → Z = (Q.last, Q.l)) ∧ (kind = 2 → Q.collC st ps = 0 → Z = (st.toNat, [⟨st, Q.begin, true, [], ps⟩])) ∧ (kind = 4 → Z = (Q.last, Q.l.drop (tookN Q.l st))) ∧ (kind ≠ 1 → kind ≠ 2 → kind ≠ 4 → Z = (Q.last, Q.l))) := ⟨p1, p2, p3, p4, p5, p6⟩
  clear p1 p2 p3 p4 p5 p6 h1 h2 hs hPb hSn h hZ
  by_cases k1 : kind = 1
  · subst k1
    go_enter Try.func19, Try.ntmps19
    go_wp2_with fail
    refine Calls.mono (HPUT.out _ HB0.out) ?_
    rintro e w1 ⟨rfl, hno, hyes, hc⟩
    have H : Hid ((∃ f, QueueAt w1 S b 0 ⟨Q.room, f, Z.1, Z.2⟩) ∧ Chg w w1 (fun j => j = b)) := by
      refine ⟨?_, (Chg.of_below HB0.out _).trans hc⟩
      by_cases hz : Q.putC st cs = 0
      · exact ⟨Q.first, by rw [HP.out.2.1 (by trivial) hz]; exact hyes hz⟩
      · exact ⟨Q.first, by rw [HP.out.1 (by trivial) hz]; exact hno hz⟩
    clear hno hyes hc
    go_wp2_with fail
    exact bodyPost_end (results_none rfl _ _ _) rfl ⟨rfl, H.out⟩
  · by_cases k2 : kind = 2
    · subst k2
      go_enter Try.func19, Try.ntmps19
      go_wp2_with fail
      refine Calls.mono (HCOL.out _ HB0.out) ?_
      rintro e w1 ⟨rfl, hno, hyes, hc⟩
      have H : Hid ((∃ f, QueueAt w1 S b 0 ⟨Q.room, f, Z.1, Z.2⟩) ∧ Chg w w1 (fun j => j = b)) := by
        refine ⟨?_, (Chg.of_below HB0.out _).trans hc⟩
        by_cases hz : Q.collC st ps = 0
        · obtain ⟨f, hf⟩ := hyes hz
          exact ⟨f, by rw [HP.out.2.2.2.1 (by trivial) hz]; exact hf⟩
        · exact ⟨Q.first, by rw [HP.out.2.2.1 (by trivial) hz]; exact hno hz⟩
      clear hno hyes hc
      go_wp2_with fail
      exact bodyPost_end (results_none rfl _ _ _) rfl ⟨rfl, H.out⟩
    · by_cases k4 : kind = 4
      · subst k4
        go_enter Try.func19, Try.ntmps19
        go_wp2_with fail
        refine Calls.mono (HTOO.out _ HB0.out) ?_
        rintro e w1 ⟨rfl, hyes, hc⟩
        have H : Hid ((∃ f, QueueAt w1 S b 0 ⟨Q.room, f, Z.1, Z.2⟩) ∧ Chg w w1 (fun j => j = b)) := by
          refine ⟨?_, (Chg.of_below HB0.out _).trans hc⟩
          obtain ⟨f, hf⟩ := hyes
          exact ⟨f, by rw [HP.out.2.2.2.2.1 (by trivial)]; exact hf⟩
        clear hyes hc
        go_wp2_with fail
        exact bodyPost_end (results_none rfl _ _ _) rfl ⟨rfl, H.out⟩
      · have d1 : (kind == 1) = false := by simpa using k1
        have d2 : (kind == 2) = false := by simpa using k2
        have d4 : (kind == 4) = false := by simpa using k4
        have H : Hid ((∃ f, QueueAt (w.alloc (.cells #[.int .i64 kind, .int .i64 on, .int .i64 st, u1, u2] 33)) S b 0 ⟨Q.room, f, Z.1, Z.2⟩) ∧ Chg w (w.alloc (.cells #[.int .i64 kind, .int .i64 on, .int .i64 st, u1, u2] 33)) (fun j => j = b)) := by
          refine ⟨⟨Q.first, ?_⟩, Chg.of_below HB0.out _⟩
          rw [HP.out.2.2.2.2.2 k1 k2 k4]
          exact HQ.out.below HB0.out
        clear k1 k2 k4
        go_enter Try.func19, Try.ntmps19
        go_wp2_with fail
        exact bodyPost_end (results_none rfl _ _ _) rfl ⟨rfl, H.out⟩
end Go.Proofs.Ytlidkieljiebiaa
