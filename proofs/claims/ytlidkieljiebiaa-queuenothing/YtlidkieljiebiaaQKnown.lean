import Derived.Test.YtlidkieljiebiaaQSoundP
import Derived.Test.YtlidkieljiebiaaQSame
namespace Go.Proofs.Ytlidkieljiebiaa
open Go.RowKit
set_option linter.unusedVariables false
set_option linter.unusedSimpArgs false

theorem num_any (x : Int) (w : World) : Calls Try.prog 10 #[.int .i64 x] w fun e w' => e = .returned (.int .i64 x) ∧ w' = w := by
  go_enter Try.func10, Try.ntmps10
  go_wp2_with fail
  go_ret
  exact ⟨rfl, rfl⟩
theorem pair_blocks {w : World} {t t' : TypeId} {cs cs' : Array Value} : ((w.alloc (.cells cs t)).alloc (.cells cs' t')).heap[w.heap.size]? = some (.cells cs t (0, 0)) ∧ ((w.alloc (.cells cs t)).alloc (.cells cs' t')).heap[w.heap.size + 1]? = some (.cells cs' t' (0, 0)) ∧ Below w.heap.size w ((w.alloc (.cells cs t)).alloc (.cells cs' t')) :=
  ⟨new_old (heap_alloc_new _ _) _, heap_new' (by simp), ((Below.refl _ _).alloc (Nat.le_refl _) _).alloc (by simp) _⟩
set_option maxHeartbeats 1600000 in
theorem tag_any (p : ByteArray) (w : World) : Calls Try.prog 28 #[.string p] w fun e w' => ∃ v, e = .returned v ∧ TgsAt w' (NewIn w) v [⟨1, p, ⟨#[]⟩, 0, [1]⟩] ∧ Below w.heap.size w w' := by
  go_enter Try.func28, Try.ntmps28
  go_wp2_with fail
  go_ret
  obtain ⟨hA, hB, hbel⟩ := pair_blocks (w := w) (t := 3) (t' := 88) (cs := #[.int .i64 1]) (cs' := #[.int .i64 1, .string p, .string ⟨#[]⟩, .int .i64 0, .slice (some ⟨w.heap.size, 0, none⟩) 1 1])
  obtain ⟨b0, b1, b2, b3, b4⟩ := cells_5 hB
  have a0 := cells_1 hA
  refine ⟨_, rfl, ⟨_, _, rfl, Nat.le_refl _, (fun h => by cases h), .inr ⟨w.heap.size + 1, 0, rfl, Nat.le_succ _, lt_of_blk hB, fun i x hi => ?_⟩⟩, hbel⟩
  obtain ⟨rfl, rfl⟩ : i = 0 ∧ x = ⟨1, p, ⟨#[]⟩, 0, [1]⟩ := by
    cases i with
    | zero => exact ⟨rfl, by simpa using hi.symm⟩
    | succ i => simp at hi
  refine ⟨_, b0, b1, b2, b3, b4, ⟨_, _, rfl, Nat.le_refl _, (fun h => by cases h), .inr ⟨w.heap.size, 0, rfl, Nat.le_refl _, lt_of_blk hA, fun j y hj => ?_⟩⟩⟩
  obtain ⟨rfl, rfl⟩ : j = 0 ∧ y = 1 := by
    cases j with
    | zero => exact ⟨rfl, by simpa using hj.symm⟩
    | succ i => simp at hj
  exact a0
/-- A queue behind a step. -/
theorem stepped_eq {Q : QuT} {s : StT} : (s.kind = 1 → Q.putC s.st s.cs ≠ 0 → Q.stepped s = (Q.last, Q.l)) ∧ (s.kind = 1 → Q.putC s.st s.cs = 0 → Q.stepped s = (s.st.toNat, Q.l ++ [⟨s.st, Q.last, false, s.cs, []⟩])) ∧ (s.kind = 2 → Q.collC s.st s.ps ≠ 0 → Q.stepped s = (Q.last, Q.l)) ∧ (s.kind = 2 → Q.collC s.st s.ps = 0 → Q.stepped s = (s.st.toNat, [⟨s.st, Q.begin, true, [], s.ps⟩])) ∧ (s.kind = 4 → Q.stepped s = (Q.last, Q.l.drop (tookN Q.l s.st))) ∧ (s.kind ≠ 1 → s.kind ≠ 2 → s.kind ≠ 4 → Q.stepped s = (Q.last, Q.l)) := by
  refine ⟨fun h g => ?_, fun h g => ?_, fun h g => ?_, fun h g => ?_, fun h => ?_, fun h1 h2 h4 => ?_⟩
  · simp [QuT.stepped, h, g]
  · simp [QuT.stepped, h, g]
  · simp [QuT.stepped, h, g]
  · simp [QuT.stepped, h, g]
  · simp [QuT.stepped, h]
  · simp [QuT.stepped, h1, h2, h4]
def StT.val (s : StT) (u1 u2 : Value) : Value := .agg #[.int .i64 s.kind, .int .i64 s.on, .int .i64 s.st, u1, u2]
set_option maxHeartbeats 3200000 in
set_option maxRecDepth 100000 in
theorem step_any (b : Nat) (Q : QuT) (s : StT) (u1 u2 : Value) (w : World) (S P : Nat → Prop) (h : QueueAt w S b 0 Q) (h1 : TgsAt w P u1 s.cs) (h2 : PasAt w P u2 s.ps) (hs : s.Small) (hPb : ¬ P b) (hSn : ∀ j, w.heap.size ≤ j → S j) :
    Calls Try.prog 19 #[.pointer (some ⟨b, 0, none⟩), .agg #[.int .i64 s.kind, .int .i64 s.on, .int .i64 s.st, u1, u2]] w fun e w' => e = .returned (.tuple #[]) ∧ (∃ f, QueueAt w' S b 0 ⟨Q.room, f, (Q.stepped s).1, (Q.stepped s).2⟩) ∧ Chg w w' (fun j => j = b) := by
  obtain ⟨p1, p2, p3, p4, p5, p6⟩ := stepped_eq (Q := Q) (s := s)
  obtain ⟨kind, on, st, cs, ps⟩ := s
  obtain ⟨Z, hZ⟩ : ∃ Z, Q.stepped ⟨kind, on, st, cs, ps⟩ = Z := ⟨_, rfl⟩
  rw [hZ] at p1 p2 p3 p4 p5 p6 ⊢
  simp only at p1 p2 p3 p4 p5 p6 h1 h2
  have HB0 : Hid (Below w.heap.size w (w.alloc (.cells #[.int .i64 kind, .int .i64 on, .int .i64 st, u1, u2] 33))) := (Below.refl _ _).alloc (Nat.le_refl _) _
  obtain ⟨c0, c1, c2, c3, c4⟩ := cells_5 (heap_alloc_new w (.cells #[.int .i64 kind, .int .i64 on, .int .i64 st, u1, u2] 33))
  have HPUT : Hid (∀ w', Below w.heap.size w w' → _) := fun w' hb => put_some b Q st u1 cs w' S P (h.below hb) (TgsAt.keep h1 (Kp.of_below hb _)) hs.cs hPb (fun j hj => hSn j (Nat.le_trans hb.size hj))
  have HCOL : Hid (∀ w', Below w.heap.size w w' → _) := fun w' hb => coll_some b Q st u2 ps w' S P (h.below hb) (PasAt.keep h2 (Kp.of_below hb _)) hs.ps hPb (fun j hj => hSn j (Nat.le_trans hb.size hj))
  have HTOO : Hid (∀ w', Below w.heap.size w w' → _) := fun w' hb => took_some b Q st w' S (h.below hb)
  have HQ : Hid (QueueAt w S b 0 Q) := h
  have HP : Hid ((kind = 1 → Q.putC st cs ≠ 0 → Z = (Q.last, Q.l)) ∧ (kind = 1 → Q.putC st cs = 0 → Z = (st.toNat, Q.l ++ [⟨st, Q.last, false, cs, []⟩])) ∧ (kind = 2 → Q.collC st ps ≠ 0 → Z = (Q.last, Q.l)) ∧ (kind = 2 → Q.collC st ps = 0 → Z = (st.toNat, [⟨st, Q.begin, true, [], ps⟩])) ∧ (kind = 4 → Z = (Q.last, Q.l.drop (tookN Q.l st))) ∧ (kind ≠ 1 → kind ≠ 2 → kind ≠ 4 → Z = (Q.last, Q.l))) := ⟨p1, p2, p3, p4, p5, p6⟩
  clear p1 p2 p3 p4 p5 p6 h1 h2 hs hPb hSn h hZ
  by_cases k1 : kind = 1
  · subst k1
    go_enter Try.func19, Try.ntmps19
    go_wp2_with fail
    refine Calls.mono (HPUT.out _ HB0.out) ?_
    rintro e w1 ⟨rfl, hno, hyes, hc⟩
    have H : Hid ((∃ f, QueueAt w1 S b 0 ⟨Q.room, f, Z.1, Z.2⟩) ∧ Chg w w1 (fun j => j = b)) := by
      refine ⟨?_, (Chg.of_below HB0.out _).trans hc⟩
      by_cases hz : Q.putC st cs = 0
      · exact ⟨Q.first, by rw [HP.out.2.1 (by trivial) hz]; exact hyes hz⟩
      · exact ⟨Q.first, by rw [HP.out.1 (by trivial) hz]; exact hno hz⟩
    clear hno hyes hc
    go_wp2_with fail
    exact bodyPost_end (results_none rfl _ _ _) rfl ⟨rfl, H.out⟩
  · by_cases k2 : kind = 2
    · subst k2
      go_enter Try.func19, Try.ntmps19
      go_wp2_with fail
      refine Calls.mono (HCOL.out _ HB0.out) ?_
      rintro e w1 ⟨rfl, hno, hyes, hc⟩
      have H : Hid ((∃ f, QueueAt w1 S b 0 ⟨Q.room, f, Z.1, Z.2⟩) ∧ Chg w w1 (fun j => j = b)) := by
        refine ⟨?_, (Chg.of_below HB0.out _).trans hc⟩
        by_cases hz : Q.collC st ps = 0
        · obtain ⟨f, hf⟩ := hyes hz
          exact ⟨f, by rw [HP.out.2.2.2.1 (by trivial) hz]; exact hf⟩
        · exact ⟨Q.first, by rw [HP.out.2.2.1 (by trivial) hz]; exact hno hz⟩
      clear hno hyes hc
      go_wp2_with fail
      exact bodyPost_end (results_none rfl _ _ _) rfl ⟨rfl, H.out⟩
    · by_cases k4 : kind = 4
      · subst k4
        go_enter Try.func19, Try.ntmps19
        go_wp2_with fail
        refine Calls.mono (HTOO.out _ HB0.out) ?_
        rintro e w1 ⟨rfl, hyes, hc⟩
        have H : Hid ((∃ f, QueueAt w1 S b 0 ⟨Q.room, f, Z.1, Z.2⟩) ∧ Chg w w1 (fun j => j = b)) := by
          refine ⟨?_, (Chg.of_below HB0.out _).trans hc⟩
          obtain ⟨f, hf⟩ := hyes
          exact ⟨f, by rw [HP.out.2.2.2.2.1 (by trivial)]; exact hf⟩
        clear hyes hc
        go_wp2_with fail
        exact bodyPost_end (results_none rfl _ _ _) rfl ⟨rfl, H.out⟩
      · have d1 : (kind == 1) = false := by simpa using k1
        have d2 : (kind == 2) = false := by simpa using k2
        have d4 : (kind == 4) = false := by simpa using k4
        have H : Hid ((∃ f, QueueAt (w.alloc (.cells #[.int .i64 kind, .int .i64 on, .int .i64 st, u1, u2] 33)) S b 0 ⟨Q.room, f, Z.1, Z.2⟩) ∧ Chg w (w.alloc (.cells #[.int .i64 kind, .int .i64 on, .int .i64 st, u1, u2] 33)) (fun j => j = b)) := by
          refine ⟨⟨Q.first, ?_⟩, Chg.of_below HB0.out _⟩
          rw [HP.out.2.2.2.2.2 k1 k2 k4]
          exact HQ.out.below HB0.out
        clear k1 k2 k4
        go_enter Try.func19, Try.ntmps19
        go_wp2_with fail
        exact bodyPost_end (results_none rfl _ _ _) rfl ⟨rfl, H.out⟩
end Go.Proofs.Ytlidkieljiebiaa
namespace Go.Proofs.Ytlidkieljiebiaa
open Go.RowKit
set_option linter.unusedVariables false
set_option linter.unusedSimpArgs false

abbrev tagA (x : UInt8) : TgT := ⟨1, ⟨#[47, x]⟩, ⟨#[]⟩, 0, [1]⟩
theorem tag_small (x : UInt8) : TgsSmall [tagA x] := ⟨by show 1 * 72 ≤ MaxRow; decide, fun t ht => by
  obtain rfl := List.mem_singleton.1 ht
  exact ⟨by show 2 ≤ MaxText; decide, by show 0 ≤ MaxText; decide, by show 8 ≤ MaxRow; decide⟩⟩
theorem known_put1 (f : Nat) : QuT.putC ⟨1, f, 5, []⟩ 7 [tagA 97] = 0 := by
  simp [QuT.putC, mayQ, tagless]
theorem known_put2 (f : Nat) : QuT.putC ⟨1, f, 7, [⟨7, 5, false, [tagA 97], []⟩]⟩ 9 [tagA 98] = 46 := by
  simp [QuT.putC, mayQ, tagless]
theorem chg_new {w w1 w2 : World} {b : Nat} (h : Below w.heap.size w w1) (hc : Chg w1 w2 (fun j => j = b)) (hb : w.heap.size ≤ b) : Below w.heap.size w w2 :=
  ⟨hc.os.trans h.os, hc.tape.trans h.tape, hc.output.trans h.output, Nat.le_trans h.size hc.size, fun k hk => (hc.block k (Nat.lt_of_lt_of_le hk h.size) (fun e => by omega)).trans (h.block k hk)⟩
theorem new_bad (w : World) : Calls Try.prog 9 #[.int .i64 0, .int .i64 (-1)] w fun e w' => e = .returned (.tuple #[.pointer none, .int .i64 1]) ∧ w' = w := by
  have := new_no 0 (-1) w (by decide)
  rw [show newQ 0 (-1) = 1 by decide] at this
  exact this
theorem put_k1 (b f : Nat) (v : Value) (w : World) (S P : Nat → Prop) (h : QueueAt w S b 0 ⟨1, f, 5, []⟩) (hv : TgsAt w P v [tagA 97]) (hPb : ¬ P b) (hSn : ∀ j, w.heap.size ≤ j → S j) :
    Calls Try.prog 12 #[.pointer (some ⟨b, 0, none⟩), .int .i64 7, v] w fun e w' => e = .returned (.int .i64 0) ∧ QueueAt w' S b 0 ⟨1, f, 7, [⟨7, 5, false, [tagA 97], []⟩]⟩ ∧ Chg w w' (fun j => j = b) := by
  refine (put_some b _ 7 v [tagA 97] w S P h hv (tag_small _) hPb hSn).mono ?_
  rintro e w' ⟨rfl, _, h1, hc⟩
  rw [known_put1] at h1 ⊢
  exact ⟨rfl, h1 rfl, hc⟩
theorem put_k2 (b f : Nat) (v : Value) (w : World) (S P : Nat → Prop) (h : QueueAt w S b 0 ⟨1, f, 7, [⟨7, 5, false, [tagA 97], []⟩]⟩) (hv : TgsAt w P v [tagA 98]) (hPb : ¬ P b) (hSn : ∀ j, w.heap.size ≤ j → S j) :
    Calls Try.prog 12 #[.pointer (some ⟨b, 0, none⟩), .int .i64 9, v] w fun e w' => e = .returned (.int .i64 46) ∧ QueueAt w' S b 0 ⟨1, f, 7, [⟨7, 5, false, [tagA 97], []⟩]⟩ ∧ Chg w w' (fun j => j = b) := by
  refine (put_some b _ 9 v [tagA 98] w S P h hv (tag_small _) hPb hSn).mono ?_
  rintro e w' ⟨rfl, h1, _, hc⟩
  rw [known_put2] at h1 ⊢
  exact ⟨rfl, h1 (by decide), hc⟩
theorem next_k (b f : Nat) (w : World) (S : Nat → Prop) (h : QueueAt w S b 0 ⟨1, f, 7, [⟨7, 5, false, [tagA 97], []⟩]⟩) :
    Calls Try.prog 17 #[.pointer (some ⟨b, 0, none⟩), .int .i64 9] w fun e w' => ∃ g o c, e = .returned (.slice (some ⟨g, o, none⟩) 1 c) ∧ (w'.cell? ⟨g, o, none⟩ = some (.int .i64 7) ∧ w'.cell? ⟨g, o + 1, none⟩ = some (.int .i64 5) ∧ g ≠ b) ∧ QueueAt w' S b 0 ⟨1, f, 7, [⟨7, 5, false, [tagA 97], []⟩]⟩ ∧ Chg w w' (fun j => j = b) := by
  refine (next_some b _ 9 w S h).mono ?_
  rintro e w' ⟨v, rfl, hv, hq, hc⟩
  have hv : ItsAt w' (NewIn w) v [⟨7, 5, false, [tagA 97], []⟩] := hv
  obtain ⟨a, c, rfl, _⟩ := RowAt.form hv
  obtain ⟨g, o, rfl, hg, _, u1, u2, he⟩ := RowAt.get hv (i := 0) rfl
  have h0 := he.st
  have h1 := he.af
  simp only [Nat.zero_mul, Nat.add_zero] at h0 h1
  exact ⟨g, o, c, rfl, ⟨h0, h1, fun e => by have := h.lt; have : w.heap.size ≤ g := hg; omega⟩, hq, hc⟩
theorem took_k (b f : Nat) (w : World) (S : Nat → Prop) (h : QueueAt w S b 0 ⟨1, f, 7, [⟨7, 5, false, [tagA 97], []⟩]⟩) :
    Calls Try.prog 16 #[.pointer (some ⟨b, 0, none⟩), .int .i64 7] w fun e w' => e = .returned (.int .i64 1) ∧ (∃ f, QueueAt w' S b 0 ⟨1, f, 7, []⟩) ∧ Chg w w' (fun j => j = b) := took_some b _ 7 w S h
set_option maxHeartbeats 3200000 in
set_option maxRecDepth 100000 in
theorem known_any (w : World) : Calls Try.prog 11 #[] w fun e w' => e = .returned (.bool true) ∧ Below w.heap.size w w' := by
  obtain ⟨B, hB⟩ : ∃ B, w.heap.size = B := ⟨_, rfl⟩
  obtain ⟨S, hS⟩ : ∃ S : Nat → Prop, S = fun j => B < j := ⟨_, rfl⟩
  have HS : Hid (∀ j, S j ↔ B < j) := fun j => by rw [hS]
  have HN1 : Hid _ := new_ok 1 5 w S (by rw [hS]; omega) (by decide)
  have HN2 : Hid (∀ w, _) := fun w => new_bad w
  have HNUM : Hid (∀ x w, _) := fun x w => num_any x w
  rw [hB] at HN1
  have HB : Hid (w.heap.size = B) := hB
  clear hB hS
  go_enter Try.func11, Try.ntmps11
  go_wp2_with fail
  refine Calls.mono HN1.out ?_
  rintro e w1 ⟨rfl, hq1, hb1⟩
  have HQ1 : Hid (QueueAt w1 S B 0 ⟨1, 0, 5, []⟩) := hq1
  have HB1 : Hid (Below w.heap.size w w1) := by show Below _ _ _; rw [HB.out]; exact hb1
  clear hq1 hb1 HN1
  go_wp2_with fail
  refine Calls.mono (HN2.out _) ?_
  rintro e w2 ⟨rfl, rfl⟩
  go_wp2_with (first
    | (go_at_call 10; refine (HNUM.out _ _).mono ?_; rintro e w3 ⟨rfl, rfl⟩))
  refine Calls.mono (tag_any _ _) ?_
  rintro e w4 ⟨v, rfl, hv, hb4⟩
  obtain ⟨va, vc, rfl, _⟩ := RowAt.form hv
  have HV4 : Hid (TgsAt w4 S (.slice va 1 vc) [tagA 97]) := TgsAt.mono hv (fun j _ hj => (HS.out j).2 (Nat.lt_of_lt_of_le HQ1.out.lt hj))
  have HQ4 : Hid (QueueAt w4 S B 0 ⟨1, 0, 5, []⟩) := HQ1.out.below hb4
  have HB4 : Hid (Below w.heap.size w w4) := trans2 HB1.out hb4
  clear hv hb4 HQ1
  go_wp2_with fail
  refine Calls.mono (put_k1 B 0 _ _ S S HQ4.out HV4.out HQ4.out.out (fun j hj => (HS.out j).2 (Nat.lt_of_lt_of_le HQ4.out.lt hj))) ?_
  rintro e w5 ⟨rfl, hq5, hc5⟩
  have HQ5 : Hid (QueueAt w5 S B 0 ⟨1, 0, 7, [⟨7, 5, false, [tagA 97], []⟩]⟩) := hq5
  have HB5 : Hid (Below w.heap.size w w5) := chg_new HB4.out hc5 (by rw [HB.out]; exact Nat.le_refl _)
  clear hq5 hc5 HQ4 HV4 HB4
  go_wp2_with fail
  refine Calls.mono (tag_any _ _) ?_
  rintro e w6 ⟨v, rfl, hv, hb6⟩
  obtain ⟨va, vc, rfl, _⟩ := RowAt.form hv
  have HV6 : Hid (TgsAt w6 S (.slice va 1 vc) [tagA 98]) := TgsAt.mono hv (fun j _ hj => (HS.out j).2 (Nat.lt_of_lt_of_le HQ5.out.lt hj))
  have HQ6 : Hid (QueueAt w6 S B 0 ⟨1, 0, 7, [⟨7, 5, false, [tagA 97], []⟩]⟩) := HQ5.out.below hb6
  have HB6 : Hid (Below w.heap.size w w6) := trans2 HB5.out hb6
  clear hv hb6 HQ5 HB5
  go_wp2_with fail
  refine Calls.mono (put_k2 B 0 _ _ S S HQ6.out HV6.out HQ6.out.out (fun j hj => (HS.out j).2 (Nat.lt_of_lt_of_le HQ6.out.lt hj))) ?_
  rintro e w7 ⟨rfl, hq7, hc7⟩
  have HQ7 : Hid (QueueAt w7 S B 0 ⟨1, 0, 7, [⟨7, 5, false, [tagA 97], []⟩]⟩) := hq7
  have HB7 : Hid (Below w.heap.size w w7) := chg_new HB6.out hc7 (by rw [HB.out]; exact Nat.le_refl _)
  clear hq7 hc7 HQ6 HV6 HB6
  go_wp2_with fail
  refine Calls.mono (next_k B 0 _ S HQ7.out) ?_
  rintro e w8 ⟨g, o, c, rfl, ⟨c0, c1, hgB⟩, hq8, hc8⟩
  have HQ8 : Hid (QueueAt w8 S B 0 ⟨1, 0, 7, [⟨7, 5, false, [tagA 97], []⟩]⟩) := hq8
  have HB8 : Hid (Below w.heap.size w w8) := chg_new HB7.out hc8 (by rw [HB.out]; exact Nat.le_refl _)
  clear hq8 hc8 HQ7 HB7
  go_wp2_with (first
    | (go_at_call 10; refine (HNUM.out _ _).mono ?_; rintro e w3 ⟨rfl, rfl⟩))
  refine Calls.mono (took_k B 0 _ S HQ8.out) ?_
  rintro e w9 ⟨rfl, ⟨f, hq9⟩, hc9⟩
  have HQ9 : Hid (QueueAt w9 S B 0 ⟨1, f, 7, []⟩) := hq9
  have HB9 : Hid (Below w.heap.size w w9) := chg_new HB8.out hc9 (by rw [HB.out]; exact Nat.le_refl _)
  clear hq9 hc9 HQ8 HB8 c0 c1
  go_wp2_with fail
  refine Calls.mono (len_some B _ _ S HQ9.out) ?_
  rintro e w10 ⟨rfl, rfl⟩
  go_wp2_with fail
  refine Calls.mono (last_some B _ _ S HQ9.out) ?_
  rintro e w11 ⟨rfl, rfl⟩
  go_wp2_with fail
  go_ret
  exact ⟨rfl, HB9.out⟩
end Go.Proofs.Ytlidkieljiebiaa
