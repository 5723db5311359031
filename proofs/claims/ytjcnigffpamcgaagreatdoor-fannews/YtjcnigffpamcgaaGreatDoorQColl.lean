/-
  queue: Collapse.
-/
import Derived.Test.YtjcnigffpamcgaaGreatDoorQTook
namespace Go.Proofs.YtjcnigffpamcgaaGreatDoor
open Go.RowKit Go.MuLone
set_option linter.unusedVariables false
set_option linter.unusedSimpArgs false

/-- What Collapse answers. -/
def QuT.collC (Q : QuT) (st : Int) (l : List PaT) : Int :=
  if mayQ Q.last st (decide (l ≠ [])) ≠ 0 then mayQ Q.last st (decide (l ≠ [])) else if Q.room = 0 then 46 else 0
theorem may_okC {last : Nat} {st : Int} {says : Bool} (h : mayQ last st says = 0) : (last : Int) < st ∧ st ≤ 2147483647 ∧ says = true := by
  unfold mayQ at h
  split at h
  · cases h
  · rename_i h1
    split at h
    · cases h
    · rename_i h2
      simp only [not_or] at h2
      exact ⟨by omega, by omega, by simpa using h2.2⟩
set_option maxHeartbeats 6400000 in
set_option maxRecDepth 100000 in
theorem coll_some (b : Nat) (Q : QuT) (st : Int) (v : Value) (l : List PaT) (w : World) (S P : Nat → Prop) (h : QueueAt w S b 0 Q) (hv : PasAt w P v l) (hs : PasSmall l) (hPb : ¬ P b) (hSn : ∀ j, w.heap.size ≤ j → S j) :
    Calls Tryz.prog 257 #[.pointer (some ⟨b, 0, none⟩), .int .i64 st, v] w fun e w' => e = .returned (.int .i64 (Q.collC st l)) ∧ (Q.collC st l ≠ 0 → QueueAt w' S b 0 Q) ∧ (Q.collC st l = 0 → ∃ f, QueueAt w' S b 0 ⟨Q.room, f, st.toNat, [⟨st, Q.begin, true, [], l⟩]⟩) ∧ Chg w w' (fun j => j = b) := by
  obtain ⟨a, c, rfl, hva⟩ := _root_.id hv
  obtain ⟨n, hn⟩ : ∃ n, l.length = n := ⟨_, rfl⟩
  have HQ : Hid (QueueAt w S b 0 Q) := h
  obtain ⟨W, hW⟩ : ∃ W, w.setCell ⟨b, 0, none⟩ (.int .i32 1) = W := ⟨_, rfl⟩
  have HL : Hid (QueueAt W S b 1 Q) := by show QueueAt _ _ _ _ _; rw [← hW]; exact (qset_lock h 1).1
  have HC : Hid (Chg w W (fun j => j = b)) := by show Chg _ _ _; rw [← hW]; exact (qset_lock h 1).2
  obtain ⟨says, hsays⟩ : ∃ says, decide (l ≠ []) = says := ⟨_, rfl⟩
  have HVW : Hid (PasAt W P (.slice a l.length c) l) := PasAt.keep hv (Kp.of_chg HC.out (fun j _ hj e => hPb (by have e : j = b := e; rw [← e]; exact hj)))
  have hgt : decide (0 < n) = says := by
    rw [← hsays, ← hn]
    cases l with
    | nil => rfl
    | cons x r => simp
  have HMF : Hid (Calls Tryz.prog 276 #[.pointer (some ⟨b, 0, none⟩), .int .i64 st, .bool (decide (0 < n))] W fun e w'' => e = .returned (.int .i64 (mayQ Q.last st says)) ∧ w'' = W) := by rw [hgt]; exact mayFollow_any b 1 Q W S HL.out st says
  have HPB : Hid (¬ P b) := hPb
  have HSN : Hid (∀ j, w.heap.size ≤ j → S j) := hSn
  have HSM : Hid (PasSmall l) := hs
  have HN : Hid (l.length = n) := hn
  obtain ⟨m, hm⟩ : ∃ m, mayQ Q.last st says = m := ⟨_, rfl⟩
  rw [hm] at HMF
  have hpc : Q.collC st l = if m ≠ 0 then m else if Q.room = 0 then 46 else 0 := by unfold QuT.collC; rw [hsays, hm]
  obtain ⟨pc, hpc0⟩ : ∃ pc, Q.collC st l = pc := ⟨_, rfl⟩
  rw [hpc0] at hpc ⊢
  have HMAY : Hid (m = 0 → (Q.last : Int) < st ∧ st ≤ 2147483647) := fun h0 => by have := may_okC (hm.trans h0); exact ⟨this.1, this.2.1⟩
  show Calls Tryz.prog 257 #[.pointer (some ⟨b, 0, none⟩), .int .i64 st, .slice a l.length c] w _
  rw [hn]
  have hnm : n ≤ 140737488355328 := by have := hs.len; unfold MaxRow at this; omega
  clear hpc0 hva hv hs hSn hm hsays h hn hPb hgt
  have c162 : W.cell? ⟨b, 162, none⟩ = some (.int .i64 Q.room) := HL.out.room
  by_cases h0 : m = 0
  case neg =>
    have HPC : Hid (pc = m) := by show _ = _; rw [hpc, if_pos h0]
    have hmb : (m != 0) = true := by simpa using h0
    have HNZ : Hid (m ≠ 0) := h0
    clear hpc h0
    go_enter_defers Tryz.func257, Tryz.ntmps257
    go_wp2_with (first
      | (go_at_call 132; refine (orZero_some b _).mono ?_; rintro e w1 ⟨rfl, hw1⟩; subst hw1)
      | (go_at_call 65; refine (lock_free Tryz.muLib ⟨b, 0, none⟩ _ HQ.out.lock (HQ.out.free 0)).mono ?_; rintro e w2 ⟨rfl, hw2⟩; rw [hW] at hw2; subst hw2))
    refine Calls.mono HMF.out ?_
    rintro e w4 ⟨rfl, hw4⟩
    subst hw4
    go_wp2_with fail
    refine leaves_cons (f := 66) (args := #[.pointer (some ⟨b, 0, none⟩)]) (by simp) (by simp [go_sem]) ?_
    refine (unlock_deferred Tryz.muLib ⟨b, 0, none⟩ .returning _ HL.out.lock (HL.out.free 0)).mono ?_
    rintro e u' w'' ⟨rfl, rfl, rfl⟩
    obtain ⟨hq6, hc6⟩ := qset_lock HL.out 0
    exact ⟨_, results_tmp rfl _ _ _, by rw [HPC.out]; rfl, fun _ => hq6, fun h => absurd (HPC.out ▸ h) HNZ.out, HC.out.trans hc6⟩
  subst h0
  have HST : Hid (0 ≤ st ∧ st ≤ 2147483647) := by have := HMAY.out rfl; exact ⟨by omega, this.2⟩
  clear HMAY
  obtain ⟨rm, hrm⟩ : ∃ rm, Q.room = rm := ⟨_, rfl⟩
  have HRM : Hid (Q.room = rm) := hrm
  rw [hrm] at hpc c162
  clear hrm
  by_cases hr0 : rm = 0
  · have HPC : Hid (pc = 46) := by show _ = _; rw [hpc, if_neg (by simp), if_pos hr0]
    subst hr0
    clear hpc
    go_enter_defers Tryz.func257, Tryz.ntmps257
    go_wp2_with (first
      | (go_at_call 132; refine (orZero_some b _).mono ?_; rintro e w1 ⟨rfl, hw1⟩; subst hw1)
      | (go_at_call 65; refine (lock_free Tryz.muLib ⟨b, 0, none⟩ _ HQ.out.lock (HQ.out.free 0)).mono ?_; rintro e w2 ⟨rfl, hw2⟩; rw [hW] at hw2; subst hw2))
    refine Calls.mono HMF.out ?_
    rintro e w4 ⟨rfl, hw4⟩
    subst hw4
    go_wp2_with fail
    refine leaves_cons (f := 66) (args := #[.pointer (some ⟨b, 0, none⟩)]) (by simp) (by simp [go_sem]) ?_
    refine (unlock_deferred Tryz.muLib ⟨b, 0, none⟩ .returning _ HL.out.lock (HL.out.free 0)).mono ?_
    rintro e u' w'' ⟨rfl, rfl, rfl⟩
    obtain ⟨hq6, hc6⟩ := qset_lock HL.out 0
    exact ⟨_, results_tmp rfl _ _ _, by rw [HPC.out]; rfl, fun _ => hq6, (fun h => by rw [HPC.out] at h; cases h), HC.out.trans hc6⟩
  · have HPC : Hid (pc = 0) := by show _ = _; rw [hpc, if_neg (by simp), if_neg hr0]
    have hrb : ((rm : Int) == 0) = false := by simp; omega
    have HR0 : Hid (0 < rm) := by show _ < _; omega
    clear hpc hr0
    go_enter_defers Tryz.func257, Tryz.ntmps257
    go_wp2_with (first
      | (go_at_call 132; refine (orZero_some b _).mono ?_; rintro e w1 ⟨rfl, hw1⟩; subst hw1)
      | (go_at_call 65; refine (lock_free Tryz.muLib ⟨b, 0, none⟩ _ HQ.out.lock (HQ.out.free 0)).mono ?_; rintro e w2 ⟨rfl, hw2⟩; rw [hW] at hw2; subst hw2))
    refine Calls.mono HMF.out ?_
    rintro e w4 ⟨rfl, hw4⟩
    subst hw4
    go_wp2_with fail
    refine Calls.mono (begin_any b 1 Q _ S HL.out) ?_
    rintro e w5 ⟨rfl, j5, rfl⟩
    have H5 : Hid (QueueAt (w4.drewN j5) S b 1 Q) := drewN_keep HL.out _
    have HC5 : Hid (Chg w1 (w4.drewN j5) (fun j => j = b)) := HC.out.trans (Chg.of_below (below_drewN (Below.refl _ _) _) _)
    have HVX : Hid (PasAt (w4.drewN j5) P (.slice a l.length c) l) := PasAt.keep HVW.out (Kp.of_below (below_drewN (Below.refl _ _) _) P)
    have c164 : (w4.drewN j5).cell? ⟨b, 164, none⟩ = some (.int .i64 Q.l.length) := H5.out.count
    go_wp2_with fail
    refine Calls.mono (takeOff_any b Q.l.length 1 Q _ S H5.out (Nat.le_refl _)) ?_
    rintro e w6 ⟨rfl, ⟨f6, hq6⟩, hc6⟩
    rw [List.drop_length] at hq6
    have H6 : Hid (QueueAt w6 S b 1 ⟨Q.room, f6, Q.last, []⟩) := hq6
    have HC6 : Hid (Chg w1 w6 (fun j => j = b)) := HC5.out.trans hc6
    have HKP : Hid (Kp (w4.drewN j5) w6 P) := Kp.of_chg hc6 (fun j _ hj e => HPB.out (by have e : j = b := e; rw [← e]; exact hj))
    clear hq6 hc6 c164 c162
    go_wp2_with fail
    have HCO : Hid (Calls Tryz.prog 208 #[.slice a n c, .func (.func 209) #[] #[]] w6 fun e w'' => ∃ u, e = .returned u ∧ PasAt w'' (fun b => w6.heap.size ≤ b) u l ∧ Below w6.heap.size w6 w'') := by
      have := copiesP_any _ l w6 P (PasAt.keep HVX.out HKP.out) HSM.out.len HSM.out.each
      rw [HN.out] at this
      exact this
    refine Calls.mono HCO.out ?_
    rintro e w7 ⟨u, rfl, hu, hb7⟩
    obtain ⟨ua, uc, rfl, _⟩ := _root_.id hu
    have H7 : Hid (QueueAt w7 S b 1 ⟨Q.room, f6, Q.last, []⟩) := H6.out.below hb7
    have HC7 : Hid (Chg w1 w7 (fun j => j = b)) := HC6.out.trans (Chg.of_below hb7 _)
    have HU7 : Hid (PasAt w7 S (.slice ua l.length uc) l) := PasAt.mono hu (fun j _ hj => HSN.out j (by have h1 := HC6.out.size; have h2 : w6.heap.size ≤ j := hj; omega))
    clear hu hb7
    go_wp2_with fail
    refine Calls.mono (add_any b 1 ⟨Q.room, f6, Q.last, []⟩ ⟨st, Q.begin, true, [], l⟩ (.slice none 0 0) (.slice ua l.length uc) w7 S H7.out (by show 0 < Q.room; rw [HRM.out]; exact HR0.out) (RowAt.nil _ _ _ _) HU7.out HST.out ⟨⟨by simp, fun t ht => by cases ht⟩, HSM.out⟩) ?_
    rintro e w8 ⟨rfl, hq8, hc8⟩
    have H8 : Hid (QueueAt w8 S b 1 ⟨Q.room, f6, st.toNat, [⟨st, Q.begin, true, [], l⟩]⟩) := hq8
    have HC8 : Hid (Chg w1 w8 (fun j => j = b)) := HC7.out.trans hc8
    clear hq8 hc8
    go_wp2_with fail
    refine leaves_cons (f := 66) (args := #[.pointer (some ⟨b, 0, none⟩)]) (by simp) (by simp [go_sem]) ?_
    refine (unlock_deferred Tryz.muLib ⟨b, 0, none⟩ .returning _ H8.out.lock (H8.out.free 0)).mono ?_
    rintro e u' w'' ⟨rfl, rfl, rfl⟩
    obtain ⟨hq9, hc9⟩ := qset_lock H8.out 0
    exact ⟨_, results_tmp rfl _ _ _, by rw [HPC.out]; rfl, fun h => absurd HPC.out h, fun _ => ⟨f6, hq9⟩, HC8.out.trans hc9⟩
end Go.Proofs.YtjcnigffpamcgaaGreatDoor
