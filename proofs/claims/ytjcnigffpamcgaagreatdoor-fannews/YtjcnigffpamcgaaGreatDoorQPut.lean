/-
  queue: Put, Collapse.
-/
import Derived.Test.YtjcnigffpamcgaaGreatDoorQStep
namespace Go.Proofs.YtjcnigffpamcgaaGreatDoor
open Go.RowKit Go.MuLone
set_option linter.unusedVariables false
set_option linter.unusedSimpArgs false

/-- What Put answers. -/
def QuT.putC (Q : QuT) (st : Int) (l : List TgT) : Int :=
  if mayQ Q.last st (decide (l ≠ []) && !tagless l) ≠ 0 then mayQ Q.last st (decide (l ≠ []) && !tagless l) else if Q.l.length = Q.room then 46 else 0
theorem may_ok {last : Nat} {st : Int} {says : Bool} (h : mayQ last st says = 0) : (last : Int) < st ∧ st ≤ 2147483647 ∧ says = true := by
  unfold mayQ at h
  split at h
  · cases h
  · rename_i h1
    split at h
    · cases h
    · rename_i h2
      simp only [not_or] at h2
      exact ⟨by omega, by omega, by simpa using h2.2⟩
set_option maxHeartbeats 6400000 in
set_option maxRecDepth 100000 in
theorem put_some (b : Nat) (Q : QuT) (st : Int) (v : Value) (l : List TgT) (w : World) (S P : Nat → Prop) (h : QueueAt w S b 0 Q) (hv : TgsAt w P v l) (hs : TgsSmall l) (hPb : ¬ P b) (hSn : ∀ j, w.heap.size ≤ j → S j) :
    Calls Tryz.prog 200 #[.pointer (some ⟨b, 0, none⟩), .int .i64 st, v] w fun e w' => e = .returned (.int .i64 (Q.putC st l)) ∧ (Q.putC st l ≠ 0 → QueueAt w' S b 0 Q) ∧ (Q.putC st l = 0 → QueueAt w' S b 0 ⟨Q.room, Q.first, st.toNat, Q.l ++ [⟨st, Q.last, false, l, []⟩]⟩) ∧ Chg w w' (fun j => j = b) := by
  obtain ⟨a, c, rfl, hva⟩ := _root_.id hv
  obtain ⟨n, hn⟩ : ∃ n, l.length = n := ⟨_, rfl⟩
  have HQ : Hid (QueueAt w S b 0 Q) := h
  obtain ⟨W, hW⟩ : ∃ W, w.setCell ⟨b, 0, none⟩ (.int .i32 1) = W := ⟨_, rfl⟩
  have HL : Hid (QueueAt W S b 1 Q) := by show QueueAt _ _ _ _ _; rw [← hW]; exact (qset_lock h 1).1
  have HC : Hid (Chg w W (fun j => j = b)) := by show Chg _ _ _; rw [← hW]; exact (qset_lock h 1).2
  have HV : Hid (TgsAt w P (.slice a l.length c) l) := hv
  obtain ⟨says, hsays⟩ : ∃ says, (decide (l ≠ []) && !tagless l) = says := ⟨_, rfl⟩
  have HVW : Hid (TgsAt W P (.slice a l.length c) l) := TgsAt.keep hv (Kp.of_chg HC.out (fun j _ hj e => hPb (by have e : j = b := e; rw [← e]; exact hj)))
  have hlen : l.length ≤ MaxRow := by have := hs.len; unfold MaxRow at *; omega
  have HAR : Hid (Calls Tryz.prog 277 #[.slice a n c] W fun e w' => e = .returned (.bool says) ∧ Below W.heap.size W w') := by
    have := areTagged_any _ l W _ HVW.out hlen
    rw [hsays, hn] at this
    exact this
  have HMF : Hid (∀ w', Below W.heap.size W w' → Calls Tryz.prog 276 #[.pointer (some ⟨b, 0, none⟩), .int .i64 st, .bool says] w' fun e w'' => e = .returned (.int .i64 (mayQ Q.last st says)) ∧ w'' = w') := fun w' hb => mayFollow_any b 1 Q w' S (HL.out.below hb) st says
  have HSN : Hid (∀ j, w.heap.size ≤ j → S j) := hSn
  have HSM : Hid (TgsSmall l) := hs
  have HN : Hid (l.length = n) := hn
  obtain ⟨m, hm⟩ : ∃ m, mayQ Q.last st says = m := ⟨_, rfl⟩
  rw [hm] at HMF
  have hpc : Q.putC st l = if m ≠ 0 then m else if Q.l.length = Q.room then 46 else 0 := by unfold QuT.putC; rw [hsays, hm]
  obtain ⟨pc, hpc0⟩ : ∃ pc, Q.putC st l = pc := ⟨_, rfl⟩
  rw [hpc0] at hpc ⊢
  have HMAY : Hid (m = 0 → (Q.last : Int) < st ∧ st ≤ 2147483647) := fun h0 => by have := may_ok (hm.trans h0); exact ⟨this.1, this.2.1⟩
  show Calls Tryz.prog 200 #[.pointer (some ⟨b, 0, none⟩), .int .i64 st, .slice a l.length c] w _
  rw [hn]
  clear hpc0 hva hv hs hSn hm hsays h hn hPb hlen
  by_cases h0 : m = 0
  case neg =>
    have HPC : Hid (pc = m) := by show _ = _; rw [hpc, if_pos h0]
    have hmb : (m != 0) = true := by simpa using h0
    have HNZ : Hid (m ≠ 0) := h0
    clear hpc h0
    go_enter_defers Tryz.func200, Tryz.ntmps200
    go_wp2_with (first
      | (go_at_call 132; refine (orZero_some b _).mono ?_; rintro e w1 ⟨rfl, hw1⟩; subst hw1)
      | (go_at_call 65; refine (lock_free Tryz.muLib ⟨b, 0, none⟩ _ HQ.out.lock (HQ.out.free 0)).mono ?_; rintro e w2 ⟨rfl, hw2⟩; rw [hW] at hw2; subst hw2))
    refine Calls.mono HAR.out ?_
    rintro e w3 ⟨rfl, hb3⟩
    have HB3 : Hid (Below w2.heap.size w2 w3) := hb3
    clear hb3
    go_wp2_with fail
    refine Calls.mono (HMF.out _ HB3.out) ?_
    rintro e w4 ⟨rfl, rfl⟩
    go_wp2_with fail
    have H4 : Hid (QueueAt w4 S b 1 Q) := HL.out.below HB3.out
    refine leaves_cons (f := 66) (args := #[.pointer (some ⟨b, 0, none⟩)]) (by simp) (by simp [go_sem]) ?_
    refine (unlock_deferred Tryz.muLib ⟨b, 0, none⟩ .returning _ H4.out.lock (H4.out.free 0)).mono ?_
    rintro e u' w'' ⟨rfl, rfl, rfl⟩
    obtain ⟨hq6, hc6⟩ := qset_lock H4.out 0
    exact ⟨_, results_tmp rfl _ _ _, by rw [HPC.out]; rfl, fun _ => hq6, fun h => absurd (HPC.out ▸ h) HNZ.out, (HC.out.trans (Chg.of_below HB3.out _)).trans hc6⟩
  subst h0
  have HST : Hid (0 ≤ st ∧ st ≤ 2147483647) := by have := HMAY.out rfl; exact ⟨by omega, this.2⟩
  clear HMAY
  obtain ⟨qn, hqn⟩ : ∃ qn, Q.l.length = qn := ⟨_, rfl⟩
  rw [hqn] at hpc
  have HQN : Hid (Q.l.length = qn) := hqn
  have hfit : qn ≤ Q.room := by rw [← hqn]; exact HQ.out.ok.fits
  have hroom : Q.room ≤ 32 := HQ.out.ok.room
  clear hqn
  by_cases hfull : qn = Q.room
  · have HPC : Hid (pc = 46) := by show _ = _; rw [hpc, if_neg (by simp), if_pos hfull]
    have heq : ((qn : Int) == (Q.room : Int)) = true := by simp [hfull]
    clear hpc hfull
    go_enter_defers Tryz.func200, Tryz.ntmps200
    go_wp2_with (first
      | (go_at_call 132; refine (orZero_some b _).mono ?_; rintro e w1 ⟨rfl, hw1⟩; subst hw1)
      | (go_at_call 65; refine (lock_free Tryz.muLib ⟨b, 0, none⟩ _ HQ.out.lock (HQ.out.free 0)).mono ?_; rintro e w2 ⟨rfl, hw2⟩; rw [hW] at hw2; subst hw2))
    refine Calls.mono HAR.out ?_
    rintro e w3 ⟨rfl, hb3⟩
    have HB3 : Hid (Below w2.heap.size w2 w3) := hb3
    clear hb3
    go_wp2_with fail
    refine Calls.mono (HMF.out _ HB3.out) ?_
    rintro e w4 ⟨rfl, rfl⟩
    have H4 : Hid (QueueAt w4 S b 1 Q) := HL.out.below HB3.out
    have c164 : w4.cell? ⟨b, 164, none⟩ = some (.int .i64 qn) := by have := H4.out.count; rw [HQN.out] at this; exact this
    have c162 := H4.out.room
    have c165 := H4.out.last
    go_wp2_with fail
    go_quiet (fail)
    go_wp2_with fail
    have H5 : Hid (QueueAt _ S b 1 Q) := drewN_keep H4.out nq
    refine leaves_cons (f := 66) (args := #[.pointer (some ⟨b, 0, none⟩)]) (by simp) (by simp [go_sem]) ?_
    refine (unlock_deferred Tryz.muLib ⟨b, 0, none⟩ .returning _ H5.out.lock (H5.out.free 0)).mono ?_
    rintro e u' w'' ⟨rfl, rfl, rfl⟩
    obtain ⟨hq6, hc6⟩ := qset_lock H5.out 0
    exact ⟨_, results_tmp rfl _ _ _, by rw [HPC.out]; rfl, fun _ => hq6, (fun h => by rw [HPC.out] at h; cases h), ((HC.out.trans (Chg.of_below HB3.out _)).trans (Chg.of_below (below_drewN (Below.refl _ _) _) _)).trans hc6⟩
  · have HPC : Hid (pc = 0) := by show _ = _; rw [hpc, if_neg (by simp), if_neg hfull]
    have heq : ((qn : Int) == (Q.room : Int)) = false := by simp; omega
    have HLT : Hid (qn < Q.room) := by show _ < _; omega
    clear hpc hfull
    go_enter_defers Tryz.func200, Tryz.ntmps200
    go_wp2_with (first
      | (go_at_call 132; refine (orZero_some b _).mono ?_; rintro e w1 ⟨rfl, hw1⟩; subst hw1)
      | (go_at_call 65; refine (lock_free Tryz.muLib ⟨b, 0, none⟩ _ HQ.out.lock (HQ.out.free 0)).mono ?_; rintro e w2 ⟨rfl, hw2⟩; rw [hW] at hw2; subst hw2))
    refine Calls.mono HAR.out ?_
    rintro e w3 ⟨rfl, hb3⟩
    have HB3 : Hid (Below w2.heap.size w2 w3) := hb3
    clear hb3
    go_wp2_with fail
    refine Calls.mono (HMF.out _ HB3.out) ?_
    rintro e w4 ⟨rfl, rfl⟩
    have H4 : Hid (QueueAt w4 S b 1 Q) := HL.out.below HB3.out
    have c164 : w4.cell? ⟨b, 164, none⟩ = some (.int .i64 qn) := by have := H4.out.count; rw [HQN.out] at this; exact this
    have c162 := H4.out.room
    have c165 := H4.out.last
    go_wp2_with fail
    go_quiet (fail)
    go_wp2_with fail
    have H5 : Hid (QueueAt (w4.drewN nq) S b 1 Q) := drewN_keep H4.out nq
    have d165 : (w4.drewN nq).cell? ⟨b, 165, none⟩ = some (.int .i64 Q.last) := H5.out.last
    have HB5 : Hid (Below w2.heap.size w2 (w4.drewN nq)) := below_drewN HB3.out nq
    have HCW : Hid (w1.heap.size ≤ w2.heap.size) := HC.out.size
    have HEC : Hid (∀ args w, (callFunc 206 args).run Tryz.prog w = .ok (.enter 206 args) w) := enters_of Tryz.func206 (by kernel_rfl) rfl
    have HEA : Hid (∀ args w, (callFunc 278 args).run Tryz.prog w = .ok (.enter 278 args) w) := enters_of Tryz.func278 (by kernel_rfl) rfl
    have HCO : Hid (∀ w', Below w2.heap.size w2 w' → Calls Tryz.prog 206 #[.slice a n c, .func (.func 207) #[] #[]] w' fun e w'' => ∃ u, e = .returned u ∧ TgsAt w'' (fun b => w'.heap.size ≤ b) u l ∧ Below w'.heap.size w' w'') := fun w' hb => by
      have := copiesT_any _ l w' P (TgsAt.keep HVW.out (Kp.of_below hb P)) HSM.out.len HSM.out.each
      rw [HN.out] at this
      exact this
    obtain ⟨Y, hY⟩ : ∃ Y, w4.drewN nq = Y := ⟨_, rfl⟩
    rw [hY] at H5 d165 HB5 ⊢
    clear hY c162 c164 c165
    refine wp_cut [34, 35, 36, 37, 38, 39, 40, 41, 42, 43] (fun vs w' => ∃ ua uc, vs = [.pointer (some ⟨b, 0, none⟩), .int .i64 st, .pointer (some ⟨b, 0, none⟩), .pointer (some ⟨b, 0, none⟩), .pointer (some ⟨b, 165, none⟩), .int .i64 Q.last, .slice a n c, .slice ua l.length uc, .agg (itA ⟨st, Q.last, false, l, []⟩ (.slice ua l.length uc) (.slice none 0 0)), .tuple #[]] ∧ Hid (QueueAt w' S b 1 ⟨Q.room, Q.first, st.toNat, Q.l ++ [⟨st, Q.last, false, l, []⟩]⟩) ∧ Hid (Chg Y w' (fun j => j = b))) ?_ ?_
    · go_region_law
        (first
        | (refine step_call2 (by rfl) 206 _ _ _ (by rfl) HEC.out (.slice a n c) (.func (.func 207) #[] #[]) (by rfl) (by rfl) (HCO.out _ (by first | exact HB5.out | exact below_drew HB5.out | exact below_drew (below_drew HB5.out))) ?_
           rintro e w6 ⟨u, rfl, hu, hb6⟩
           obtain ⟨ua, uc, rfl, _⟩ := _root_.id hu
           refine ⟨_, rfl, ?_⟩
           have HB6 : Hid (Below Y.heap.size Y w6) := by first | exact hb6 | exact of_drew hb6 | exact of_drew (of_drew hb6)
           have HU6 : Hid (TgsAt w6 S (.slice ua l.length uc) l) := TgsAt.mono hu (fun j _ hj => HSN.out j (by have h1 := HB5.out.size; have h2 := HCW.out; have h3 : Y.heap.size ≤ j := hj; omega))
           have H6 : Hid (QueueAt w6 S b 1 Q) := H5.out.below HB6.out
           have d165 := H6.out.last
           clear hu hb6)
        | (refine step_call2 (by rfl) 278 _ _ _ (by rfl) HEA.out (.pointer (some ⟨b, 0, none⟩)) (.agg (itA ⟨st, Q.last, false, l, []⟩ (.slice ua l.length uc) (.slice none 0 0))) (by rfl) (by rfl) (add_any b 1 Q ⟨st, Q.last, false, l, []⟩ (.slice ua l.length uc) (.slice none 0 0) _ S (by first | exact H6.out | exact H6.out.below (below_drew (Below.refl _ _))) (by rw [HQN.out]; exact HLT.out) (by first | exact HU6.out | exact TgsAt.keep HU6.out (Kp.of_below (below_drew (Below.refl _ _)) S)) (RowAt.nil _ _ _ _) HST.out ⟨HSM.out, ⟨by simp, fun t ht => by cases ht⟩⟩) ?_
           rintro e w7 ⟨rfl, hq7, hc7⟩
           refine ⟨_, rfl, ?_⟩
           have H7 : Hid (QueueAt w7 S b 1 ⟨Q.room, Q.first, st.toNat, Q.l ++ [⟨st, Q.last, false, l, []⟩]⟩) := hq7
           have HC7 : Hid (Chg w6 w7 (fun j => j = b)) := by first | exact hc7 | exact (Chg.of_below (below_drew (Below.refl _ _)) _).trans hc7
           clear hq7 hc7)
        | fail)
      all_goals refine ⟨[.pointer (some ⟨b, 0, none⟩), .int .i64 st, .pointer (some ⟨b, 0, none⟩), .pointer (some ⟨b, 0, none⟩), .pointer (some ⟨b, 165, none⟩), .int .i64 Q.last, .slice a n c, .slice ua l.length uc, .agg (itA ⟨st, Q.last, false, l, []⟩ (.slice ua l.length uc) (.slice none 0 0)), .tuple #[]], ⟨ua, uc, rfl, H7, (Chg.of_below HB6.out _).trans HC7.out⟩, ?_⟩
      all_goals simp [putsL, Act.put]
    · rintro vs w8 ⟨ua, uc, rfl, H8, HC8⟩
      simp only [putsL]
      go_wp2_with fail
      simp only [bodyPostD]
      refine leaves_cons (f := 66) (args := #[.pointer (some ⟨b, 0, none⟩)]) (by simp) (by simp [go_sem]) ?_
      refine (unlock_deferred Tryz.muLib ⟨b, 0, none⟩ .returning _ H8.out.lock (H8.out.free 0)).mono ?_
      rintro e u' w'' ⟨rfl, rfl, rfl⟩
      obtain ⟨hq6, hc6⟩ := qset_lock H8.out 0
      exact ⟨_, results_tmp rfl _ _ _, by rw [HPC.out]; rfl, fun h => absurd HPC.out h, fun _ => hq6, ((HC.out.trans (Chg.of_below HB5.out _)).trans HC8.out).trans hc6⟩
end Go.Proofs.YtjcnigffpamcgaaGreatDoor
