/-
  QueueSound: the walk.
-/
import Derived.Test.YtlidkieljiebiaaQSoundF
import Derived.Test.YtlidkieljiebiaaQKnown
namespace Go.Proofs.Ytlidkieljiebiaa
open Go.RowKit
set_option linter.unusedVariables false
set_option linter.unusedSimpArgs false

theorem RowAt.take {α : Type} {w : World} {S : Nat → Prop} {sz : Nat} {E : Nat → Nat → α → Prop} {a : Option Addr} {n c k : Nat} {l : List α} (h : RowAt w S sz E (.slice a n c) l) (hk : k ≤ l.length) : RowAt w S sz E (.slice a k c) (l.take k) := by
  obtain ⟨a', c', hv, hc, hn, hr⟩ := h
  cases hv
  refine ⟨_, _, by rw [List.length_take, Nat.min_eq_left hk], by rw [List.length_take]; omega, hn, ?_⟩
  rcases hr with h | ⟨b, o, rfl, hS, hlt, hE⟩
  · exact .inl (by rw [h]; simp)
  · exact .inr ⟨b, o, rfl, hS, hlt, fun i x hi => hE i x (by rw [List.getElem?_take] at hi; split at hi; exact hi; cases hi)⟩
theorem nextN_all {l : List ItT} (h : l.length ≤ 32) : l.take (nextN l 99) = l := by
  have : nextN l 99 = l.length := by unfold nextN; omega
  rw [this, List.take_length]
theorem nextN_le (l : List ItT) (k : Int) : nextN l k ≤ l.length := by unfold nextN; omega
theorem nextN_eq (l : List ItT) (k : Int) : min (max k 0) (l.length : Int) = (nextN l k : Int) := by unfold nextN; omega
theorem its_chg {w w1 w2 : World} {b : Nat} {v : Value} {l : List ItT} (h : ItsAt w1 (NewIn w) v l) (hc : Chg w1 w2 (fun j => j = b)) (hb : b < w.heap.size) : ItsAt w2 (NewIn w) v l :=
  ItsAt.keep h (Kp.of_chg hc (fun j _ hj e => by have e : j = b := e; have hj : w.heap.size ≤ j := hj; omega))
/-- A queue between two rounds. -/
structure SndI (w0 : World) (B : Nat) (S : Nat → Prop) (room : Int) (w : World) (Q : QuT) : Prop where
  q : QueueAt w S B 0 Q
  room : (Q.room : Int) = room
  snd : Snd Q.last Q.l
  below : Below w0.heap.size w0 w
set_option maxHeartbeats 6400000 in
set_option maxRecDepth 100000 in
theorem sound_walk (room begin_ k : Int) (v : Value) (l : List StT) (w : World) (h : StepsAt w (fun b => b < w.heap.size) v l) (hsm : ∀ x ∈ l, x.Small) (hl : l.length ≤ maxLen) :
    Calls Try.prog 5 #[.int .i64 room, .int .i64 begin_, v, .int .i64 k] w fun e w' => e = .returned (.bool true) ∧ Below w.heap.size w w' := by
  unfold maxLen at hl
  obtain ⟨a, c, rfl, hc⟩ := RowAt.form h
  obtain ⟨m, hm⟩ : ∃ m, l.length = m := ⟨_, rfl⟩
  rw [hm] at h hl ⊢
  have HM : Hid (l.length = m) := hm
  have HL : Hid (StepsAt w (fun b => b < w.heap.size) (.slice a m c) l) := h
  have HSM : Hid (∀ x ∈ l, x.Small) := hsm
  have HNUM : Hid (∀ x w, _) := fun x w => num_any x w
  have HKN : Hid (∀ w, _) := fun w => known_any w
  clear h hsm hm hc
  by_cases hz : newQ room begin_ = 0
  case neg =>
    have HN : Hid (∀ w, _) := fun w => new_no room begin_ w hz
    obtain ⟨z, hzz⟩ : ∃ z, newQ room begin_ = z := ⟨_, rfl⟩
    rw [hzz] at HN hz
    have hz' : (z == 0) = false := by simpa using hz
    have HZ : Hid (¬ z = 0) := hz
    clear hzz
    go_enter Try.func5, Try.ntmps5
    go_wp2_with fail
    refine Calls.mono (HN.out _) ?_
    rintro e w1 ⟨rfl, rfl⟩
    go_wp2_with (first
      | (go_at_call 10; refine (HNUM.out _ _).mono ?_; rintro e w3 ⟨rfl, rfl⟩))
    refine Calls.mono (HKN.out _) ?_
    rintro e w4 ⟨rfl, hb4⟩
    have HB4 : Hid _ := hb4
    clear hb4
    go_wp2_with fail
    go_ret
    exact ⟨by simp; exact HZ.out, HB4.out⟩
  obtain ⟨B, hB⟩ : ∃ B, w.heap.size = B := ⟨_, rfl⟩
  obtain ⟨S, hS⟩ : ∃ S : Nat → Prop, S = fun j => B < j := ⟨_, rfl⟩
  have HS : Hid (∀ j, S j ↔ B < j) := fun j => by rw [hS]
  have HN1 : Hid _ := new_ok room begin_ w S (by rw [hS]; omega) hz
  have hrb : 0 ≤ room ∧ 0 ≤ begin_ := by
    unfold newQ at hz
    split at hz
    · cases hz
    · split at hz
      · cases hz
      · omega
  have HRB : Hid (0 ≤ room ∧ 0 ≤ begin_) := hrb
  rw [hB] at HN1
  have HB : Hid (w.heap.size = B) := hB
  clear hB hS hz hrb
  go_enter Try.func5, Try.ntmps5
  go_wp2_with fail
  refine Calls.mono HN1.out ?_
  rintro e w1 ⟨rfl, hq1, hb1⟩
  have HI1 : Hid (SndI w B S room w1 ⟨room.toNat, 0, begin_.toNat, []⟩) := ⟨hq1, by have := HRB.out; show ((room.toNat : Nat) : Int) = room; omega, Snd.nil _, by rw [HB.out]; exact hb1⟩
  clear hq1 hb1 HN1
  go_wp2_with (first
    | (go_at_call 10; refine (HNUM.out _ _).mono ?_; rintro e w3 ⟨rfl, rfl⟩))
  go_loopw [11, 12] (fun la i wr => ∃ (q : Nat) (Q : QuT), i = .int .i64 q ∧ q ≤ m ∧ la = .int .i64 (Q.last : Int) ∧ Hid (SndI w B S room wr Q)) (fun _ i _ => m - (intOf i).toNat)
  case atStart => exact ⟨0, ⟨room.toNat, 0, begin_.toNat, []⟩, rfl, Nat.zero_le _, by have := HRB.out; show _ = Value.int .i64 ((begin_.toNat : Nat) : Int); rw [Int.toNat_of_nonneg this.2], HI1⟩
  case round =>
    obtain ⟨q, Q, rfl, hq, rfl, HI⟩ := hrel
    obtain ⟨la, hla⟩ : ∃ la : Nat, Q.last = la := ⟨_, rfl⟩
    rw [hla]
    have HLA : Hid (Q.last = la) := hla
    clear hla HI1
    by_cases hlt : q < m ∧ q < 150
    · obtain ⟨hlt, h150⟩ := hlt
      have hqi : (q : Int) < (m : Int) := by omega
      have h150' : (q : Int) < 150 := by omega
      obtain ⟨x, hx⟩ : ∃ x, l[q]? = some x := ⟨l[q]'(by rw [HM.out]; exact hlt), List.getElem?_eq_getElem _⟩
      obtain ⟨b, o, rfl, hPb, hb, u1, u2, e1⟩ := RowAt.get (StepsAt.keep HL.out (Kp.of_below HI.out.below _)) hx
      obtain ⟨x0, x1, x2, x3, x4, xc, xp⟩ := e1
      have HST : Hid _ := step_any B Q x u1 u2 wr S (fun b => b < w.heap.size) HI.out.q xc xp (HSM.out x (List.mem_of_getElem? hx)) (by rw [HB.out]; omega) (fun j hj => (HS.out j).2 (Nat.lt_of_lt_of_le HI.out.q.lt hj))
      have hst := HI.out.snd.stepped x
      have HSND : Hid (Snd (Q.stepped x).1 (Q.stepped x).2 ∧ la ≤ (Q.stepped x).1) := ⟨hst.1, by rw [← HLA.out]; exact hst.2⟩
      clear hx xc xp hst
      go_wp2_with fail
      refine Calls.mono HST.out ?_
      rintro e w2 ⟨rfl, ⟨f, hq2⟩, hc2⟩
      have H2 : Hid (SndI w B S room w2 ⟨Q.room, f, (Q.stepped x).1, (Q.stepped x).2⟩ ∧ la ≤ (Q.stepped x).1) := ⟨⟨hq2, HI.out.room, HSND.out.1, chg_new HI.out.below hc2 (by rw [HB.out]; exact Nat.le_refl _)⟩, HSND.out.2⟩
      clear hq2 hc2 x0 x1 x2 x3 x4 HST HI HSND HLA hb hPb
      obtain ⟨Q1, hQ1⟩ : ∃ Q1 : QuT, (⟨Q.room, f, (Q.stepped x).1, (Q.stepped x).2⟩ : QuT) = Q1 := ⟨_, rfl⟩
      have H2 : Hid (SndI w B S room w2 Q1 ∧ la ≤ Q1.last) := by show _ ∧ _; rw [← hQ1]; exact H2.out
      clear hQ1
      obtain ⟨lN, hlN⟩ : ∃ lN : Nat, Q1.last = lN := ⟨_, rfl⟩
      obtain ⟨n, hn⟩ : ∃ n : Nat, Q1.l.length = n := ⟨_, rfl⟩
      have hn32 : n ≤ 32 := by rw [← hn]; have h1 := H2.out.1.q.ok.room; have h2 := H2.out.1.q.ok.fits; omega
      have HN : Hid (Q1.l.length = n) := hn
      have HLN : Hid (Q1.last = lN) := hlN
      have hle : ¬ (lN : Int) < (la : Int) := by have := H2.out.2; rw [hlN] at this; omega
      have hle' : ¬ lN < la := by omega
      obtain ⟨t, ht⟩ : ∃ t : Nat, nextN Q1.l k = t := ⟨_, rfl⟩
      have htn : t ≤ n := by rw [← ht, ← hn]; exact nextN_le _ _
      have hmin : min (max k 0) (n : Int) = (t : Int) := by rw [← ht, ← hn]; exact nextN_eq _ _
      have HT : Hid (nextN Q1.l k = t) := ht
      clear hlN hn ht
      go_wp2_with fail
      refine Calls.mono (next_some B Q1 99 _ S H2.out.1.q) ?_
      rintro e w3 ⟨v3, rfl, hv3, hq3, hc3⟩
      rw [nextN_all (by rw [HN.out]; exact hn32)] at hv3
      obtain ⟨a3, c3, rfl, hn3⟩ := RowAt.form hv3
      rw [HN.out] at hv3 hn3
      have HV3 : Hid (ItsAt w3 (NewIn w2) (.slice a3 n c3) Q1.l) := hv3
      have HQ3 : Hid (QueueAt w3 S B 0 Q1) := hq3
      have HB3 : Hid (Below w.heap.size w w3) := chg_new H2.out.1.below hc3 (by rw [HB.out]; exact Nat.le_refl _)
      rw [HN.out]
      clear hv3 hq3 hc3
      go_wp2_with fail
      refine Calls.mono (next_some B Q1 k _ S HQ3.out) ?_
      rintro e w4 ⟨v4, rfl, hv4, hq4, hc4⟩
      rw [HT.out] at hv4
      obtain ⟨a4, c4, rfl, hn4⟩ := RowAt.form hv4
      rw [List.length_take, HN.out, Nat.min_eq_left htn] at hv4 hn4
      rw [List.length_take, HN.out, Nat.min_eq_left htn]
      have HV4 : Hid (ItsAt w4 (NewIn w3) (.slice a4 t c4) (Q1.l.take t)) := hv4
      have HV34 : Hid (ItsAt w4 (NewIn w2) (.slice a3 n c3) Q1.l) := its_chg HV3.out hc4 H2.out.1.q.lt
      have HQ4 : Hid (QueueAt w4 S B 0 Q1) := hq4
      have HB4 : Hid (Below w.heap.size w w4) := chg_new HB3.out hc4 (by rw [HB.out]; exact Nat.le_refl _)
      clear hv4 hq4 hc4 HV3
      go_wp2_with fail
      refine Calls.mono (last_some B Q1 _ S HQ4.out) ?_
      rintro e w5 ⟨rfl, hw5⟩
      subst hw5
      rw [HLN.out]
      go_wp2_with fail
      refine Calls.mono (len_some B Q1 _ S HQ4.out) ?_
      rintro e w5' ⟨rfl, hw5⟩
      subst hw5
      rw [HN.out]
      go_wp2_with fail
      refine Calls.mono (last_some B Q1 _ S HQ4.out) ?_
      rintro e w5'' ⟨rfl, hw5⟩
      subst hw5
      rw [HLN.out]
      go_wp2_with fail
      refine Calls.mono (sound_any _ Q1.l room lN _ _ HV34.out (by rw [← HLN.out]; exact H2.out.1.snd) (by rw [← H2.out.1.room]; have := H2.out.1.q.ok.fits; omega) (by rw [HN.out]; exact hn32)) ?_
      rintro e w6 ⟨rfl, hb6⟩
      have HV36 : Hid (ItsAt w6 (NewIn w2) (.slice a3 t c3) (Q1.l.take t)) := RowAt.take (ItsAt.keep HV34.out (Kp.of_below hb6 _)) (by rw [HN.out]; exact htn)
      have HV46 : Hid (ItsAt w6 (NewIn w3) (.slice a4 t c4) (Q1.l.take t)) := ItsAt.keep HV4.out (Kp.of_below hb6 _)
      have HQ6 : Hid (QueueAt w6 S B 0 Q1) := HQ4.out.below hb6
      have HB6 : Hid (Below w.heap.size w w6) := trans2 HB4.out hb6
      clear hb6 HV34 HV4 HQ4 HB4
      have htn' : (t : Int) ≤ (n : Int) := by omega
      have htc : t ≤ c3 := by omega
      have htc' : (t : Int) ≤ (c3 : Int) := by omega
      go_wp2_with fail
      refine Calls.mono (items_same _ _ (Q1.l.take t) _ _ _ HV46.out HV36.out (by rw [List.length_take]; omega) (fun y hy => HQ6.out.ok.small y (List.mem_of_mem_take hy))) ?_
      rintro e w7 ⟨rfl, hb7⟩
      have HI7 : Hid (SndI w B S room w7 Q1) := ⟨HQ6.out.below hb7, H2.out.1.room, H2.out.1.snd, trans2 HB6.out hb7⟩
      clear hb7 HQ6 HB6 HV36 HV46 H2
      go_wp2_with fail
      refine Calls.mono (last_some B Q1 _ S HI7.out.q) ?_
      rintro e w8 ⟨rfl, hw8⟩
      subst hw8
      rw [HLN.out]
      go_wp2_with fail
      go_roundw
      case rel => exact ⟨q + 1, Q1, by go_num, by omega, by rw [HLN.out], HI7⟩
      case measure => simp [intOf]; omega
    · have hge : ¬ ((q : Int) < (m : Int) ∧ (q : Int) < 150) := by omega
      by_cases hqm : q < m
      · have hqm' : (q : Int) < (m : Int) := by omega
        have h150 : ¬ (q : Int) < 150 := by omega
        clear hge hlt
        go_wp2_with fail
        refine Calls.mono (HKN.out _) ?_
        rintro e w4 ⟨rfl, hb4⟩
        have HB4 : Hid (Below w.heap.size w w4) := trans2 HI.out.below hb4
        clear hb4
        go_wp2_with fail
        go_ret
        exact ⟨rfl, HB4.out⟩
      · have hqm' : ¬ (q : Int) < (m : Int) := by omega
        clear hge hlt
        go_wp2_with fail
        refine Calls.mono (HKN.out _) ?_
        rintro e w4 ⟨rfl, hb4⟩
        have HB4 : Hid (Below w.heap.size w w4) := trans2 HI.out.below hb4
        clear hb4
        go_wp2_with fail
        go_ret
        exact ⟨rfl, HB4.out⟩
end Go.Proofs.Ytlidkieljiebiaa
