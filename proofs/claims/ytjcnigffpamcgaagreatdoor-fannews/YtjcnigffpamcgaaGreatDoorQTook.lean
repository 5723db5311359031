/-
  queue: Took, Last.
-/
import Derived.Test.YtjcnigffpamcgaaGreatDoorQLen
import Derived.Test.YtjcnigffpamcgaaGreatDoorQOff
namespace Go.Proofs.YtjcnigffpamcgaaGreatDoor
open Go.RowKit Go.MuLone
set_option linter.unusedVariables false
set_option linter.unusedSimpArgs false

def tookN (l : List ItT) (st : Int) : Nat := (l.takeWhile fun t => decide (t.st ≤ st)).length
theorem tookN_le (l : List ItT) (st : Int) : tookN l st ≤ l.length := (List.takeWhile_prefix _).length_le
theorem tookN_eq {l : List ItT} {st : Int} : ∀ {q : Nat}, q ≤ l.length → (∀ i t, i < q → l[i]? = some t → t.st ≤ st) → (∀ t, l[q]? = some t → ¬ t.st ≤ st) → tookN l st = q := by
  induction l with
  | nil => intro q hq _ _; simp at hq; subst hq; rfl
  | cons a l ih =>
    intro q hq h1 h2
    cases q with
    | zero =>
      have := h2 a rfl
      simp [tookN, List.takeWhile_cons, this]
    | succ q =>
      have h0 := h1 0 a (by omega) rfl
      have := ih (q := q) (by simpa using hq) (fun i t hi ht => h1 (i + 1) t (by omega) (by simpa using ht)) (fun t ht => h2 t (by simpa using ht))
      unfold tookN at this ⊢
      simp [List.takeWhile_cons, h0, this]
set_option maxHeartbeats 3200000 in
set_option maxRecDepth 100000 in
theorem took_some (b : Nat) (Q : QuT) (st : Int) (w : World) (S : Nat → Prop) (h : QueueAt w S b 0 Q) :
    Calls Tryz.prog 90 #[.pointer (some ⟨b, 0, none⟩), .int .i64 st] w fun e w' => e = .returned (.int .i64 (tookN Q.l st)) ∧ (∃ f, QueueAt w' S b 0 ⟨Q.room, f, Q.last, Q.l.drop (tookN Q.l st)⟩) ∧ Chg w w' (fun j => j = b) := by
  have HQ : Hid (QueueAt w S b 0 Q) := h
  have HL : Hid (QueueAt (w.setCell ⟨b, 0, none⟩ (.int .i32 1)) S b 1 Q) := (qset_lock h 1).1
  have HC : Hid (Chg w (w.setCell ⟨b, 0, none⟩ (.int .i32 1)) (fun j => j = b)) := (qset_lock h 1).2
  obtain ⟨n, hn⟩ : ∃ n, Q.l.length = n := ⟨_, rfl⟩
  have HN : Hid (Q.l.length = n) := hn
  have hn32 : n ≤ 32 := by have h1 := h.ok.room; have h2 := h.ok.fits; omega
  clear h hn
  go_enter_defers Tryz.func90, Tryz.ntmps90
  go_wp2_with (first
    | (go_at_call 132; refine (orZero_some b _).mono ?_; rintro e w1 ⟨rfl, hw1⟩; subst hw1)
    | (go_at_call 65; refine (lock_free Tryz.muLib ⟨b, 0, none⟩ _ HQ.out.lock (HQ.out.free 0)).mono ?_; rintro e w2 ⟨rfl, rfl⟩))
  go_loopw [5] (fun i wr => ∃ q : Nat, i = .int .i64 q ∧ q ≤ n ∧ Hid (∀ i t, i < q → Q.l[i]? = some t → t.st ≤ st) ∧ Hid (QueueAt wr S b 1 Q) ∧ Hid (Chg w1 wr (fun j => j = b))) (fun i _ => n - (intOf i).toNat)
  case atStart => exact ⟨0, rfl, Nat.zero_le _, fun i t hi => absurd hi (Nat.not_lt_zero _), HL, HC⟩
  case round =>
    obtain ⟨q, rfl, hq, HT, HI, HCr⟩ := hrel
    have c0 : wr.cell? ⟨b, 164, none⟩ = some (.int .i64 n) := by have := HI.out.count; rw [HN.out] at this; exact this
    by_cases hlt : q < n
    · have hqi : (q : Int) < (n : Int) := by omega
      obtain ⟨t, ht⟩ : ∃ t, Q.l[q]? = some t := ⟨Q.l[q]'(by rw [HN.out]; exact hlt), List.getElem?_eq_getElem _⟩
      have h0 : 0 < Q.room := by have := HI.out.ok.fits; rw [HN.out] at this; omega
      have HAT : Hid _ := at_any b q 1 Q wr S HI.out h0 (by omega)
      obtain ⟨u1, u2, hi⟩ := HI.out.items q t ht
      obtain ⟨o, ho⟩ : ∃ o, 2 + (Q.first + q) % Q.room * 5 = o := ⟨_, rfl⟩
      rw [ho] at HAT hi
      have c1 : ∀ k, (wr.drewN k).cell? ⟨b, o, none⟩ = some (.int .i64 t.st) := fun k => hi.st
      clear hi ho
      by_cases hs : t.st ≤ st
      · have HT2 : Hid (∀ i t, i < q + 1 → Q.l[i]? = some t → t.st ≤ st) := fun i t' hi hit => by
          by_cases he : i = q
          · subst he
            rw [ht] at hit
            cases hit
            exact hs
          · exact HT.out i t' (by omega) hit
        go_wp2_with fail
        refine Calls.mono HAT.out ?_
        rintro e w4 ⟨rfl, j4, rfl⟩
        have c1 := c1 j4
        go_wp2_with fail
        go_roundw
        case rel => exact ⟨q + 1, by go_num, by omega, HT2, drewN_keep HI.out _, HCr.out.trans (Chg.of_below (below_drewN (Below.refl _ _) _) _)⟩
        case measure => simp [intOf]; omega
      · have HTK : Hid (tookN Q.l st = q) := tookN_eq (by rw [HN.out]; omega) HT.out (fun t' ht' => by rw [ht] at ht'; cases ht'; exact hs)
        go_wp2_with fail
        refine Calls.mono HAT.out ?_
        rintro e w4 ⟨rfl, j4, rfl⟩
        have c1 := c1 j4
        go_wp2_with fail
        refine Calls.mono (takeOff_any b q 1 Q _ S (drewN_keep HI.out j4) (by rw [HN.out]; omega)) ?_
        rintro e w5 ⟨rfl, ⟨f, hq5⟩, hc5⟩
        have H5 : Hid (QueueAt w5 S b 1 ⟨Q.room, f, Q.last, Q.l.drop q⟩) := hq5
        have HC5 : Hid (Chg w1 w5 (fun j => j = b)) := (HCr.out.trans (Chg.of_below (below_drewN (Below.refl _ _) _) _)).trans hc5
        clear hq5 hc5
        go_wp2_with fail
        refine leaves_cons (f := 66) (args := #[.pointer (some ⟨b, 0, none⟩)]) (by simp) (by simp [go_sem]) ?_
        refine (unlock_deferred Tryz.muLib ⟨b, 0, none⟩ .returning _ H5.out.lock (H5.out.free 0)).mono ?_
        rintro e u' w'' ⟨rfl, rfl, rfl⟩
        obtain ⟨hq6, hc6⟩ := qset_lock H5.out 0
        exact ⟨_, results_tmp rfl _ _ _, by rw [HTK.out]; rfl, ⟨f, by rw [HTK.out]; exact hq6⟩, HC5.out.trans hc6⟩
    · obtain rfl : q = n := by omega
      have hge : ¬ (q : Int) < (q : Int) := by omega
      have HTK : Hid (tookN Q.l st = q) := tookN_eq (by rw [HN.out]; omega) HT.out (fun t' ht' => by rw [List.getElem?_eq_none (by rw [HN.out]; omega)] at ht'; cases ht')
      go_wp2_with fail
      refine Calls.mono (takeOff_any b q 1 Q _ S HI.out (by rw [HN.out]; omega)) ?_
      rintro e w5 ⟨rfl, ⟨f, hq5⟩, hc5⟩
      have H5 : Hid (QueueAt w5 S b 1 ⟨Q.room, f, Q.last, Q.l.drop q⟩) := hq5
      have HC5 : Hid (Chg w1 w5 (fun j => j = b)) := HCr.out.trans hc5
      clear hq5 hc5
      go_wp2_with fail
      refine leaves_cons (f := 66) (args := #[.pointer (some ⟨b, 0, none⟩)]) (by simp) (by simp [go_sem]) ?_
      refine (unlock_deferred Tryz.muLib ⟨b, 0, none⟩ .returning _ H5.out.lock (H5.out.free 0)).mono ?_
      rintro e u' w'' ⟨rfl, rfl, rfl⟩
      obtain ⟨hq6, hc6⟩ := qset_lock H5.out 0
      exact ⟨_, results_tmp rfl _ _ _, by rw [HTK.out]; rfl, ⟨f, by rw [HTK.out]; exact hq6⟩, HC5.out.trans hc6⟩
end Go.Proofs.YtjcnigffpamcgaaGreatDoor
