import Derived.Test.YtlidkieljiebiaaQAdd
import Derived.Test.YtlidkieljiebiaaQSmall
namespace Go.Proofs.Ytlidkieljiebiaa
open Go.RowKit
set_option linter.unusedVariables false
set_option linter.unusedSimpArgs false

theorem slot_next {r f k : Nat} : ((f + 1) % r + k) % r = (f + (k + 1)) % r := by
  rw [Nat.mod_add_mod]
  congr 1
  omega
/-- The first item goes. -/
theorem QueueAt.popped {w w' : World} {S : Nat → Prop} {b : Nat} {x : Int} {r f la : Nat} {e : ItT} {l : List ItT} (h : QueueAt w S b x ⟨r, f, la, e :: l⟩) (hc : Chg w w' (fun j => j = b))
    (hbox : ∃ cs : Array Value, w'.heap[b]? = some (.cells cs 65 (0, 0)) ∧ cs.size = 166)
    (hold : ∀ i v, w.cell? ⟨b, i, none⟩ = some v → (i < 2 + f % r * 5 ∨ 2 + f % r * 5 + 5 ≤ i) → i ≠ 163 → i ≠ 164 → w'.cell? ⟨b, i, none⟩ = some v)
    (hfirst : w'.cell? ⟨b, 163, none⟩ = some (.int .i64 (((f + 1) % r : Nat) : Int))) (hcount : w'.cell? ⟨b, 164, none⟩ = some (.int .i64 l.length)) :
    QueueAt w' S b x ⟨r, (f + 1) % r, la, l⟩ := by
  have hr : r ≤ 32 := h.ok.room
  have hft : (e :: l).length ≤ r := h.ok.fits
  simp only [List.length_cons] at hft
  have hm : f % r < r := Nat.mod_lt _ (by omega)
  have hm1 : (f + 1) % r < r := Nat.mod_lt _ (by omega)
  refine ⟨⟨hr, by show (f + 1) % r ≤ 32; omega, by show l.length ≤ r; omega, h.ok.max, fun t ht => h.ok.small t (.tail _ ht)⟩, h.out, hbox, hold _ _ h.lock (by omega) (by omega) (by omega), hold _ _ h.room (by omega) (by omega) (by omega), hfirst, hcount, hold _ _ h.last (by omega) (by omega) (by omega), fun k t hk => ?_⟩
  have hkl : k < l.length := (List.getElem?_eq_some_iff.1 hk).1
  obtain ⟨v1, v2, hi0⟩ := h.items (k + 1) t (by simpa using hk)
  have hi : itE w S b (2 + (f + (k + 1)) % r * 5) t v1 v2 := hi0
  have hne := slot_ne (f := f) (r := r) (i := 0) (k := k + 1) (by omega) (by omega) (by omega)
  rw [Nat.add_zero] at hne
  have hm2 : (f + (k + 1)) % r < r := Nat.mod_lt _ (by omega)
  show ∃ u1 u2, itE w' S b (2 + ((f + 1) % r + k) % r * 5) t u1 u2
  rw [slot_next]
  refine ⟨v1, v2, hi.keep (Kp.of_chg hc (fun j _ hj e => h.out (by have e : j = b := e; rw [← e]; exact hj))) (fun j v hj h1 h2 => hold j v hj ?_ (by omega) (by omega))⟩
  omega
set_option maxHeartbeats 6400000 in
set_option maxRecDepth 100000 in
theorem takeOff_any (b k : Nat) (x : Int) (Q : QuT) (w : World) (S : Nat → Prop) (h : QueueAt w S b x Q) (hk : k ≤ Q.l.length) :
    Calls Try.prog 38 #[.pointer (some ⟨b, 0, none⟩), .int .i64 k] w fun e w' => e = .returned (.tuple #[]) ∧ (∃ f, QueueAt w' S b x ⟨Q.room, f, Q.last, Q.l.drop k⟩) ∧ Chg w w' (fun j => j = b) := by
  obtain ⟨r, f0, la, l⟩ := Q
  simp only at hk ⊢
  have HQ : Hid (QueueAt w S b x ⟨r, f0, la, l⟩) := h
  have hk2 : k ≤ 32 := by have h1 := h.ok.room; have h2 := h.ok.fits; simp only at h1 h2; omega
  have HK : Hid (k ≤ l.length) := hk
  clear h hk
  go_enter Try.func38, Try.ntmps38
  go_wp2_with fail
  go_loopw [5] (fun i wr => ∃ (q f : Nat), i = .int .i64 q ∧ q ≤ k ∧ Hid (QueueAt wr S b x ⟨r, f, la, l.drop q⟩) ∧ Hid (Chg w wr (fun j => j = b))) (fun i _ => k - (intOf i).toNat)
  case atStart => exact ⟨0, f0, rfl, Nat.zero_le _, HQ, Chg.refl _ _⟩
  case round =>
    obtain ⟨q, f, rfl, hq, HI, HC⟩ := hrel
    by_cases hlt : q < k
    · have hqi : (q : Int) < (k : Int) := by omega
      obtain ⟨e, l', hl'⟩ : ∃ e l', l.drop q = e :: l' := by
        have : q < l.length := by have := HK.out; omega
        exact ⟨_, _, List.drop_eq_getElem_cons this⟩
      have HL' : Hid (l.drop (q + 1) = l') := by
        show _ = _
        have : (l.drop q).drop 1 = l.drop (q + 1) := by rw [List.drop_drop]
        rw [← this, hl']
        rfl
      rw [hl'] at HI
      clear hl'
      have hr : r ≤ 32 := HI.out.ok.room
      have hft : (e :: l').length ≤ r := HI.out.ok.fits
      simp only [List.length_cons] at hft
      have hf32 : f ≤ 32 := HI.out.ok.first
      have HAT : Hid _ := at_any b 0 x _ wr S HI.out (show 0 < r by omega) (by decide)
      simp only [Nat.add_zero] at HAT
      obtain ⟨z, hz⟩ : ∃ z, f % r = z := ⟨_, rfl⟩
      have hzr : z < r := by rw [← hz]; exact Nat.mod_lt _ (by omega)
      rw [hz] at HAT
      obtain ⟨o, ho⟩ : ∃ o, 2 + z * 5 = o := ⟨_, rfl⟩
      rw [ho] at HAT
      have hom : o + 5 ≤ 162 := by omega
      have HO : Hid (2 + f % r * 5 = o) := by show _ = _; rw [hz]; exact ho
      obtain ⟨y0, d0⟩ := HI.out.cells o (by omega)
      obtain ⟨y1, d1⟩ := HI.out.cells (o + 1) (by omega)
      obtain ⟨y2, d2⟩ := HI.out.cells (o + 2) (by omega)
      obtain ⟨y3, d3⟩ := HI.out.cells (o + 3) (by omega)
      obtain ⟨y4, d4⟩ := HI.out.cells (o + 4) (by omega)
      have f0 : ∀ o, wr.frozen? ⟨b, o, none⟩ = false := HI.out.free
      clear hz ho
      go_wp2_with fail
      refine Calls.mono HAT.out ?_
      rintro e' w4 ⟨rfl, j4, rfl⟩
      go_wp2_with fail
      have HQD : Hid (QueueAt (wr.drewN j4) S b x ⟨r, f, la, e :: l'⟩) := drewN_keep HI.out _
      obtain ⟨arr, hba, hsa⟩ := HQD.out.box
      obtain ⟨arr', hg', hs', e0, e1, e2, e3, e4, hoth⟩ := at_s5 (o := o) (x0 := .int .i64 0) (x1 := .int .i64 0) (x2 := .bool false) (x3 := .slice none 0 0) (x4 := .slice none 0 0) hba (by omega)
      have hcX : Chg (wr.drewN j4) _ (fun j => j = b) := chg_s5 (wr.drewN j4) b o (.int .i64 0) (.int .i64 0) (.bool false) (.slice none 0 0) (.slice none 0 0)
      obtain ⟨X, hX⟩ : ∃ X, set_5 (wr.drewN j4) b o (.int .i64 0) (.int .i64 0) (.bool false) (.slice none 0 0) (.slice none 0 0) = X := ⟨_, rfl⟩
      rw [hX] at hg' hcX
      have HG : Hid (X.heap[b]? = some (.cells arr' 65 (0, 0))) := hg'
      have HZ : Hid (arr'.size = 166) := by show _ = _; rw [hs', hsa]
      have HOTH : Hid (∀ i v, wr.cell? ⟨b, i, none⟩ = some v → (i < o ∨ o + 5 ≤ i) → arr'[i]? = some v) := fun i v hv hi => by
        rw [hoth i hi, ← cell_of hba]
        exact hv
      have HCX : Hid (Chg wr X (fun j => j = b)) := (Chg.of_below (below_drewN (Below.refl _ _) _) _).trans hcX
      have g163 : X.cell? ⟨b, 163, none⟩ = some (.int .i64 f) := by
        rw [cell_of HG.out]
        exact HOTH.out 163 _ HI.out.first (by omega)
      have g162 : X.cell? ⟨b, 162, none⟩ = some (.int .i64 r) := by
        rw [cell_of HG.out]
        exact HOTH.out 162 _ HI.out.room (by omega)
      have f1 := free_of HG.out
      have hr0 : ¬ (r : Int) = 0 := by omega
      have hr1 : ((r : Int) == 0) = false := by simpa using hr0
      obtain ⟨y, hy⟩ : ∃ y, (f + 1) % r = y := ⟨_, rfl⟩
      have hm : Int.tmod ((f : Int) + 1) (r : Int) = (y : Int) := by
        rw [Int.tmod_eq_emod_of_nonneg (by omega), ← hy]; rfl
      have hm' : ((f : Int) + 1) % (r : Int) = (y : Int) := by rw [← hy]; rfl
      have HY : Hid ((f + 1) % r = y) := hy
      clear hba hsa hg' hs' e0 e1 e2 e3 e4 hoth hcX d0 d1 d2 d3 d4 f0 hy
      have hX' : ((((((wr.drewN j4).setCell ⟨b, o, none⟩ (.int .i64 0)).setCell ⟨b, o + 1, none⟩ (.int .i64 0)).setCell ⟨b, o + 2, none⟩ (.bool false)).setCell ⟨b, o + 3, none⟩ (.slice none 0 0)).setCell ⟨b, o + 4, none⟩ (.slice none 0 0)) = X := hX
      rw [hX']
      clear hX hX'
      go_region
      obtain ⟨m, hm0⟩ : ∃ m, l'.length = m := ⟨_, rfl⟩
      have HMM : Hid (l'.length = m) := hm0
      have HG2 : Hid ((X.setCell ⟨b, 163, none⟩ (.int .i64 y)).drew.heap[b]? = some (.cells (arr'.setIfInBounds 163 (.int .i64 y)) 65 (0, 0))) := set_at HG.out
      have g164 : (X.setCell ⟨b, 163, none⟩ (.int .i64 y)).drew.cell? ⟨b, 164, none⟩ = some (.int .i64 ((m : Int) + 1)) := by
        rw [cell_of HG2.out, Array.getElem?_setIfInBounds_ne (by omega)]
        have h1 := HI.out.count
        simp only [List.length_cons, hm0] at h1
        exact HOTH.out 164 _ h1 (by omega)
      have f2 := free_of HG2.out
      have hmb : m ≤ 32 := by omega
      have hsub : (m : Int) + 1 - 1 = m := by omega
      clear hm0 f1 g162 g163
      go_wp2_with fail
      go_roundw
      case rel =>
        have HG3 : ((X.setCell ⟨b, 163, none⟩ (.int .i64 y)).setCell ⟨b, 164, none⟩ (.int .i64 m)).drew.heap[b]? = some (.cells ((arr'.setIfInBounds 163 (.int .i64 y)).setIfInBounds 164 (.int .i64 m)) 65 (0, 0)) := set_at (o := 164) (x := .int .i64 m) (set_at (o := 163) (x := .int .i64 y) HG.out)
        have hch : Chg wr _ (fun j => j = b) := ((HCX.out.trans (Chg.set _ ⟨b, 163, none⟩ (.int .i64 y))).trans (Chg.set _ ⟨b, 164, none⟩ (.int .i64 m))).trans (Chg.of_below (below_drew (Below.refl _ _)) _)
        refine ⟨q + 1, (f + 1) % r, by go_num, by omega, ?_, HC.out.trans hch⟩
        show QueueAt _ _ _ _ _
        rw [HL'.out]
        refine QueueAt.popped HI.out hch ⟨_, HG3, by simp [HZ.out]⟩ ?_ ?_ ?_
        · intro i v hv hi h1 h2
          rw [HO.out] at hi
          rw [cell_of HG3, Array.getElem?_setIfInBounds_ne (Ne.symm h2), Array.getElem?_setIfInBounds_ne (Ne.symm h1)]
          exact HOTH.out i v hv hi
        · rw [cell_of HG3, Array.getElem?_setIfInBounds_ne (by omega), Array.getElem?_setIfInBounds_self, HY.out]
          simp [HZ.out]
        · rw [cell_of HG3, Array.getElem?_setIfInBounds_self, HMM.out]
          simp [HZ.out]
      case measure => simp [intOf]; omega
    · obtain rfl : q = k := by omega
      have hge : ¬ (q : Int) < (q : Int) := by omega
      go_wp2_with fail
      exact bodyPost_end (results_none rfl _ _ _) rfl ⟨rfl, ⟨f, HI.out⟩, HC.out⟩
end Go.Proofs.Ytlidkieljiebiaa
namespace Go.Proofs.Ytlidkieljiebiaa
open Go.RowKit Go.MuLone
set_option linter.unusedVariables false
set_option linter.unusedSimpArgs false

theorem set_set {w : World} {b i : Nat} {cs : Array Value} {t : TypeId} {v v' : Value} (h : w.heap[b]? = some (.cells cs t (0, 0))) : (w.setCell ⟨b, i, none⟩ v).setCell ⟨b, i, none⟩ v' = w.setCell ⟨b, i, none⟩ v' := by
  rw [setCell_eq_setRow (w.setCell ⟨b, i, none⟩ v) b i _ t (0, 0) v' (set_at h), setCell_eq_setRow w b i cs t (0, 0) v h, setCell_eq_setRow w b i cs t (0, 0) v' h, setRow_setRow]
  congr 1
  apply Array.ext_getElem?
  intro j
  simp only [Array.getElem?_setIfInBounds, Array.size_setIfInBounds]
  split <;> rfl
theorem lock_back {w : World} {S : Nat → Prop} {b : Nat} {Q : QuT} (h : QueueAt w S b 0 Q) : (w.setCell ⟨b, 0, none⟩ (.int .i32 1)).setCell ⟨b, 0, none⟩ (.int .i32 0) = w := by
  obtain ⟨cs, hx, hz⟩ := h.box
  rw [set_set hx]
  exact setCell_self hx h.lock
set_option maxHeartbeats 1600000 in
theorem len_some (b : Nat) (Q : QuT) (w : World) (S : Nat → Prop) (h : QueueAt w S b 0 Q) :
    Calls Try.prog 20 #[.pointer (some ⟨b, 0, none⟩)] w fun e w' => e = .returned (.int .i64 Q.l.length) ∧ w' = w := by
  have HQ : Hid (QueueAt w S b 0 Q) := h
  have HL : Hid (QueueAt (w.setCell ⟨b, 0, none⟩ (.int .i32 1)) S b 1 Q) := (qset_lock h 1).1
  have c0 := HL.out.count
  clear h
  go_enter_defers Try.func20, Try.ntmps20
  go_wp2_with (first
    | (go_at_call 29; refine (orZero_some b _).mono ?_; rintro e w1 ⟨rfl, rfl⟩)
    | (go_at_call 30; refine (lock_free Try.muLib ⟨b, 0, none⟩ _ HQ.out.lock (HQ.out.free 0)).mono ?_; rintro e w2 ⟨rfl, rfl⟩))
  refine leaves_cons (f := 31) (args := #[.pointer (some ⟨b, 0, none⟩)]) (by simp) (by simp [go_sem]) ?_
  refine (unlock_deferred Try.muLib ⟨b, 0, none⟩ .returning _ HL.out.lock (HL.out.free 0)).mono ?_
  rintro e u' w'' ⟨rfl, rfl, rfl⟩
  exact ⟨_, results_tmp rfl _ _ _, rfl, lock_back HQ.out⟩
end Go.Proofs.Ytlidkieljiebiaa
namespace Go.Proofs.Ytlidkieljiebiaa
open Go.RowKit Go.MuLone
set_option linter.unusedVariables false
set_option linter.unusedSimpArgs false

set_option maxHeartbeats 1600000 in
theorem last_some (b : Nat) (Q : QuT) (w : World) (S : Nat → Prop) (h : QueueAt w S b 0 Q) :
    Calls Try.prog 13 #[.pointer (some ⟨b, 0, none⟩)] w fun e w' => e = .returned (.int .i64 Q.last) ∧ w' = w := by
  have HQ : Hid (QueueAt w S b 0 Q) := h
  have HL : Hid (QueueAt (w.setCell ⟨b, 0, none⟩ (.int .i32 1)) S b 1 Q) := (qset_lock h 1).1
  have c0 := HL.out.last
  clear h
  go_enter_defers Try.func13, Try.ntmps13
  go_wp2_with (first
    | (go_at_call 29; refine (orZero_some b _).mono ?_; rintro e w1 ⟨rfl, rfl⟩)
    | (go_at_call 30; refine (lock_free Try.muLib ⟨b, 0, none⟩ _ HQ.out.lock (HQ.out.free 0)).mono ?_; rintro e w2 ⟨rfl, rfl⟩))
  refine leaves_cons (f := 31) (args := #[.pointer (some ⟨b, 0, none⟩)]) (by simp) (by simp [go_sem]) ?_
  refine (unlock_deferred Try.muLib ⟨b, 0, none⟩ .returning _ HL.out.lock (HL.out.free 0)).mono ?_
  rintro e u' w'' ⟨rfl, rfl, rfl⟩
  exact ⟨_, results_tmp rfl _ _ _, rfl, lock_back HQ.out⟩
def tookN (l : List ItT) (st : Int) : Nat := (l.takeWhile fun t => decide (t.st ≤ st)).length
theorem tookN_le (l : List ItT) (st : Int) : tookN l st ≤ l.length := (List.takeWhile_prefix _).length_le
theorem tookN_eq {l : List ItT} {st : Int} : ∀ {q : Nat}, q ≤ l.length → (∀ i t, i < q → l[i]? = some t → t.st ≤ st) → (∀ t, l[q]? = some t → ¬ t.st ≤ st) → tookN l st = q := by
  induction l with
  | nil => intro q hq _ _; simp at hq; subst hq; rfl
  | cons a l ih =>
    intro q hq h1 h2
    cases q with
    | zero =>
      have := h2 a rfl
      simp [tookN, List.takeWhile_cons, this]
    | succ q =>
      have h0 := h1 0 a (by omega) rfl
      have := ih (q := q) (by simpa using hq) (fun i t hi ht => h1 (i + 1) t (by omega) (by simpa using ht)) (fun t ht => h2 t (by simpa using ht))
      unfold tookN at this ⊢
      simp [List.takeWhile_cons, h0, this]
set_option maxHeartbeats 3200000 in
set_option maxRecDepth 100000 in
theorem took_some (b : Nat) (Q : QuT) (st : Int) (w : World) (S : Nat → Prop) (h : QueueAt w S b 0 Q) :
    Calls Try.prog 16 #[.pointer (some ⟨b, 0, none⟩), .int .i64 st] w fun e w' => e = .returned (.int .i64 (tookN Q.l st)) ∧ (∃ f, QueueAt w' S b 0 ⟨Q.room, f, Q.last, Q.l.drop (tookN Q.l st)⟩) ∧ Chg w w' (fun j => j = b) := by
  have HQ : Hid (QueueAt w S b 0 Q) := h
  have HL : Hid (QueueAt (w.setCell ⟨b, 0, none⟩ (.int .i32 1)) S b 1 Q) := (qset_lock h 1).1
  have HC : Hid (Chg w (w.setCell ⟨b, 0, none⟩ (.int .i32 1)) (fun j => j = b)) := (qset_lock h 1).2
  obtain ⟨n, hn⟩ : ∃ n, Q.l.length = n := ⟨_, rfl⟩
  have HN : Hid (Q.l.length = n) := hn
  have hn32 : n ≤ 32 := by have h1 := h.ok.room; have h2 := h.ok.fits; omega
  clear h hn
  go_enter_defers Try.func16, Try.ntmps16
  go_wp2_with (first
    | (go_at_call 29; refine (orZero_some b _).mono ?_; rintro e w1 ⟨rfl, hw1⟩; subst hw1)
    | (go_at_call 30; refine (lock_free Try.muLib ⟨b, 0, none⟩ _ HQ.out.lock (HQ.out.free 0)).mono ?_; rintro e w2 ⟨rfl, rfl⟩))
  go_loopw [5] (fun i wr => ∃ q : Nat, i = .int .i64 q ∧ q ≤ n ∧ Hid (∀ i t, i < q → Q.l[i]? = some t → t.st ≤ st) ∧ Hid (QueueAt wr S b 1 Q) ∧ Hid (Chg w1 wr (fun j => j = b))) (fun i _ => n - (intOf i).toNat)
  case atStart => exact ⟨0, rfl, Nat.zero_le _, fun i t hi => absurd hi (Nat.not_lt_zero _), HL, HC⟩
  case round =>
    obtain ⟨q, rfl, hq, HT, HI, HCr⟩ := hrel
    have c0 : wr.cell? ⟨b, 164, none⟩ = some (.int .i64 n) := by have := HI.out.count; rw [HN.out] at this; exact this
    by_cases hlt : q < n
    · have hqi : (q : Int) < (n : Int) := by omega
      obtain ⟨t, ht⟩ : ∃ t, Q.l[q]? = some t := ⟨Q.l[q]'(by rw [HN.out]; exact hlt), List.getElem?_eq_getElem _⟩
      have h0 : 0 < Q.room := by have := HI.out.ok.fits; rw [HN.out] at this; omega
      have HAT : Hid _ := at_any b q 1 Q wr S HI.out h0 (by omega)
      obtain ⟨u1, u2, hi⟩ := HI.out.items q t ht
      obtain ⟨o, ho⟩ : ∃ o, 2 + (Q.first + q) % Q.room * 5 = o := ⟨_, rfl⟩
      rw [ho] at HAT hi
      have c1 : ∀ k, (wr.drewN k).cell? ⟨b, o, none⟩ = some (.int .i64 t.st) := fun k => hi.st
      clear hi ho
      by_cases hs : t.st ≤ st
      · have HT2 : Hid (∀ i t, i < q + 1 → Q.l[i]? = some t → t.st ≤ st) := fun i t' hi hit => by
          by_cases he : i = q
          · subst he
            rw [ht] at hit
            cases hit
            exact hs
          · exact HT.out i t' (by omega) hit
        go_wp2_with fail
        refine Calls.mono HAT.out ?_
        rintro e w4 ⟨rfl, j4, rfl⟩
        have c1 := c1 j4
        go_wp2_with fail
        go_roundw
        case rel => exact ⟨q + 1, by go_num, by omega, HT2, drewN_keep HI.out _, HCr.out.trans (Chg.of_below (below_drewN (Below.refl _ _) _) _)⟩
        case measure => simp [intOf]; omega
      · have HTK : Hid (tookN Q.l st = q) := tookN_eq (by rw [HN.out]; omega) HT.out (fun t' ht' => by rw [ht] at ht'; cases ht'; exact hs)
        go_wp2_with fail
        refine Calls.mono HAT.out ?_
        rintro e w4 ⟨rfl, j4, rfl⟩
        have c1 := c1 j4
        go_wp2_with fail
        refine Calls.mono (takeOff_any b q 1 Q _ S (drewN_keep HI.out j4) (by rw [HN.out]; omega)) ?_
        rintro e w5 ⟨rfl, ⟨f, hq5⟩, hc5⟩
        have H5 : Hid (QueueAt w5 S b 1 ⟨Q.room, f, Q.last, Q.l.drop q⟩) := hq5
        have HC5 : Hid (Chg w1 w5 (fun j => j = b)) := (HCr.out.trans (Chg.of_below (below_drewN (Below.refl _ _) _) _)).trans hc5
        clear hq5 hc5
        go_wp2_with fail
        refine leaves_cons (f := 31) (args := #[.pointer (some ⟨b, 0, none⟩)]) (by simp) (by simp [go_sem]) ?_
        refine (unlock_deferred Try.muLib ⟨b, 0, none⟩ .returning _ H5.out.lock (H5.out.free 0)).mono ?_
        rintro e u' w'' ⟨rfl, rfl, rfl⟩
        obtain ⟨hq6, hc6⟩ := qset_lock H5.out 0
        exact ⟨_, results_tmp rfl _ _ _, by rw [HTK.out]; rfl, ⟨f, by rw [HTK.out]; exact hq6⟩, HC5.out.trans hc6⟩
    · obtain rfl : q = n := by omega
      have hge : ¬ (q : Int) < (q : Int) := by omega
      have HTK : Hid (tookN Q.l st = q) := tookN_eq (by rw [HN.out]; omega) HT.out (fun t' ht' => by rw [List.getElem?_eq_none (by rw [HN.out]; omega)] at ht'; cases ht')
      go_wp2_with fail
      refine Calls.mono (takeOff_any b q 1 Q _ S HI.out (by rw [HN.out]; omega)) ?_
      rintro e w5 ⟨rfl, ⟨f, hq5⟩, hc5⟩
      have H5 : Hid (QueueAt w5 S b 1 ⟨Q.room, f, Q.last, Q.l.drop q⟩) := hq5
      have HC5 : Hid (Chg w1 w5 (fun j => j = b)) := HCr.out.trans hc5
      clear hq5 hc5
      go_wp2_with fail
      refine leaves_cons (f := 31) (args := #[.pointer (some ⟨b, 0, none⟩)]) (by simp) (by simp [go_sem]) ?_
      refine (unlock_deferred Try.muLib ⟨b, 0, none⟩ .returning _ H5.out.lock (H5.out.free 0)).mono ?_
      rintro e u' w'' ⟨rfl, rfl, rfl⟩
      obtain ⟨hq6, hc6⟩ := qset_lock H5.out 0
      exact ⟨_, results_tmp rfl _ _ _, by rw [HTK.out]; rfl, ⟨f, by rw [HTK.out]; exact hq6⟩, HC5.out.trans hc6⟩
end Go.Proofs.Ytlidkieljiebiaa
