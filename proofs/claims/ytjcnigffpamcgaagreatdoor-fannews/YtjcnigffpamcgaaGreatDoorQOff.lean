/-
  queue: takeOff.
-/
import Derived.Test.YtjcnigffpamcgaaGreatDoorQAdd
namespace Go.Proofs.YtjcnigffpamcgaaGreatDoor
open Go.RowKit
set_option linter.unusedVariables false
set_option linter.unusedSimpArgs false

theorem slot_next {r f k : Nat} : ((f + 1) % r + k) % r = (f + (k + 1)) % r := by
  rw [Nat.mod_add_mod]
  congr 1
  omega
/-- The first item goes. -/
theorem QueueAt.popped {w w' : World} {S : Nat → Prop} {b : Nat} {x : Int} {r f la : Nat} {e : ItT} {l : List ItT} (h : QueueAt w S b x ⟨r, f, la, e :: l⟩) (hc : Chg w w' (fun j => j = b))
    (hbox : ∃ cs : Array Value, w'.heap[b]? = some (.cells cs 249 (0, 0)) ∧ cs.size = 166)
    (hold : ∀ i v, w.cell? ⟨b, i, none⟩ = some v → (i < 2 + f % r * 5 ∨ 2 + f % r * 5 + 5 ≤ i) → i ≠ 163 → i ≠ 164 → w'.cell? ⟨b, i, none⟩ = some v)
    (hfirst : w'.cell? ⟨b, 163, none⟩ = some (.int .i64 (((f + 1) % r : Nat) : Int))) (hcount : w'.cell? ⟨b, 164, none⟩ = some (.int .i64 l.length)) :
    QueueAt w' S b x ⟨r, (f + 1) % r, la, l⟩ := by
  have hr : r ≤ 32 := h.ok.room
  have hft : (e :: l).length ≤ r := h.ok.fits
  simp only [List.length_cons] at hft
  have hm : f % r < r := Nat.mod_lt _ (by omega)
  have hm1 : (f + 1) % r < r := Nat.mod_lt _ (by omega)
  refine ⟨⟨hr, by show (f + 1) % r ≤ 32; omega, by show l.length ≤ r; omega, h.ok.max, fun t ht => h.ok.small t (.tail _ ht)⟩, h.out, hbox, hold _ _ h.lock (by omega) (by omega) (by omega), hold _ _ h.room (by omega) (by omega) (by omega), hfirst, hcount, hold _ _ h.last (by omega) (by omega) (by omega), fun k t hk => ?_⟩
  have hkl : k < l.length := (List.getElem?_eq_some_iff.1 hk).1
  obtain ⟨v1, v2, hi0⟩ := h.items (k + 1) t (by simpa using hk)
  have hi : itE w S b (2 + (f + (k + 1)) % r * 5) t v1 v2 := hi0
  have hne := slot_ne (f := f) (r := r) (i := 0) (k := k + 1) (by omega) (by omega) (by omega)
  rw [Nat.add_zero] at hne
  have hm2 : (f + (k + 1)) % r < r := Nat.mod_lt _ (by omega)
  show ∃ u1 u2, itE w' S b (2 + ((f + 1) % r + k) % r * 5) t u1 u2
  rw [slot_next]
  refine ⟨v1, v2, hi.keep (Kp.of_chg hc (fun j _ hj e => h.out (by have e : j = b := e; rw [← e]; exact hj))) (fun j v hj h1 h2 => hold j v hj ?_ (by omega) (by omega))⟩
  omega
set_option maxHeartbeats 6400000 in
set_option maxRecDepth 100000 in
theorem takeOff_any (b k : Nat) (x : Int) (Q : QuT) (w : World) (S : Nat → Prop) (h : QueueAt w S b x Q) (hk : k ≤ Q.l.length) :
    Calls Tryz.prog 153 #[.pointer (some ⟨b, 0, none⟩), .int .i64 k] w fun e w' => e = .returned (.tuple #[]) ∧ (∃ f, QueueAt w' S b x ⟨Q.room, f, Q.last, Q.l.drop k⟩) ∧ Chg w w' (fun j => j = b) := by
  obtain ⟨r, f0, la, l⟩ := Q
  simp only at hk ⊢
  have HQ : Hid (QueueAt w S b x ⟨r, f0, la, l⟩) := h
  have hk2 : k ≤ 32 := by have h1 := h.ok.room; have h2 := h.ok.fits; simp only at h1 h2; omega
  have HK : Hid (k ≤ l.length) := hk
  clear h hk
  go_enter Tryz.func153, Tryz.ntmps153
  go_wp2_with fail
  go_loopw [5] (fun i wr => ∃ (q f : Nat), i = .int .i64 q ∧ q ≤ k ∧ Hid (QueueAt wr S b x ⟨r, f, la, l.drop q⟩) ∧ Hid (Chg w wr (fun j => j = b))) (fun i _ => k - (intOf i).toNat)
  case atStart => exact ⟨0, f0, rfl, Nat.zero_le _, HQ, Chg.refl _ _⟩
  case round =>
    obtain ⟨q, f, rfl, hq, HI, HC⟩ := hrel
    by_cases hlt : q < k
    · have hqi : (q : Int) < (k : Int) := by omega
      obtain ⟨e, l', hl'⟩ : ∃ e l', l.drop q = e :: l' := by
        have : q < l.length := by have := HK.out; omega
        exact ⟨_, _, List.drop_eq_getElem_cons this⟩
      have HL' : Hid (l.drop (q + 1) = l') := by
        show _ = _
        have : (l.drop q).drop 1 = l.drop (q + 1) := by rw [List.drop_drop]
        rw [← this, hl']
        rfl
      rw [hl'] at HI
      clear hl'
      have hr : r ≤ 32 := HI.out.ok.room
      have hft : (e :: l').length ≤ r := HI.out.ok.fits
      simp only [List.length_cons] at hft
      have hf32 : f ≤ 32 := HI.out.ok.first
      have HAT : Hid _ := at_any b 0 x _ wr S HI.out (show 0 < r by omega) (by decide)
      simp only [Nat.add_zero] at HAT
      obtain ⟨z, hz⟩ : ∃ z, f % r = z := ⟨_, rfl⟩
      have hzr : z < r := by rw [← hz]; exact Nat.mod_lt _ (by omega)
      rw [hz] at HAT
      obtain ⟨o, ho⟩ : ∃ o, 2 + z * 5 = o := ⟨_, rfl⟩
      rw [ho] at HAT
      have hom : o + 5 ≤ 162 := by omega
      have HO : Hid (2 + f % r * 5 = o) := by show _ = _; rw [hz]; exact ho
      obtain ⟨y0, d0⟩ := HI.out.cells o (by omega)
      obtain ⟨y1, d1⟩ := HI.out.cells (o + 1) (by omega)
      obtain ⟨y2, d2⟩ := HI.out.cells (o + 2) (by omega)
      obtain ⟨y3, d3⟩ := HI.out.cells (o + 3) (by omega)
      obtain ⟨y4, d4⟩ := HI.out.cells (o + 4) (by omega)
      have f0 : ∀ o, wr.frozen? ⟨b, o, none⟩ = false := HI.out.free
      clear hz ho
      go_wp2_with fail
      refine Calls.mono HAT.out ?_
      rintro e' w4 ⟨rfl, j4, rfl⟩
      go_wp2_with fail
      have HQD : Hid (QueueAt (wr.drewN j4) S b x ⟨r, f, la, e :: l'⟩) := drewN_keep HI.out _
      obtain ⟨arr, hba, hsa⟩ := HQD.out.box
      obtain ⟨arr', hg', hs', e0, e1, e2, e3, e4, hoth⟩ := at_s5 (o := o) (x0 := .int .i64 0) (x1 := .int .i64 0) (x2 := .bool false) (x3 := .slice none 0 0) (x4 := .slice none 0 0) hba (by omega)
      have hcX : Chg (wr.drewN j4) _ (fun j => j = b) := chg_s5 (wr.drewN j4) b o (.int .i64 0) (.int .i64 0) (.bool false) (.slice none 0 0) (.slice none 0 0)
      obtain ⟨X, hX⟩ : ∃ X, set_5 (wr.drewN j4) b o (.int .i64 0) (.int .i64 0) (.bool false) (.slice none 0 0) (.slice none 0 0) = X := ⟨_, rfl⟩
      rw [hX] at hg' hcX
      have HG : Hid (X.heap[b]? = some (.cells arr' 249 (0, 0))) := hg'
      have HZ : Hid (arr'.size = 166) := by show _ = _; rw [hs', hsa]
      have HOTH : Hid (∀ i v, wr.cell? ⟨b, i, none⟩ = some v → (i < o ∨ o + 5 ≤ i) → arr'[i]? = some v) := fun i v hv hi => by
        rw [hoth i hi, ← cell_of hba]
        exact hv
      have HCX : Hid (Chg wr X (fun j => j = b)) := (Chg.of_below (below_drewN (Below.refl _ _) _) _).trans hcX
      have g163 : X.cell? ⟨b, 163, none⟩ = some (.int .i64 f) := by
        rw [cell_of HG.out]
        exact HOTH.out 163 _ HI.out.first (by omega)
      have g162 : X.cell? ⟨b, 162, none⟩ = some (.int .i64 r) := by
        rw [cell_of HG.out]
        exact HOTH.out 162 _ HI.out.room (by omega)
      have f1 := free_of HG.out
      have hr0 : ¬ (r : Int) = 0 := by omega
      have hr1 : ((r : Int) == 0) = false := by simpa using hr0
      obtain ⟨y, hy⟩ : ∃ y, (f + 1) % r = y := ⟨_, rfl⟩
      have hm : Int.tmod ((f : Int) + 1) (r : Int) = (y : Int) := by
        rw [Int.tmod_eq_emod_of_nonneg (by omega), ← hy]; rfl
      have hm' : ((f : Int) + 1) % (r : Int) = (y : Int) := by rw [← hy]; rfl
      have HY : Hid ((f + 1) % r = y) := hy
      clear hba hsa hg' hs' e0 e1 e2 e3 e4 hoth hcX d0 d1 d2 d3 d4 f0 hy
      have hX' : ((((((wr.drewN j4).setCell ⟨b, o, none⟩ (.int .i64 0)).setCell ⟨b, o + 1, none⟩ (.int .i64 0)).setCell ⟨b, o + 2, none⟩ (.bool false)).setCell ⟨b, o + 3, none⟩ (.slice none 0 0)).setCell ⟨b, o + 4, none⟩ (.slice none 0 0)) = X := hX
      rw [hX']
      clear hX hX'
      go_region
      obtain ⟨m, hm0⟩ : ∃ m, l'.length = m := ⟨_, rfl⟩
      have HMM : Hid (l'.length = m) := hm0
      have HG2 : Hid ((X.setCell ⟨b, 163, none⟩ (.int .i64 y)).drew.heap[b]? = some (.cells (arr'.setIfInBounds 163 (.int .i64 y)) 249 (0, 0))) := set_at HG.out
      have g164 : (X.setCell ⟨b, 163, none⟩ (.int .i64 y)).drew.cell? ⟨b, 164, none⟩ = some (.int .i64 ((m : Int) + 1)) := by
        rw [cell_of HG2.out, Array.getElem?_setIfInBounds_ne (by omega)]
        have h1 := HI.out.count
        simp only [List.length_cons, hm0] at h1
        exact HOTH.out 164 _ h1 (by omega)
      have f2 := free_of HG2.out
      have hmb : m ≤ 32 := by omega
      have hsub : (m : Int) + 1 - 1 = m := by omega
      clear hm0 f1 g162 g163
      go_wp2_with fail
      go_roundw
      case rel =>
        have HG3 : ((X.setCell ⟨b, 163, none⟩ (.int .i64 y)).setCell ⟨b, 164, none⟩ (.int .i64 m)).drew.heap[b]? = some (.cells ((arr'.setIfInBounds 163 (.int .i64 y)).setIfInBounds 164 (.int .i64 m)) 249 (0, 0)) := set_at (o := 164) (x := .int .i64 m) (set_at (o := 163) (x := .int .i64 y) HG.out)
        have hch : Chg wr _ (fun j => j = b) := ((HCX.out.trans (Chg.set _ ⟨b, 163, none⟩ (.int .i64 y))).trans (Chg.set _ ⟨b, 164, none⟩ (.int .i64 m))).trans (Chg.of_below (below_drew (Below.refl _ _)) _)
        refine ⟨q + 1, (f + 1) % r, by go_num, by omega, ?_, HC.out.trans hch⟩
        show QueueAt _ _ _ _ _
        rw [HL'.out]
        refine QueueAt.popped HI.out hch ⟨_, HG3, by simp [HZ.out]⟩ ?_ ?_ ?_
        · intro i v hv hi h1 h2
          rw [HO.out] at hi
          rw [cell_of HG3, Array.getElem?_setIfInBounds_ne (Ne.symm h2), Array.getElem?_setIfInBounds_ne (Ne.symm h1)]
          exact HOTH.out i v hv hi
        · rw [cell_of HG3, Array.getElem?_setIfInBounds_ne (by omega), Array.getElem?_setIfInBounds_self, HY.out]
          simp [HZ.out]
        · rw [cell_of HG3, Array.getElem?_setIfInBounds_self, HMM.out]
          simp [HZ.out]
      case measure => simp [intOf]; omega
    · obtain rfl : q = k := by omega
      have hge : ¬ (q : Int) < (q : Int) := by omega
      go_wp2_with fail
      exact bodyPost_end (results_none rfl _ _ _) rfl ⟨rfl, ⟨f, HI.out⟩, HC.out⟩
end Go.Proofs.YtjcnigffpamcgaaGreatDoor
