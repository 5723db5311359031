/-
  queue: add.
-/
import Derived.Test.YtjcnigffpamcgaaGreatDoorQSmall
import Derived.Test.YtjcnigffpamcgaaGreatDoorQItem
namespace Go.Proofs.YtjcnigffpamcgaaGreatDoor
open Go.RowKit
set_option linter.unusedVariables false
set_option linter.unusedSimpArgs false

theorem cell_neq {w : World} {b i j : Nat} {v : Value} (h : i ≠ j) : (w.setCell ⟨b, i, none⟩ v).cell? ⟨b, j, none⟩ = w.cell? ⟨b, j, none⟩ := World.cell?_setCell_other w ⟨b, i, none⟩ ⟨b, j, none⟩ v (by simp [h])
theorem slot_ne {r f i k : Nat} (hr : 0 < r) (hik : i < k) (hk : k < r) : (f + i) % r ≠ (f + k) % r := by
  intro h
  have h1 : (f + k - (f + i)) % r = 0 := by
    have := Nat.sub_mod_eq_zero_of_mod_eq h.symm
    exact this
  rw [show f + k - (f + i) = k - i by omega, Nat.mod_eq_of_lt (by omega)] at h1
  omega
/-- One more item. -/
theorem QueueAt.pushed {w w' : World} {S : Nat → Prop} {b : Nat} {x : Int} {Q : QuT} {t : ItT} {u1 u2 : Value} (h : QueueAt w S b x Q) (hl : Q.l.length < Q.room) (hc : Chg w w' (fun j => j = b)) (hst : 0 ≤ t.st ∧ t.st ≤ 2147483647) (hs : t.Small)
    (hbox : ∃ cs : Array Value, w'.heap[b]? = some (.cells cs 249 (0, 0)) ∧ cs.size = 166)
    (hold : ∀ i v, w.cell? ⟨b, i, none⟩ = some v → (i < 2 + (Q.first + Q.l.length) % Q.room * 5 ∨ 2 + (Q.first + Q.l.length) % Q.room * 5 + 5 ≤ i) → i ≠ 164 → i ≠ 165 → w'.cell? ⟨b, i, none⟩ = some v)
    (hcount : w'.cell? ⟨b, 164, none⟩ = some (.int .i64 ((Q.l.length : Int) + 1))) (hlast : w'.cell? ⟨b, 165, none⟩ = some (.int .i64 t.st)) (hit : itE w' S b (2 + (Q.first + Q.l.length) % Q.room * 5) t u1 u2) :
    QueueAt w' S b x ⟨Q.room, Q.first, t.st.toNat, Q.l ++ [t]⟩ := by
  have hr := h.ok.room
  have hm : (Q.first + Q.l.length) % Q.room < Q.room := Nat.mod_lt _ (by omega)
  refine ⟨⟨h.ok.room, h.ok.first, by simp; omega, by show t.st.toNat ≤ _; omega, fun e he => ?_⟩, h.out, hbox, hold _ _ h.lock (by omega) (by omega) (by omega), hold _ _ h.room (by omega) (by omega) (by omega), hold _ _ h.first (by omega) (by omega) (by omega), ?_, ?_, fun k e hk => ?_⟩
  · rcases List.mem_append.1 he with he | he
    · exact h.ok.small e he
    · simp only [List.mem_cons, List.not_mem_nil, or_false] at he
      rw [he]
      exact hs
  · rw [hcount]
    simp
  · rw [hlast]
    show _ = some (Value.int .i64 ((t.st.toNat : Nat) : Int))
    rw [Int.toNat_of_nonneg hst.1]
  · by_cases hkl : k < Q.l.length
    · rw [List.getElem?_append_left hkl] at hk
      obtain ⟨v1, v2, hi⟩ := h.items k e hk
      have hne := slot_ne (f := Q.first) (by omega : 0 < Q.room) hkl hl
      have hm2 : (Q.first + k) % Q.room < Q.room := Nat.mod_lt _ (by omega)
      refine ⟨v1, v2, hi.keep (Kp.of_chg hc (fun j _ hj e => h.out (by have e : j = b := e; rw [← e]; exact hj))) (fun j v hj h1 h2 => hold j v hj ?_ (by omega) (by omega))⟩
      omega
    · have hkk : k = Q.l.length := by
        have := (List.getElem?_eq_some_iff.1 hk).1
        simp at this
        omega
      subst hkk
      rw [List.getElem?_append_right (Nat.le_refl _)] at hk
      simp at hk
      subst hk
      exact ⟨u1, u2, hit⟩
set_option maxHeartbeats 6400000 in
set_option maxRecDepth 100000 in
theorem add_any (b : Nat) (x : Int) (Q : QuT) (t : ItT) (u1 u2 : Value) (w : World) (S : Nat → Prop) (h : QueueAt w S b x Q) (hl : Q.l.length < Q.room) (h1 : TgsAt w S u1 t.cs) (h2 : PasAt w S u2 t.ps) (hst : 0 ≤ t.st ∧ t.st ≤ 2147483647) (hs : t.Small) :
    Calls Tryz.prog 278 #[.pointer (some ⟨b, 0, none⟩), .agg (itA t u1 u2)] w fun e w' => e = .returned (.tuple #[]) ∧ QueueAt w' S b x ⟨Q.room, Q.first, t.st.toNat, Q.l ++ [t]⟩ ∧ Chg w w' (fun j => j = b) := by
  obtain ⟨st, af, mark, cs, ps⟩ := t
  obtain ⟨xa, xc, rfl, _⟩ := _root_.id h1
  obtain ⟨ya, yc, rfl, _⟩ := _root_.id h2
  obtain ⟨n, hn⟩ : ∃ n, Q.l.length = n := ⟨_, rfl⟩
  obtain ⟨cn, hcn⟩ : ∃ cn, cs.length = cn := ⟨_, rfl⟩
  obtain ⟨pn, hpn⟩ : ∃ pn, ps.length = pn := ⟨_, rfl⟩
  have H1 : Hid (TgsAt w S (.slice xa cs.length xc) cs) := h1
  have H2 : Hid (PasAt w S (.slice ya ps.length yc) ps) := h2
  have HS : Hid (ItT.Small ⟨st, af, mark, cs, ps⟩) := hs
  have HST : Hid (0 ≤ st ∧ st ≤ 2147483647) := hst
  have HQ : Hid (QueueAt w S b x Q) := h
  have HL : Hid (n < Q.room) := by show _ < _; rw [← hn]; exact hl
  have HN : Hid (Q.l.length = n) := hn
  have hr := h.ok.room
  show Calls Tryz.prog 278 #[.pointer (some ⟨b, 0, none⟩), .agg #[.int .i64 st, .int .i64 af, .bool mark, .slice xa cs.length xc, .slice ya ps.length yc]] w _
  rw [hcn, hpn] at *
  have HA0 : Hid ((w.alloc (.cells #[.int .i64 st, .int .i64 af, .bool mark, .slice xa cn xc, .slice ya pn yc] 130)).heap[w.heap.size]? = some (.cells #[.int .i64 st, .int .i64 af, .bool mark, .slice xa cn xc, .slice ya pn yc] 130 (0, 0))) := heap_alloc_new _ _
  obtain ⟨W, hW⟩ : ∃ W, (w.alloc (.cells #[.int .i64 st, .int .i64 af, .bool mark, .slice xa cn xc, .slice ya pn yc] 130)) = W := ⟨_, rfl⟩
  have HBW : Hid (Below w.heap.size w W) := by show Below _ _ _; rw [← hW]; exact (Below.refl _ _).alloc (Nat.le_refl _) _
  rw [hW] at HA0
  have HQW : Hid (QueueAt W S b x Q) := h.below HBW.out
  have hblt : b < w.heap.size := h.lt
  have hlt : w.heap.size ≠ b := by omega
  obtain ⟨z, hz⟩ : ∃ z, (Q.first + n) % Q.room = z := ⟨_, rfl⟩
  have hzr : z < Q.room := by rw [← hz]; exact Nat.mod_lt _ (by have := HL.out; omega)
  have HAT : Hid (∀ w', Below W.heap.size W w' → Calls Tryz.prog 134 #[.pointer (some ⟨b, 0, none⟩), .int .i64 n] w' fun e w'' => e = .returned (.pointer (some ⟨b, 2 + z * 5, none⟩)) ∧ ∃ k, w'' = w'.drewN k) := fun w' hb => by
    have := at_any b n x Q w' S (HQW.out.below hb) (by have := HL.out; omega) (by have := HL.out; omega)
    rw [hz] at this
    exact this
  obtain ⟨o, ho⟩ : ∃ o, 2 + z * 5 = o := ⟨_, rfl⟩
  rw [ho] at HAT
  have hom : o + 5 ≤ 162 := by omega
  have HO : Hid (2 + (Q.first + n) % Q.room * 5 = o) := by show _ = _; rw [hz]; exact ho
  obtain ⟨q0, q1, q2, q3, q4⟩ := cells_5 HA0.out
  have c4 : W.cell? ⟨b, 164, none⟩ = some (.int .i64 n) := by have := HQW.out.count; rw [hn] at this; exact this
  have k0 : ∀ (w' : World) (v : Value), (w'.setCell ⟨b, o, none⟩ v).cell? ⟨b, 164, none⟩ = w'.cell? ⟨b, 164, none⟩ := fun w' v => cell_neq (by omega)
  have k1 : ∀ (w' : World) (v : Value), (w'.setCell ⟨b, o + 1, none⟩ v).cell? ⟨b, 164, none⟩ = w'.cell? ⟨b, 164, none⟩ := fun w' v => cell_neq (by omega)
  have k2 : ∀ (w' : World) (v : Value), (w'.setCell ⟨b, o + 2, none⟩ v).cell? ⟨b, 164, none⟩ = w'.cell? ⟨b, 164, none⟩ := fun w' v => cell_neq (by omega)
  have k3 : ∀ (w' : World) (v : Value), (w'.setCell ⟨b, o + 3, none⟩ v).cell? ⟨b, 164, none⟩ = w'.cell? ⟨b, 164, none⟩ := fun w' v => cell_neq (by omega)
  have k4 : ∀ (w' : World) (v : Value), (w'.setCell ⟨b, o + 4, none⟩ v).cell? ⟨b, 164, none⟩ = w'.cell? ⟨b, 164, none⟩ := fun w' v => cell_neq (by omega)
  obtain ⟨y0, d0⟩ := HQW.out.cells o (by omega)
  obtain ⟨y1, d1⟩ := HQW.out.cells (o + 1) (by omega)
  obtain ⟨y2, d2⟩ := HQW.out.cells (o + 2) (by omega)
  obtain ⟨y3, d3⟩ := HQW.out.cells (o + 3) (by omega)
  obtain ⟨y4, d4⟩ := HQW.out.cells (o + 4) (by omega)
  obtain ⟨y5, d5⟩ := HQW.out.cells 165 (by omega)
  have f0 : ∀ o, W.frozen? ⟨b, o, none⟩ = false := HQW.out.free
  clear h h1 h2 hs hst hl hn hz ho hcn hpn
  go_enter Tryz.func278, Tryz.ntmps278
  go_wp2_with fail
  go_region_held3 (fun w' => w'.cell? ⟨w.heap.size, 0, none⟩ = some (.int .i64 st) ∧ w'.cell? ⟨w.heap.size, 1, none⟩ = some (.int .i64 af) ∧ w'.cell? ⟨w.heap.size, 2, none⟩ = some (.bool mark) ∧ w'.cell? ⟨w.heap.size, 3, none⟩ = some (.slice xa cn xc) ∧ w'.cell? ⟨w.heap.size, 4, none⟩ = some (.slice ya pn yc) ∧ w'.cell? ⟨b, 164, none⟩ = some (.int .i64 n)) (first | (simp only [World.cell?_drew, World.cell?_drewN, cellN hlt, k0, k1, k2, k3, k4, q0, q1, q2, q3, q4, c4, and_self]; done) | fail)
    (first
    | (go_at_call 134; refine (HAT.out _ (by first | exact below_drewN (Below.refl _ _) _ | exact below_drew (Below.refl _ _) | exact Below.refl _ _)).mono ?_
       rintro e' w4 ⟨rfl, j4, rfl⟩))
  have HQD : Hid (QueueAt (W.drewN (1 + j4)) S b x Q) := drewN_keep HQW.out _
  obtain ⟨arr, hba, hsa⟩ := HQD.out.box
  obtain ⟨arr', hg', hs', e0, e1, e2, e3, e4, hoth⟩ := at_s5 (o := o) (x0 := .int .i64 st) (x1 := .int .i64 af) (x2 := .bool mark) (x3 := .slice xa cn xc) (x4 := .slice ya pn yc) hba (by omega)
  have hcX : Chg (W.drewN (1 + j4)) _ (fun j => j = b) := chg_s5 (W.drewN (1 + j4)) b o (.int .i64 st) (.int .i64 af) (.bool mark) (.slice xa cn xc) (.slice ya pn yc)
  obtain ⟨X, hX⟩ : ∃ X, set_5 (W.drewN (1 + j4)) b o (.int .i64 st) (.int .i64 af) (.bool mark) (.slice xa cn xc) (.slice ya pn yc) = X := ⟨_, rfl⟩
  rw [hX] at hg' hcX
  have HG : Hid (X.heap[b]? = some (.cells arr' 249 (0, 0))) := hg'
  have HZ : Hid (arr'.size = 166) := by show _ = _; rw [hs', hsa]
  have HE : Hid (arr'[o]? = some (.int .i64 st) ∧ arr'[o + 1]? = some (.int .i64 af) ∧ arr'[o + 2]? = some (.bool mark) ∧ arr'[o + 3]? = some (.slice xa cn xc) ∧ arr'[o + 4]? = some (.slice ya pn yc)) := ⟨e0, e1, e2, e3, e4⟩
  have HOTH : Hid (∀ i v, w.cell? ⟨b, i, none⟩ = some v → (i < o ∨ o + 5 ≤ i) → arr'[i]? = some v) := fun i v hv hi => by
    rw [hoth i hi, ← cell_of hba]
    show (W.drewN (1 + j4)).cell? ⟨b, i, none⟩ = some v
    rw [World.cell?_drewN, HBW.out.cell (p := ⟨b, i, none⟩) hblt]
    exact hv
  have HCX : Hid (Chg w X (fun j => j = b)) := (Chg.of_below (below_drewN HBW.out _) _).trans hcX
  have HBX : Hid (X.heap[w.heap.size]? = some (.cells #[.int .i64 st, .int .i64 af, .bool mark, .slice xa cn xc, .slice ya pn yc] 130 (0, 0))) := by
    have h1 := hcX.block w.heap.size (lt_of_blk (show (W.drewN (1 + j4)).heap[w.heap.size]? = _ from HA0.out)) hlt
    show X.heap[w.heap.size]? = _
    rw [h1]
    exact HA0.out
  have g164 : X.cell? ⟨b, 164, none⟩ = some (.int .i64 n) := by
    rw [cell_of HG.out]
    exact HOTH.out 164 _ (by have := HQ.out.count; rw [HN.out] at this; exact this) (by omega)
  have f1 := free_of HG.out
  have HG2 : Hid ((X.setCell ⟨b, 164, none⟩ (.int .i64 ((n : Int) + 1))).heap[b]? = some (.cells (arr'.setIfInBounds 164 (.int .i64 ((n : Int) + 1))) 249 (0, 0))) := set_at HG.out
  obtain ⟨y6, g165⟩ : ∃ y, (X.setCell ⟨b, 164, none⟩ (.int .i64 ((n : Int) + 1))).cell? ⟨b, 165, none⟩ = some y := ⟨(arr'.setIfInBounds 164 (.int .i64 ((n : Int) + 1)))[165]'(by rw [Array.size_setIfInBounds, HZ.out]; omega), by rw [cell_of HG2.out]; exact Array.getElem?_eq_getElem _⟩
  have f2 := free_of HG2.out
  obtain ⟨r0, r1, r2, r3, r4⟩ := cells_5 (other_blk (v := .int .i64 ((n : Int) + 1)) (i := 164) HBX.out hlt)
  have hnn : n ≤ 32 := by have := HL.out; omega
  clear hba hsa hg' hs' e0 e1 e2 e3 e4 hoth hcX c4 k0 k1 k2 k3 k4 d0 d1 d2 d3 d4 d5 q0 q1 q2 q3 q4 f0
  have hX' : ((((((W.drewN (1 + j4)).setCell ⟨b, o, none⟩ (.int .i64 st)).setCell ⟨b, o + 1, none⟩ (.int .i64 af)).setCell ⟨b, o + 2, none⟩ (.bool mark)).setCell ⟨b, o + 3, none⟩ (.slice xa cn xc)).setCell ⟨b, o + 4, none⟩ (.slice ya pn yc)) = X := hX
  rw [hX']
  clear hX hX'
  go_wp2_with fail
  refine bodyPost_end (results_none rfl _ _ _) rfl ⟨rfl, ?_, (HCX.out.trans (Chg.set _ _ _)).trans (Chg.set _ _ _)⟩
  have HG3 := set_at (o := 165) (x := .int .i64 st) HG2.out
  have hn' := HN.out
  have ho' := HO.out
  have hKp : Kp w _ S := Kp.of_chg ((HCX.out.trans (Chg.set _ ⟨b, 164, none⟩ (.int .i64 ((n : Int) + 1)))).trans (Chg.set _ ⟨b, 165, none⟩ (.int .i64 st))) (fun j _ hj e => HQ.out.out (by have e : j = b := e; rw [← e]; exact hj))
  have hat : ∀ i v, arr'[i]? = some v → i ≠ 164 → i ≠ 165 → ((X.setCell ⟨b, 164, none⟩ (.int .i64 ((n : Int) + 1))).setCell ⟨b, 165, none⟩ (.int .i64 st)).cell? ⟨b, i, none⟩ = some v := fun i v hv h1 h2 => by
    rw [cell_of HG3, Array.getElem?_setIfInBounds_ne (Ne.symm h2), Array.getElem?_setIfInBounds_ne (Ne.symm h1)]
    exact hv
  refine QueueAt.pushed (u1 := .slice xa cn xc) (u2 := .slice ya pn yc) HQ.out (by rw [hn']; exact HL.out) ((HCX.out.trans (Chg.set _ _ _)).trans (Chg.set _ _ _)) HST.out HS.out ⟨_, HG3, by simp [HZ.out]⟩ ?_ ?_ ?_ ?_
  · intro i v hv hi h1 h2
    rw [hn', ho'] at hi
    exact hat i v (HOTH.out i v hv hi) h1 h2
  · rw [cell_of HG3, Array.getElem?_setIfInBounds_ne (by omega), Array.getElem?_setIfInBounds_self, hn']
    simp [HZ.out]
  · rw [cell_of HG3, Array.getElem?_setIfInBounds_self]
    simp [HZ.out]
  · rw [hn', ho']
    obtain ⟨e0, e1, e2, e3, e4⟩ := HE.out
    exact ⟨hat _ _ e0 (by omega) (by omega), hat _ _ e1 (by omega) (by omega), hat _ _ e2 (by omega) (by omega), hat _ _ e3 (by omega) (by omega), hat _ _ e4 (by omega) (by omega), TgsAt.keep H1.out hKp, PasAt.keep H2.out hKp⟩
end Go.Proofs.YtjcnigffpamcgaaGreatDoor
