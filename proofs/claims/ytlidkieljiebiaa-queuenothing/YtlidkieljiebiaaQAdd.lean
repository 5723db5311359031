import Derived.Test.YtlidkieljiebiaaQCopyT
import Derived.Test.YtlidkieljiebiaaQCopyP
import Derived.Test.YtlidkieljiebiaaQSmall
namespace Go.Proofs.Ytlidkieljiebiaa
open Go.RowKit
set_option linter.unusedVariables false
set_option linter.unusedSimpArgs false

abbrev itA (t : ItT) (u1 u2 : Value) : Array Value := #[.int .i64 t.st, .int .i64 t.af, .bool t.mark, u1, u2]
abbrev NewIn (w : World) : Nat → Prop := fun b => w.heap.size ≤ b
set_option maxHeartbeats 3200000 in
set_option maxRecDepth 100000 in
theorem ownItem_any (t : ItT) (u1 u2 : Value) (w : World) (S : Nat → Prop) (h1 : TgsAt w S u1 t.cs) (h2 : PasAt w S u2 t.ps) (hs : t.Small) :
    Calls Try.prog 42 #[.agg (itA t u1 u2)] w fun e w' => ∃ v1 v2, e = .returned (.agg (itA t v1 v2)) ∧ TgsAt w' (NewIn w) v1 t.cs ∧ PasAt w' (NewIn w) v2 t.ps ∧ Below w.heap.size w w' := by
  obtain ⟨st, af, mark, cs, ps⟩ := t
  have HL1 : Hid (∀ w', Below w.heap.size w w' → Calls Try.prog 35 #[u1, .func (.func 36) #[] #[]] w' fun e w'' => ∃ u', e = .returned u' ∧ TgsAt w'' (NewIn w') u' cs ∧ Below w'.heap.size w' w'') := fun w' hb => copiesT_any u1 cs w' S (TgsAt.keep h1 (Kp.of_below hb S)) hs.cs.len hs.cs.each
  have HL2 : Hid (∀ w', Below w.heap.size w w' → Calls Try.prog 39 #[u2, .func (.func 40) #[] #[]] w' fun e w'' => ∃ u', e = .returned u' ∧ PasAt w'' (NewIn w') u' ps ∧ Below w'.heap.size w' w'') := fun w' hb => copiesP_any u2 ps w' S (PasAt.keep h2 (Kp.of_below hb S)) hs.ps.len hs.ps.each
  have HA0 : Hid (((w.alloc (.cells #[.int .i64 st, .int .i64 af, .bool mark, u1, u2] 42)).alloc (.cells #[.int .i64 0, .int .i64 0, .bool false, .slice none 0 0, .slice none 0 0] 42)).heap[w.heap.size]? = some (.cells #[.int .i64 st, .int .i64 af, .bool mark, u1, u2] 42 (0, 0))) := new_old (heap_alloc_new _ _) _
  have HR0 : Hid (((w.alloc (.cells #[.int .i64 st, .int .i64 af, .bool mark, u1, u2] 42)).alloc (.cells #[.int .i64 0, .int .i64 0, .bool false, .slice none 0 0, .slice none 0 0] 42)).heap[w.heap.size + 1]? = some (.cells #[.int .i64 0, .int .i64 0, .bool false, .slice none 0 0, .slice none 0 0] 42 (0, 0))) := heap_new' (by simp)
  have HB0 : Hid (Below w.heap.size w ((w.alloc (.cells #[.int .i64 st, .int .i64 af, .bool mark, u1, u2] 42)).alloc (.cells #[.int .i64 0, .int .i64 0, .bool false, .slice none 0 0, .slice none 0 0] 42))) := ((Below.refl _ _).alloc (Nat.le_refl _) _).alloc (by simp) _
  clear hs h1 h2
  obtain ⟨a0, a1, a2, a3, a4⟩ := cells_5 HA0.out
  go_enter Try.func42, Try.ntmps42
  go_wp2_with fail
  refine Calls.mono (HL1.out _ HB0.out) ?_
  rintro e w1 ⟨v1, rfl, hu1, hb1⟩
  obtain ⟨xa, xc, rfl, _⟩ := _root_.id hu1
  have HU1 : Hid (TgsAt w1 (fun b => w.heap.size ≤ b ∧ b ≠ w.heap.size ∧ b ≠ w.heap.size + 1) (.slice xa cs.length xc) cs) := TgsAt.mono hu1 (fun b _ hb => by
    simp [NewIn] at hb
    exact ⟨by omega, by omega, by omega⟩)
  have HA1 : Hid _ := kept_block hb1 HA0.out
  have HR1 : Hid _ := kept_block hb1 HR0.out
  have HB1 : Hid (Below w.heap.size w w1) := trans2 HB0.out hb1
  clear hb1 hu1 a0 a1 a2 a3 a4
  obtain ⟨a0, a1, a2, a3, a4⟩ := cells_5 HA1.out
  have f1 := free_of HA1.out
  have HA2 : Hid _ := same_blk (i := 3) (v := .slice xa cs.length xc) (cs' := #[.int .i64 st, .int .i64 af, .bool mark, .slice xa cs.length xc, u2]) HA1.out rfl
  have HR2 : Hid ((w1.setCell ⟨w.heap.size, 3, none⟩ (.slice xa cs.length xc)).heap[w.heap.size + 1]? = _) := other_blk HR1.out (by omega)
  have HB2 : Hid (Below w.heap.size w (w1.setCell ⟨w.heap.size, 3, none⟩ (.slice xa cs.length xc))) := HB1.out.setCell (Nat.le_refl _) _
  have HU2 : Hid (TgsAt (w1.setCell ⟨w.heap.size, 3, none⟩ (.slice xa cs.length xc)) (fun b => w.heap.size ≤ b ∧ b ≠ w.heap.size ∧ b ≠ w.heap.size + 1) (.slice xa cs.length xc) cs) := TgsAt.keep HU1.out (Kp.of_chg (Chg.set w1 ⟨w.heap.size, 3, none⟩ _) (fun b _ hb e => hb.2.1 e))
  obtain ⟨c0, c1, c2, c3, c4⟩ := cells_5 HA2.out
  go_wp2_with fail
  refine Calls.mono (HL2.out _ HB2.out) ?_
  rintro e w3 ⟨v2, rfl, hu2, hb3⟩
  obtain ⟨ya, yc, rfl, _⟩ := _root_.id hu2
  have HP3 : Hid (PasAt w3 (fun b => w.heap.size ≤ b ∧ b ≠ w.heap.size ∧ b ≠ w.heap.size + 1) (.slice ya ps.length yc) ps) := PasAt.mono hu2 (fun b _ hb => by
    have h1 := lt_of_blk HR1.out
    simp [NewIn] at hb
    exact ⟨by omega, by omega, by omega⟩)
  have HA3 : Hid _ := kept_block hb3 HA2.out
  have HR3 : Hid _ := kept_block hb3 HR2.out
  have HB3 : Hid (Below w.heap.size w w3) := trans2 HB2.out hb3
  have HU3 : Hid (TgsAt w3 (fun b => w.heap.size ≤ b ∧ b ≠ w.heap.size ∧ b ≠ w.heap.size + 1) (.slice xa cs.length xc) cs) := TgsAt.keep HU2.out (Kp.of_below hb3 _)
  clear hb3 hu2 a0 a1 a2 a3 a4 c0 c1 c2 c3 c4 f1
  obtain ⟨a0, a1, a2, a3, a4⟩ := cells_5 HA3.out
  have f1 := free_of HA3.out
  have HA4 : Hid _ := same_blk (i := 4) (v := .slice ya ps.length yc) (cs' := #[.int .i64 st, .int .i64 af, .bool mark, .slice xa cs.length xc, .slice ya ps.length yc]) HA3.out rfl
  have HR4 : Hid ((w3.setCell ⟨w.heap.size, 4, none⟩ (.slice ya ps.length yc)).heap[w.heap.size + 1]? = _) := other_blk HR3.out (by omega)
  obtain ⟨b0, b1, b2, b3, b4⟩ := cells_5 HA4.out
  obtain ⟨r0, r1, r2, r3, r4⟩ := cells_5 HR4.out
  have f2 := free_of HR4.out
  go_wp2_with fail
  have HK : Kp w3 (put_5 (w3.setCell ⟨w.heap.size, 4, none⟩ (.slice ya ps.length yc)) (w.heap.size + 1) (.int .i64 st) (.int .i64 af) (.bool mark) (.slice xa cs.length xc) (.slice ya ps.length yc)) (fun b => w.heap.size ≤ b ∧ b ≠ w.heap.size ∧ b ≠ w.heap.size + 1) := Kp.of_chg (chg_put5 _ _ _ _ _ _ _ _ _) (fun b _ hb e => by
    rcases e with e | e
    · exact hb.2.1 e
    · exact hb.2.2 e)
  refine bodyPost_ret (results_cell_row rfl _ _ (w.heap.size + 1) 42 _ (0, 0) _ rfl (fill_5 HR4.out) Try.underlying42 rfl (by kernel_rfl)) rfl ⟨.slice xa cs.length xc, .slice ya ps.length yc, rfl, ?_, ?_, fillB_5 (HB3.out.setCell (Nat.le_refl _) _) (by omega)⟩
  · exact TgsAt.mono (TgsAt.keep HU3.out HK) (fun b _ hb => hb.1)
  · exact PasAt.mono (PasAt.keep HP3.out HK) (fun b _ hb => hb.1)
end Go.Proofs.Ytlidkieljiebiaa
namespace Go.Proofs.Ytlidkieljiebiaa
open Go.RowKit
set_option linter.unusedVariables false
set_option linter.unusedSimpArgs false

theorem cell_neq {w : World} {b i j : Nat} {v : Value} (h : i ≠ j) : (w.setCell ⟨b, i, none⟩ v).cell? ⟨b, j, none⟩ = w.cell? ⟨b, j, none⟩ := World.cell?_setCell_other w ⟨b, i, none⟩ ⟨b, j, none⟩ v (by simp [h])
theorem slot_ne {r f i k : Nat} (hr : 0 < r) (hik : i < k) (hk : k < r) : (f + i) % r ≠ (f + k) % r := by
  intro h
  have h1 : (f + k - (f + i)) % r = 0 := by
    have := Nat.sub_mod_eq_zero_of_mod_eq h.symm
    exact this
  rw [show f + k - (f + i) = k - i by omega, Nat.mod_eq_of_lt (by omega)] at h1
  omega
/-- One more item. -/
theorem QueueAt.pushed {w w' : World} {S : Nat → Prop} {b : Nat} {x : Int} {Q : QuT} {t : ItT} {u1 u2 : Value} (h : QueueAt w S b x Q) (hl : Q.l.length < Q.room) (hc : Chg w w' (fun j => j = b)) (hst : 0 ≤ t.st ∧ t.st ≤ 2147483647) (hs : t.Small)
    (hbox : ∃ cs : Array Value, w'.heap[b]? = some (.cells cs 65 (0, 0)) ∧ cs.size = 166)
    (hold : ∀ i v, w.cell? ⟨b, i, none⟩ = some v → (i < 2 + (Q.first + Q.l.length) % Q.room * 5 ∨ 2 + (Q.first + Q.l.length) % Q.room * 5 + 5 ≤ i) → i ≠ 164 → i ≠ 165 → w'.cell? ⟨b, i, none⟩ = some v)
    (hcount : w'.cell? ⟨b, 164, none⟩ = some (.int .i64 ((Q.l.length : Int) + 1))) (hlast : w'.cell? ⟨b, 165, none⟩ = some (.int .i64 t.st)) (hit : itE w' S b (2 + (Q.first + Q.l.length) % Q.room * 5) t u1 u2) :
    QueueAt w' S b x ⟨Q.room, Q.first, t.st.toNat, Q.l ++ [t]⟩ := by
  have hr := h.ok.room
  have hm : (Q.first + Q.l.length) % Q.room < Q.room := Nat.mod_lt _ (by omega)
  refine ⟨⟨h.ok.room, h.ok.first, by simp; omega, by show t.st.toNat ≤ _; omega, fun e he => ?_⟩, h.out, hbox, hold _ _ h.lock (by omega) (by omega) (by omega), hold _ _ h.room (by omega) (by omega) (by omega), hold _ _ h.first (by omega) (by omega) (by omega), ?_, ?_, fun k e hk => ?_⟩
  · rcases List.mem_append.1 he with he | he
    · exact h.ok.small e he
    · simp only [List.mem_cons, List.not_mem_nil, or_false] at he
      rw [he]
      exact hs
  · rw [hcount]
    simp
  · rw [hlast]
    show _ = some (Value.int .i64 ((t.st.toNat : Nat) : Int))
    rw [Int.toNat_of_nonneg hst.1]
  · by_cases hkl : k < Q.l.length
    · rw [List.getElem?_append_left hkl] at hk
      obtain ⟨v1, v2, hi⟩ := h.items k e hk
      have hne := slot_ne (f := Q.first) (by omega : 0 < Q.room) hkl hl
      have hm2 : (Q.first + k) % Q.room < Q.room := Nat.mod_lt _ (by omega)
      refine ⟨v1, v2, hi.keep (Kp.of_chg hc (fun j _ hj e => h.out (by have e : j = b := e; rw [← e]; exact hj))) (fun j v hj h1 h2 => hold j v hj ?_ (by omega) (by omega))⟩
      omega
    · have hkk : k = Q.l.length := by
        have := (List.getElem?_eq_some_iff.1 hk).1
        simp at this
        omega
      subst hkk
      rw [List.getElem?_append_right (Nat.le_refl _)] at hk
      simp at hk
      subst hk
      exact ⟨u1, u2, hit⟩
set_option maxHeartbeats 6400000 in
set_option maxRecDepth 100000 in
theorem add_any (b : Nat) (x : Int) (Q : QuT) (t : ItT) (u1 u2 : Value) (w : World) (S : Nat → Prop) (h : QueueAt w S b x Q) (hl : Q.l.length < Q.room) (h1 : TgsAt w S u1 t.cs) (h2 : PasAt w S u2 t.ps) (hst : 0 ≤ t.st ∧ t.st ≤ 2147483647) (hs : t.Small) :
    Calls Try.prog 34 #[.pointer (some ⟨b, 0, none⟩), .agg (itA t u1 u2)] w fun e w' => e = .returned (.tuple #[]) ∧ QueueAt w' S b x ⟨Q.room, Q.first, t.st.toNat, Q.l ++ [t]⟩ ∧ Chg w w' (fun j => j = b) := by
  obtain ⟨st, af, mark, cs, ps⟩ := t
  obtain ⟨xa, xc, rfl, _⟩ := _root_.id h1
  obtain ⟨ya, yc, rfl, _⟩ := _root_.id h2
  obtain ⟨n, hn⟩ : ∃ n, Q.l.length = n := ⟨_, rfl⟩
  obtain ⟨cn, hcn⟩ : ∃ cn, cs.length = cn := ⟨_, rfl⟩
  obtain ⟨pn, hpn⟩ : ∃ pn, ps.length = pn := ⟨_, rfl⟩
  have H1 : Hid (TgsAt w S (.slice xa cs.length xc) cs) := h1
  have H2 : Hid (PasAt w S (.slice ya ps.length yc) ps) := h2
  have HS : Hid (ItT.Small ⟨st, af, mark, cs, ps⟩) := hs
  have HST : Hid (0 ≤ st ∧ st ≤ 2147483647) := hst
  have HQ : Hid (QueueAt w S b x Q) := h
  have HL : Hid (n < Q.room) := by show _ < _; rw [← hn]; exact hl
  have HN : Hid (Q.l.length = n) := hn
  have hr := h.ok.room
  show Calls Try.prog 34 #[.pointer (some ⟨b, 0, none⟩), .agg #[.int .i64 st, .int .i64 af, .bool mark, .slice xa cs.length xc, .slice ya ps.length yc]] w _
  rw [hcn, hpn] at *
  have HA0 : Hid ((w.alloc (.cells #[.int .i64 st, .int .i64 af, .bool mark, .slice xa cn xc, .slice ya pn yc] 42)).heap[w.heap.size]? = some (.cells #[.int .i64 st, .int .i64 af, .bool mark, .slice xa cn xc, .slice ya pn yc] 42 (0, 0))) := heap_alloc_new _ _
  obtain ⟨W, hW⟩ : ∃ W, (w.alloc (.cells #[.int .i64 st, .int .i64 af, .bool mark, .slice xa cn xc, .slice ya pn yc] 42)) = W := ⟨_, rfl⟩
  have HBW : Hid (Below w.heap.size w W) := by show Below _ _ _; rw [← hW]; exact (Below.refl _ _).alloc (Nat.le_refl _) _
  rw [hW] at HA0
  have HQW : Hid (QueueAt W S b x Q) := h.below HBW.out
  have hblt : b < w.heap.size := h.lt
  have hlt : w.heap.size ≠ b := by omega
  obtain ⟨z, hz⟩ : ∃ z, (Q.first + n) % Q.room = z := ⟨_, rfl⟩
  have hzr : z < Q.room := by rw [← hz]; exact Nat.mod_lt _ (by have := HL.out; omega)
  have HAT : Hid (∀ w', Below W.heap.size W w' → Calls Try.prog 41 #[.pointer (some ⟨b, 0, none⟩), .int .i64 n] w' fun e w'' => e = .returned (.pointer (some ⟨b, 2 + z * 5, none⟩)) ∧ ∃ k, w'' = w'.drewN k) := fun w' hb => by
    have := at_any b n x Q w' S (HQW.out.below hb) (by have := HL.out; omega) (by have := HL.out; omega)
    rw [hz] at this
    exact this
  obtain ⟨o, ho⟩ : ∃ o, 2 + z * 5 = o := ⟨_, rfl⟩
  rw [ho] at HAT
  have hom : o + 5 ≤ 162 := by omega
  have HO : Hid (2 + (Q.first + n) % Q.room * 5 = o) := by show _ = _; rw [hz]; exact ho
  obtain ⟨q0, q1, q2, q3, q4⟩ := cells_5 HA0.out
  have c4 : W.cell? ⟨b, 164, none⟩ = some (.int .i64 n) := by have := HQW.out.count; rw [hn] at this; exact this
  have k0 : ∀ (w' : World) (v : Value), (w'.setCell ⟨b, o, none⟩ v).cell? ⟨b, 164, none⟩ = w'.cell? ⟨b, 164, none⟩ := fun w' v => cell_neq (by omega)
  have k1 : ∀ (w' : World) (v : Value), (w'.setCell ⟨b, o + 1, none⟩ v).cell? ⟨b, 164, none⟩ = w'.cell? ⟨b, 164, none⟩ := fun w' v => cell_neq (by omega)
  have k2 : ∀ (w' : World) (v : Value), (w'.setCell ⟨b, o + 2, none⟩ v).cell? ⟨b, 164, none⟩ = w'.cell? ⟨b, 164, none⟩ := fun w' v => cell_neq (by omega)
  have k3 : ∀ (w' : World) (v : Value), (w'.setCell ⟨b, o + 3, none⟩ v).cell? ⟨b, 164, none⟩ = w'.cell? ⟨b, 164, none⟩ := fun w' v => cell_neq (by omega)
  have k4 : ∀ (w' : World) (v : Value), (w'.setCell ⟨b, o + 4, none⟩ v).cell? ⟨b, 164, none⟩ = w'.cell? ⟨b, 164, none⟩ := fun w' v => cell_neq (by omega)
  obtain ⟨y0, d0⟩ := HQW.out.cells o (by omega)
  obtain ⟨y1, d1⟩ := HQW.out.cells (o + 1) (by omega)
  obtain ⟨y2, d2⟩ := HQW.out.cells (o + 2) (by omega)
  obtain ⟨y3, d3⟩ := HQW.out.cells (o + 3) (by omega)
  obtain ⟨y4, d4⟩ := HQW.out.cells (o + 4) (by omega)
  obtain ⟨y5, d5⟩ := HQW.out.cells 165 (by omega)
  have f0 : ∀ o, W.frozen? ⟨b, o, none⟩ = false := HQW.out.free
  clear h h1 h2 hs hst hl hn hz ho hcn hpn
  go_enter Try.func34, Try.ntmps34
  go_wp2_with fail
  go_region_held3 (fun w' => w'.cell? ⟨w.heap.size, 0, none⟩ = some (.int .i64 st) ∧ w'.cell? ⟨w.heap.size, 1, none⟩ = some (.int .i64 af) ∧ w'.cell? ⟨w.heap.size, 2, none⟩ = some (.bool mark) ∧ w'.cell? ⟨w.heap.size, 3, none⟩ = some (.slice xa cn xc) ∧ w'.cell? ⟨w.heap.size, 4, none⟩ = some (.slice ya pn yc) ∧ w'.cell? ⟨b, 164, none⟩ = some (.int .i64 n)) (first | (simp only [World.cell?_drew, World.cell?_drewN, cellN hlt, k0, k1, k2, k3, k4, q0, q1, q2, q3, q4, c4, and_self]; done) | fail)
    (first
    | (go_at_call 41; refine (HAT.out _ (by first | exact below_drewN (Below.refl _ _) _ | exact below_drew (Below.refl _ _) | exact Below.refl _ _)).mono ?_
       rintro e' w4 ⟨rfl, j4, rfl⟩))
  have HQD : Hid (QueueAt (W.drewN (1 + j4)) S b x Q) := drewN_keep HQW.out _
  obtain ⟨arr, hba, hsa⟩ := HQD.out.box
  obtain ⟨arr', hg', hs', e0, e1, e2, e3, e4, hoth⟩ := at_s5 (o := o) (x0 := .int .i64 st) (x1 := .int .i64 af) (x2 := .bool mark) (x3 := .slice xa cn xc) (x4 := .slice ya pn yc) hba (by omega)
  have hcX : Chg (W.drewN (1 + j4)) _ (fun j => j = b) := chg_s5 (W.drewN (1 + j4)) b o (.int .i64 st) (.int .i64 af) (.bool mark) (.slice xa cn xc) (.slice ya pn yc)
  obtain ⟨X, hX⟩ : ∃ X, set_5 (W.drewN (1 + j4)) b o (.int .i64 st) (.int .i64 af) (.bool mark) (.slice xa cn xc) (.slice ya pn yc) = X := ⟨_, rfl⟩
  rw [hX] at hg' hcX
  have HG : Hid (X.heap[b]? = some (.cells arr' 65 (0, 0))) := hg'
  have HZ : Hid (arr'.size = 166) := by show _ = _; rw [hs', hsa]
  have HE : Hid (arr'[o]? = some (.int .i64 st) ∧ arr'[o + 1]? = some (.int .i64 af) ∧ arr'[o + 2]? = some (.bool mark) ∧ arr'[o + 3]? = some (.slice xa cn xc) ∧ arr'[o + 4]? = some (.slice ya pn yc)) := ⟨e0, e1, e2, e3, e4⟩
  have HOTH : Hid (∀ i v, w.cell? ⟨b, i, none⟩ = some v → (i < o ∨ o + 5 ≤ i) → arr'[i]? = some v) := fun i v hv hi => by
    rw [hoth i hi, ← cell_of hba]
    show (W.drewN (1 + j4)).cell? ⟨b, i, none⟩ = some v
    rw [World.cell?_drewN, HBW.out.cell (p := ⟨b, i, none⟩) hblt]
    exact hv
  have HCX : Hid (Chg w X (fun j => j = b)) := (Chg.of_below (below_drewN HBW.out _) _).trans hcX
  have HBX : Hid (X.heap[w.heap.size]? = some (.cells #[.int .i64 st, .int .i64 af, .bool mark, .slice xa cn xc, .slice ya pn yc] 42 (0, 0))) := by
    have h1 := hcX.block w.heap.size (lt_of_blk (show (W.drewN (1 + j4)).heap[w.heap.size]? = _ from HA0.out)) hlt
    show X.heap[w.heap.size]? = _
    rw [h1]
    exact HA0.out
  have g164 : X.cell? ⟨b, 164, none⟩ = some (.int .i64 n) := by
    rw [cell_of HG.out]
    exact HOTH.out 164 _ (by have := HQ.out.count; rw [HN.out] at this; exact this) (by omega)
  have f1 := free_of HG.out
  have HG2 : Hid ((X.setCell ⟨b, 164, none⟩ (.int .i64 ((n : Int) + 1))).heap[b]? = some (.cells (arr'.setIfInBounds 164 (.int .i64 ((n : Int) + 1))) 65 (0, 0))) := set_at HG.out
  obtain ⟨y6, g165⟩ : ∃ y, (X.setCell ⟨b, 164, none⟩ (.int .i64 ((n : Int) + 1))).cell? ⟨b, 165, none⟩ = some y := ⟨(arr'.setIfInBounds 164 (.int .i64 ((n : Int) + 1)))[165]'(by rw [Array.size_setIfInBounds, HZ.out]; omega), by rw [cell_of HG2.out]; exact Array.getElem?_eq_getElem _⟩
  have f2 := free_of HG2.out
  obtain ⟨r0, r1, r2, r3, r4⟩ := cells_5 (other_blk (v := .int .i64 ((n : Int) + 1)) (i := 164) HBX.out hlt)
  have hnn : n ≤ 32 := by have := HL.out; omega
  clear hba hsa hg' hs' e0 e1 e2 e3 e4 hoth hcX c4 k0 k1 k2 k3 k4 d0 d1 d2 d3 d4 d5 q0 q1 q2 q3 q4 f0
  have hX' : ((((((W.drewN (1 + j4)).setCell ⟨b, o, none⟩ (.int .i64 st)).setCell ⟨b, o + 1, none⟩ (.int .i64 af)).setCell ⟨b, o + 2, none⟩ (.bool mark)).setCell ⟨b, o + 3, none⟩ (.slice xa cn xc)).setCell ⟨b, o + 4, none⟩ (.slice ya pn yc)) = X := hX
  rw [hX']
  clear hX hX'
  go_wp2_with fail
  refine bodyPost_end (results_none rfl _ _ _) rfl ⟨rfl, ?_, (HCX.out.trans (Chg.set _ _ _)).trans (Chg.set _ _ _)⟩
  have HG3 := set_at (o := 165) (x := .int .i64 st) HG2.out
  have hn' := HN.out
  have ho' := HO.out
  have hKp : Kp w _ S := Kp.of_chg ((HCX.out.trans (Chg.set _ ⟨b, 164, none⟩ (.int .i64 ((n : Int) + 1)))).trans (Chg.set _ ⟨b, 165, none⟩ (.int .i64 st))) (fun j _ hj e => HQ.out.out (by have e : j = b := e; rw [← e]; exact hj))
  have hat : ∀ i v, arr'[i]? = some v → i ≠ 164 → i ≠ 165 → ((X.setCell ⟨b, 164, none⟩ (.int .i64 ((n : Int) + 1))).setCell ⟨b, 165, none⟩ (.int .i64 st)).cell? ⟨b, i, none⟩ = some v := fun i v hv h1 h2 => by
    rw [cell_of HG3, Array.getElem?_setIfInBounds_ne (Ne.symm h2), Array.getElem?_setIfInBounds_ne (Ne.symm h1)]
    exact hv
  refine QueueAt.pushed (u1 := .slice xa cn xc) (u2 := .slice ya pn yc) HQ.out (by rw [hn']; exact HL.out) ((HCX.out.trans (Chg.set _ _ _)).trans (Chg.set _ _ _)) HST.out HS.out ⟨_, HG3, by simp [HZ.out]⟩ ?_ ?_ ?_ ?_
  · intro i v hv hi h1 h2
    rw [hn', ho'] at hi
    exact hat i v (HOTH.out i v hv hi) h1 h2
  · rw [cell_of HG3, Array.getElem?_setIfInBounds_ne (by omega), Array.getElem?_setIfInBounds_self, hn']
    simp [HZ.out]
  · rw [cell_of HG3, Array.getElem?_setIfInBounds_self]
    simp [HZ.out]
  · rw [hn', ho']
    obtain ⟨e0, e1, e2, e3, e4⟩ := HE.out
    exact ⟨hat _ _ e0 (by omega) (by omega), hat _ _ e1 (by omega) (by omega), hat _ _ e2 (by omega) (by omega), hat _ _ e3 (by omega) (by omega), hat _ _ e4 (by omega) (by omega), TgsAt.keep H1.out hKp, PasAt.keep H2.out hKp⟩
end Go.Proofs.Ytlidkieljiebiaa
