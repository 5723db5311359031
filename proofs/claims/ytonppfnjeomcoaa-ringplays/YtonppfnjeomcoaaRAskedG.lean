/-
  asked, stands, at any ring.
-/
import Derived.Test.YtonppfnjeomcoaaRRef4
import Derived.Test.YtonppfnjeomcoaaRPlayed
namespace Go.Proofs.Ytonppfnjeomcoaa
open Go.RowKit Classical
set_option linter.unusedVariables false
set_option linter.unusedSimpArgs false

theorem small_max {e : EnT} (h : e.Small) : e.ops.length ≤ maxLen := by have := h.len; unfold maxLen; omega
theorem atE_small {R : RingT} (h : ∀ e ∈ R.l, e.Small) (n : Int) : (R.atE n).Small := by
  unfold RingT.atE
  split
  · exact ⟨by show 0 * 56 ≤ 140737488355328; decide, fun o ho => by cases ho⟩
  · cases hq : R.l[(n - R.floor - 1).toNat]? with
    | none => exact ⟨by show 0 * 56 ≤ 140737488355328; decide, fun o ho => by cases ho⟩
    | some e => exact h e (List.mem_of_getElem? hq)
set_option maxHeartbeats 3200000 in
set_option maxRecDepth 100000 in
theorem asked_atG {w0 : World} (b bx : Nat) (A : ActT) (x : Value) (st : Int) (w : World) {R : RingT} {F : Nat} {O : Int} {H : List EnT} {P : List PEnt} {la : Option Addr} {lc : Nat} (h : RingAt w b R) (hx : RefAt w0 w bx R F O H P la lc) (hk : A.kd = 7 ∨ A.kd = 8 ∨ A.kd = 12) :
    Calls Try.prog 46 #[.pointer (some ⟨b, 0, none⟩), .pointer (some ⟨bx, 0, none⟩), A.val x, .int .i64 st] w fun e' w' => e' = .returned (.bool true) ∧ Below w.heap.size w w' := by
  obtain ⟨kd, N, M, e⟩ := A
  have HA : Hid (∀ w', Below w.heap.size w w' → _) := fun w' hb => atT_any (some ⟨b, 0, none⟩) R st w' (.inr ⟨b, rfl, h.below hb⟩)
  have HX : Hid (∀ w', Below w.heap.size w w' → _) := fun w' hb => rAt w' bx st (hx.below hb)
  obtain ⟨C, hC⟩ : ∃ C, R.atC st = C := ⟨_, rfl⟩
  have HSM : Hid ((R.atE st).Small) := atE_small h.ok.small st
  obtain ⟨E, hE⟩ : ∃ E, R.atE st = E := ⟨_, rfl⟩
  rw [hC, hE] at HA HX
  rw [hE] at HSM
  clear h hx hC hE
  obtain ⟨s, v, k, se, rq, ops⟩ := E
  simp only at hk
  rcases hk with rfl | rfl | rfl
  all_goals
    go_enter Try.func46, Try.ntmps46
    go_wp2_with fail
    refine Calls.mono (HA.out _ ((Below.refl _ _).alloc (Nat.le_refl _) _)) ?_
    rintro e' w1 ⟨y, rfl, ho1, hb1, -⟩
    obtain ⟨ya, yc, rfl, -, -⟩ := owns_form ho1
    have HB1 : Hid (Below w.heap.size w w1) := trans2 ((Below.refl _ _).alloc (Nat.le_refl _) _) hb1
    have HR1 : Hid (Rd w1 ⟨⟨s, v, k, se, rq, ops⟩, .slice ya ops.length yc⟩) := ⟨⟨ya, yc, rfl, os_of_own ho1⟩, small_max HSM.out⟩
    clear hb1 ho1
    go_wp2_with fail
    refine Calls.mono (HX.out _ (HB1.out.alloc HB1.out.size _)) ?_
    rintro e' w2 ⟨z, rfl, hr2, hb2⟩
    obtain ⟨za, zc, hz, -⟩ := hr2.x
    simp only at hz
    subst hz
    have HE2 : Hid (w2.heap[w1.heap.size]? = some (.cells #[.int .i64 s, .int .i64 v, .int .i64 k, .int .i64 se, .int .i64 rq, .slice ya ops.length yc] 33 (0, 0))) := kept_block hb2 (heap_alloc_new _ _)
    have HB2 : Hid (Below w.heap.size w w2) := trans2 (HB1.out.alloc HB1.out.size _) hb2
    have HR2 : Hid (Rd w2 ⟨⟨s, v, k, se, rq, ops⟩, .slice za ops.length zc⟩) := hr2
    have HR12 : Hid (Rd w2 ⟨⟨s, v, k, se, rq, ops⟩, .slice ya ops.length yc⟩) := HR1.out.below (trans2 ((Below.refl _ _).alloc (Nat.le_refl _) _) hb2)
    obtain ⟨e0, e1, e2, e3, e4, e5⟩ := cells_6 HE2.out
    have hl2 : w1.heap.size < w2.heap.size := lt_of_blk HE2.out
    have hA0 : ∀ (ob : Obj) (o : Nat), (w2.alloc ob).cell? ⟨w1.heap.size, o, none⟩ = w2.cell? ⟨w1.heap.size, o, none⟩ := fun ob o => ((Below.refl _ w2).alloc (Nat.le_refl _) ob).cell (p := ⟨w1.heap.size, o, none⟩) hl2
    have HSA : Hid (∀ w', Below w2.heap.size w2 w' → _) := fun w' hb => same_any ⟨⟨s, v, k, se, rq, ops⟩, .slice ya ops.length yc⟩ ⟨⟨s, v, k, se, rq, ops⟩, .slice za ops.length zc⟩ w' (HR12.out.below hb) (HR2.out.below hb)
    simp only [decide_true] at HSA
    clear hb2 hr2
    go_wp2_with fail
    refine Calls.mono (HSA.out _ ((Below.refl _ _).alloc (Nat.le_refl _) _)) ?_
    rintro e' w3 ⟨rfl, hb3⟩
    have HB3 : Hid (Below w.heap.size w w3) := trans2 (HB2.out.alloc HB2.out.size _) hb3
    clear hb3
    go_wp2_with fail
    go_ret
    exact ⟨rfl, HB3.out⟩
theorem ents_small {R : RingT} (h : ∀ e ∈ R.l, e.Small) (n most : Int) : ∀ e ∈ R.afterL n most, e.Small := by
  intro e he
  unfold RingT.afterL at he
  split at he
  · exact h e (List.mem_of_mem_drop (List.mem_of_mem_take he))
  · cases he
theorem afterL_len {R : RingT} (h : R.l.length ≤ 64) (n most : Int) : (R.afterL n most).length ≤ 64 := by
  unfold RingT.afterL
  split
  · rw [List.length_take, List.length_drop]; omega
  · exact Nat.zero_le _
set_option maxHeartbeats 3200000 in
set_option maxRecDepth 100000 in
theorem asked_afterG {w0 : World} (b bx : Nat) (A : ActT) (x : Value) (st : Int) (w : World) {R : RingT} {F : Nat} {O : Int} {H : List EnT} {P : List PEnt} {la : Option Addr} {lc : Nat} (h : RingAt w b R) (hx : RefAt w0 w bx R F O H P la lc) (h7 : A.kd ≠ 7) (h8 : A.kd ≠ 8) (h12 : A.kd ≠ 12) :
    Calls Try.prog 46 #[.pointer (some ⟨b, 0, none⟩), .pointer (some ⟨bx, 0, none⟩), A.val x, .int .i64 st] w fun e' w' => e' = .returned (.bool true) ∧ Below w.heap.size w w' := by
  obtain ⟨kd, N, M, e⟩ := A
  have HA : Hid (∀ w', Below w.heap.size w w' → _) := fun w' hb => after_any (some ⟨b, 0, none⟩) R st M w' (.inr ⟨b, rfl, h.below hb⟩)
  have HX : Hid (∀ w', Below w.heap.size w w' → _) := fun w' hb => rAfter w' bx st M (hx.below hb)
  obtain ⟨C, hC⟩ : ∃ C, R.afterC st M = C := ⟨_, rfl⟩
  have HSM : Hid (∀ e ∈ R.afterL st M, e.Small) := ents_small h.ok.small st M
  have HLN : Hid ((R.afterL st M).length ≤ 64) := afterL_len (by have h1 := h.ok.fits; have h2 := h.ok.room; omega) st M
  obtain ⟨E, hE⟩ : ∃ E, R.afterL st M = E := ⟨_, rfl⟩
  rw [hC, hE] at HA HX
  rw [hE] at HSM HLN
  have g7 : (kd == 7) = false := by simpa using h7
  have g8 : (kd == 8) = false := by simpa using h8
  have g12 : (kd == 12) = false := by simpa using h12
  clear h hx hC hE h7 h8 h12
  go_enter Try.func46, Try.ntmps46
  go_wp2_with fail
  refine Calls.mono (HA.out _ ((Below.refl _ _).alloc (Nat.le_refl _) _)) ?_
  rintro e' w1 ⟨v1, P1, rfl, hp1, he1, hb1⟩
  obtain ⟨ya, yc, rfl, hes1⟩ := ents_form he1 (fun p hp => small_max (HSM.out p.e (by rw [← hp1]; exact List.mem_map_of_mem hp)))
  have HB1 : Hid (Below w.heap.size w w1) := trans2 ((Below.refl _ _).alloc (Nat.le_refl _) _) hb1
  have HP1 : Hid (w1.heap[w.heap.size]? = some (.cells #[.int .i64 kd, .int .i64 N, .int .i64 M, .int .i64 e.s, .int .i64 e.v, .int .i64 e.k, .int .i64 e.se, .int .i64 e.rq, x] 55 (0, 0))) := kept_block hb1 (heap_alloc_new _ _)
  have m2 : w1.cell? ⟨w.heap.size, 2, none⟩ = some (.int .i64 M) := by rw [cell_blk HP1.out]; rfl
  have HE1 : Hid (EsAt w1 ya P1 ∧ P1.map (·.e) = E) := ⟨hes1, hp1⟩
  have hn1 : P1.length = E.length := by rw [← hp1, List.length_map]
  rw [hn1]
  clear hb1 he1 hes1 hp1
  go_wp2_with fail
  refine Calls.mono (HX.out _ HB1.out) ?_
  rintro e' w2 ⟨v2, P2, rfl, hp2, he2, hb2⟩
  obtain ⟨za, zc, rfl, hes2⟩ := ents_form he2 (fun p hp => small_max (HSM.out p.e (by rw [← hp2]; exact List.mem_map_of_mem hp)))
  have HB2 : Hid (Below w.heap.size w w2) := trans2 HB1.out hb2
  have HE12 : Hid (EsAt w2 ya P1) := HE1.out.1.below hb2
  have HE2 : Hid (EsAt w2 za P2) := hes2
  have hn2 : P2.length = E.length := by rw [← hp2, List.length_map]
  have HSA : Hid (∀ w', Below w2.heap.size w2 w' → _) := fun w' hb => sameAll_any ya za yc zc E.length E.length P1 P2 w' (HE12.out.below hb) (HE2.out.below hb) hn1 hn2 (by have := HLN.out; unfold maxLen; omega)
  rw [show decide (P1.map (·.e) = P2.map (·.e)) = true from decide_eq_true (by rw [HE1.out.2, hp2])] at HSA
  rw [hn2]
  clear hb2 he2 hes2 hp2 hn1 hn2
  go_wp2_with fail
  refine Calls.mono (HSA.out _ (Below.refl _ _)) ?_
  rintro e' w3 ⟨rfl, hb3⟩
  have HB3 : Hid (Below w.heap.size w w3) := trans2 HB2.out hb3
  clear hb3
  go_wp2_with fail
  go_ret
  exact ⟨rfl, HB3.out⟩
theorem askedG {w0 : World} (b bx : Nat) (A : ActT) (x : Value) (st : Int) (w : World) {R : RingT} {F : Nat} {O : Int} {H : List EnT} {P : List PEnt} {la : Option Addr} {lc : Nat} (h : RingAt w b R) (hx : RefAt w0 w bx R F O H P la lc) :
    Calls Try.prog 46 #[.pointer (some ⟨b, 0, none⟩), .pointer (some ⟨bx, 0, none⟩), A.val x, .int .i64 st] w fun e' w' => e' = .returned (.bool true) ∧ Below w.heap.size w w' := by
  by_cases h7 : A.kd = 7
  · exact asked_atG b bx A x st w h hx (.inl h7)
  by_cases h8 : A.kd = 8
  · exact asked_atG b bx A x st w h hx (.inr (.inl h8))
  by_cases h12 : A.kd = 12
  · exact asked_atG b bx A x st w h hx (.inr (.inr h12))
  exact asked_afterG b bx A x st w h hx h7 h8 h12
set_option maxHeartbeats 3200000 in
set_option maxRecDepth 100000 in
theorem standsG {w0 : World} (b bx : Nat) (w : World) {R : RingT} {F : Nat} {O : Int} {H : List EnT} {P : List PEnt} {la : Option Addr} {lc : Nat} (h : RingAt w b R) (hx : RefAt w0 w bx R F O H P la lc) :
    Calls Try.prog 25 #[.pointer (some ⟨b, 0, none⟩), .pointer (some ⟨bx, 0, none⟩)] w fun e' w' => e' = .returned (.bool true) ∧ Below w.heap.size w w' := by
  have HF : Hid (∀ w', Below w.heap.size w w' → _) := fun w' hb => floor_any (some ⟨b, 0, none⟩) R w' (.inr ⟨b, rfl, h.below hb⟩)
  have HL : Hid (∀ w', Below w.heap.size w w' → _) := fun w' hb => last_any (some ⟨b, 0, none⟩) R w' (.inr ⟨b, rfl, h.below hb⟩)
  have HXF : Hid (∀ w', Below w.heap.size w w' → _) := fun w' hb => rFloor w' bx (hx.below hb)
  have HXL : Hid (∀ w', Below w.heap.size w w' → _) := fun w' hb => rLast w' bx (hx.below hb)
  have HA : Hid (∀ w', Below w.heap.size w w' → _) := fun w' hb => all_any (some ⟨b, 0, none⟩) R w' (.inr ⟨b, rfl, h.below hb⟩)
  have HXA : Hid (∀ w', Below w.heap.size w w' → _) := fun w' hb => rAll w' bx (hx.below hb)
  have HSM : Hid (∀ e ∈ R.l, e.Small) := h.ok.small
  have HLN : Hid (R.l.length ≤ 64) := by have h1 := h.ok.fits; have h2 := h.ok.room; show _ ≤ _; omega
  obtain ⟨fl, hfl⟩ : ∃ fl : Nat, R.floor = fl := ⟨_, rfl⟩
  obtain ⟨of, hof⟩ : ∃ of : Int, R.of = of := ⟨_, rfl⟩
  obtain ⟨L, hL⟩ : ∃ L : Nat, R.last = L := ⟨_, rfl⟩
  obtain ⟨T, hT⟩ : ∃ T : Int, R.top = T := ⟨_, rfl⟩
  obtain ⟨K, hK⟩ : ∃ K : Nat, R.l.length = K := ⟨_, rfl⟩
  rw [hfl, hof] at HF HXF
  rw [hL, hT] at HL HXL
  rw [hK] at HXA HLN
  have HK : Hid (R.l.length = K) := hK
  clear h hx hfl hof hL hT hK
  go_enter Try.func25, Try.ntmps25
  go_wp2_with fail
  refine Calls.mono (HF.out _ (Below.refl _ _)) ?_
  rintro e' w1 ⟨rfl, hb1⟩
  have HB1 : Hid (Below w.heap.size w w1) := hb1
  clear hb1
  go_wp2_with fail
  refine Calls.mono (HL.out _ HB1.out) ?_
  rintro e' w2 ⟨rfl, hb2⟩
  have HB2 : Hid (Below w.heap.size w w2) := trans2 HB1.out hb2
  clear hb2
  go_wp2_with fail
  refine Calls.mono (HXF.out _ HB2.out) ?_
  rintro e' w3 ⟨rfl, hb3⟩
  have HB3 : Hid (Below w.heap.size w w3) := trans2 HB2.out hb3
  clear hb3
  go_wp2_with fail
  refine Calls.mono (HXL.out _ HB3.out) ?_
  rintro e' w4 ⟨rfl, hb4⟩
  have HB4 : Hid (Below w.heap.size w w4) := trans2 HB3.out hb4
  clear hb4
  go_wp2_with fail
  refine Calls.mono (HA.out _ HB4.out) ?_
  rintro e' w5 ⟨v5, P5, rfl, hp5, he5, hb5⟩
  obtain ⟨ya, yc, rfl, hes5⟩ := ents_form he5 (fun p hp => small_max (HSM.out p.e (by rw [← hp5]; exact List.mem_map_of_mem hp)))
  have hn5 : P5.length = K := by rw [← HK.out, ← hp5, List.length_map]
  rw [hn5]
  have HB5 : Hid (Below w.heap.size w w5) := trans2 HB4.out hb5
  have HE5 : Hid (EsAt w5 ya P5 ∧ P5.map (·.e) = R.l ∧ P5.length = K) := ⟨hes5, hp5, hn5⟩
  clear hb5 he5 hes5 hp5 hn5
  go_wp2_with fail
  refine Calls.mono (HXA.out _ HB5.out) ?_
  rintro e' w6 ⟨za, zc, Q, rfl, hq6, hes6, hb6⟩
  have HB6 : Hid (Below w.heap.size w w6) := trans2 HB5.out hb6
  have HE56 : Hid (EsAt w6 ya P5) := HE5.out.1.below hb6
  have HE6 : Hid (EsAt w6 za Q) := hes6
  have HSA : Hid (∀ w', Below w6.heap.size w6 w' → _) := fun w' hb => sameAll_any ya za yc zc K K P5 Q w' (HE56.out.below hb) (HE6.out.below hb) HE5.out.2.2 (by rw [← HK.out, ← hq6, List.length_map]) (by have := HLN.out; unfold maxLen; omega)
  rw [show decide (P5.map (·.e) = Q.map (·.e)) = true from decide_eq_true (by rw [HE5.out.2.1, hq6])] at HSA
  clear hb6 hes6 hq6
  go_wp2_with fail
  refine Calls.mono (HSA.out _ (Below.refl _ _)) ?_
  rintro e' w7 ⟨rfl, hb7⟩
  have HB7 : Hid (Below w.heap.size w w7) := trans2 HB6.out hb7
  clear hb7
  go_wp2_with fail
  go_ret
  exact ⟨rfl, HB7.out⟩
end Go.Proofs.Ytonppfnjeomcoaa
