/-
  asked, stands, at rings without room.
-/
import Derived.Test.YtonppfnjeomcoaaRApp1
namespace Go.Proofs.Ytonppfnjeomcoaa
open Go.RowKit Classical
set_option linter.unusedVariables false
set_option linter.unusedSimpArgs false

/-- An act. -/
structure ActT where
  kd : Int
  n : Int
  m : Int
  e : EnT
abbrev ActT.val (A : ActT) (x : Value) : Value := .agg #[.int .i64 A.kd, .int .i64 A.n, .int .i64 A.m, .int .i64 A.e.s, .int .i64 A.e.v, .int .i64 A.e.k, .int .i64 A.e.se, .int .i64 A.e.rq, x]
theorem zero_atE (n : Int) : zeroR.atE n = zeroE := by
  unfold RingT.atE
  split
  · rfl
  · rfl
theorem zero_afterL (n most : Int) : zeroR.afterL n most = [] := by
  unfold RingT.afterL
  split
  · show (List.drop _ ([] : List EnT)).take _ = []
    simp
  · rfl
theorem at_zero (p : Option Addr) (n : Int) (w : World) (h : RP w p zeroR) : Calls Try.prog 18 #[.pointer p, .int .i64 n] w fun e' w' => ∃ a c, e' = .returned (.tuple #[.agg #[.int .i64 0, .int .i64 0, .int .i64 0, .int .i64 0, .int .i64 0, .slice a 0 c], .int .i64 (zeroR.atC n)]) ∧ Below w.heap.size w w' := by
  refine (atT_any p zeroR n w h).mono ?_
  rintro e' w' ⟨x, rfl, ho, hb, -⟩
  rw [zero_atE] at ho ⊢
  obtain ⟨a, c, rfl, -⟩ := owns_form ho
  exact ⟨a, c, rfl, hb⟩
theorem after_zero (p : Option Addr) (n most : Int) (w : World) (h : RP w p zeroR) : Calls Try.prog 19 #[.pointer p, .int .i64 n, .int .i64 most] w fun e' w' => ∃ a c, e' = .returned (.tuple #[.slice a 0 c, .int .i64 (zeroR.afterC n most)]) ∧ Below w.heap.size w w' := by
  refine (after_any p zeroR n most w h).mono ?_
  rintro e' w' ⟨v, P, rfl, hP, hE, hb⟩
  rw [zero_afterL] at hP
  obtain rfl : P = [] := List.map_eq_nil_iff.1 hP
  obtain ⟨a, c, rfl, -⟩ := owns_form hE.row
  exact ⟨a, c, rfl, hb⟩
theorem all_zero (p : Option Addr) (w : World) (h : RP w p zeroR) : Calls Try.prog 11 #[.pointer p] w fun e' w' => ∃ a c, e' = .returned (.tuple #[.slice a 0 c, .bool true]) ∧ Below w.heap.size w w' := by
  refine (all_any p zeroR w h).mono ?_
  rintro e' w' ⟨v, P, rfl, hP, hE, hb⟩
  obtain rfl : P = [] := List.map_eq_nil_iff.1 hP
  obtain ⟨a, c, rfl, -⟩ := owns_form hE.row
  exact ⟨a, c, rfl, hb⟩
theorem same_zero (a a' : Option Addr) (c c' : Nat) (w : World) : Calls Try.prog 13 #[.agg #[.int .i64 0, .int .i64 0, .int .i64 0, .int .i64 0, .int .i64 0, .slice a 0 c], .agg #[.int .i64 0, .int .i64 0, .int .i64 0, .int .i64 0, .int .i64 0, .slice a' 0 c']] w fun e w' => e = .returned (.bool true) ∧ Below w.heap.size w w' := by
  refine (same_any ⟨zeroE, .slice a 0 c⟩ ⟨zeroE, .slice a' 0 c'⟩ w ⟨⟨a, c, rfl, .inl rfl⟩, Nat.zero_le _⟩ ⟨⟨a', c', rfl, .inl rfl⟩, Nat.zero_le _⟩).mono ?_
  rintro e w' ⟨rfl, hb⟩
  exact ⟨by rw [decide_eq_true rfl], hb⟩
theorem sameAll_zero (a a' : Option Addr) (c c' : Nat) (w : World) : Calls Try.prog 20 #[.slice a 0 c, .slice a' 0 c'] w fun e w' => e = .returned (.bool true) ∧ Below w.heap.size w w' := by
  refine (sameAll_any a a' c c' 0 0 [] [] w ⟨.inl rfl, fun p hp => (by cases hp)⟩ ⟨.inl rfl, fun p hp => (by cases hp)⟩ rfl rfl (Nat.zero_le _)).mono ?_
  rintro e w' ⟨rfl, hb⟩
  exact ⟨by rw [decide_eq_true rfl], hb⟩
set_option maxHeartbeats 3200000 in
set_option maxRecDepth 100000 in
theorem asked_at (p : Option Addr) (bx : Nat) (A : ActT) (x : Value) (st : Int) (w : World) (h : RP w p zeroR) (hx : XZ w bx) (hk : A.kd = 7 ∨ A.kd = 8 ∨ A.kd = 12) :
    Calls Try.prog 46 #[.pointer p, .pointer (some ⟨bx, 0, none⟩), A.val x, .int .i64 st] w fun e' w' => e' = .returned (.bool true) ∧ Below w.heap.size w w' := by
  obtain ⟨kd, N, M, e⟩ := A
  have HA : Hid (∀ w', Below w.heap.size w w' → _) := fun w' hb => at_zero p st w' (h.below hb)
  have HX : Hid (∀ w', Below w.heap.size w w' → _) := fun w' hb => xAt bx st w' (hx.below hb)
  obtain ⟨C, hC⟩ : ∃ C, zeroR.atC st = C := ⟨_, rfl⟩
  rw [hC] at HA HX
  clear h hx hC
  simp only at hk
  go_enter Try.func46, Try.ntmps46
  rcases hk with rfl | rfl | rfl
  · go_wp2_with fail
    refine Calls.mono (HA.out _ ((Below.refl _ _).alloc (Nat.le_refl _) _)) ?_
    rintro e' w1 ⟨ya, yc, rfl, hb1⟩
    have HB1 : Hid (Below w.heap.size w w1) := trans2 ((Below.refl _ _).alloc (Nat.le_refl _) _) hb1
    clear hb1
    go_wp2_with fail
    refine Calls.mono (HX.out _ (HB1.out.alloc HB1.out.size _)) ?_
    rintro e' w2 ⟨rfl, hb2⟩
    have HE2 : Hid (w2.heap[w1.heap.size]? = some (.cells #[.int .i64 0, .int .i64 0, .int .i64 0, .int .i64 0, .int .i64 0, .slice ya 0 yc] 33 (0, 0))) := kept_block hb2 (heap_alloc_new _ _)
    have HB2 : Hid (Below w.heap.size w w2) := trans2 (HB1.out.alloc HB1.out.size _) hb2
    obtain ⟨e0, e1, e2, e3, e4, e5⟩ := cells_6 HE2.out
    have hl2 : w1.heap.size < w2.heap.size := lt_of_blk HE2.out
    have hA0 : ∀ (ob : Obj) (o : Nat), (w2.alloc ob).cell? ⟨w1.heap.size, o, none⟩ = w2.cell? ⟨w1.heap.size, o, none⟩ := fun ob o => ((Below.refl _ w2).alloc (Nat.le_refl _) ob).cell (p := ⟨w1.heap.size, o, none⟩) hl2
    clear hb2
    go_wp2_with fail
    refine Calls.mono (same_zero ya none yc 0 _) ?_
    rintro e' w3 ⟨rfl, hb3⟩
    have HB3 : Hid (Below w.heap.size w w3) := trans2 (HB2.out.alloc HB2.out.size _) hb3
    clear hb3
    go_wp2_with fail
    go_ret
    exact ⟨rfl, HB3.out⟩
  · go_wp2_with fail
    refine Calls.mono (HA.out _ ((Below.refl _ _).alloc (Nat.le_refl _) _)) ?_
    rintro e' w1 ⟨ya, yc, rfl, hb1⟩
    have HB1 : Hid (Below w.heap.size w w1) := trans2 ((Below.refl _ _).alloc (Nat.le_refl _) _) hb1
    clear hb1
    go_wp2_with fail
    refine Calls.mono (HX.out _ (HB1.out.alloc HB1.out.size _)) ?_
    rintro e' w2 ⟨rfl, hb2⟩
    have HE2 : Hid (w2.heap[w1.heap.size]? = some (.cells #[.int .i64 0, .int .i64 0, .int .i64 0, .int .i64 0, .int .i64 0, .slice ya 0 yc] 33 (0, 0))) := kept_block hb2 (heap_alloc_new _ _)
    have HB2 : Hid (Below w.heap.size w w2) := trans2 (HB1.out.alloc HB1.out.size _) hb2
    obtain ⟨e0, e1, e2, e3, e4, e5⟩ := cells_6 HE2.out
    have hl2 : w1.heap.size < w2.heap.size := lt_of_blk HE2.out
    have hA0 : ∀ (ob : Obj) (o : Nat), (w2.alloc ob).cell? ⟨w1.heap.size, o, none⟩ = w2.cell? ⟨w1.heap.size, o, none⟩ := fun ob o => ((Below.refl _ w2).alloc (Nat.le_refl _) ob).cell (p := ⟨w1.heap.size, o, none⟩) hl2
    clear hb2
    go_wp2_with fail
    refine Calls.mono (same_zero ya none yc 0 _) ?_
    rintro e' w3 ⟨rfl, hb3⟩
    have HB3 : Hid (Below w.heap.size w w3) := trans2 (HB2.out.alloc HB2.out.size _) hb3
    clear hb3
    go_wp2_with fail
    go_ret
    exact ⟨rfl, HB3.out⟩
  · go_wp2_with fail
    refine Calls.mono (HA.out _ ((Below.refl _ _).alloc (Nat.le_refl _) _)) ?_
    rintro e' w1 ⟨ya, yc, rfl, hb1⟩
    have HB1 : Hid (Below w.heap.size w w1) := trans2 ((Below.refl _ _).alloc (Nat.le_refl _) _) hb1
    clear hb1
    go_wp2_with fail
    refine Calls.mono (HX.out _ (HB1.out.alloc HB1.out.size _)) ?_
    rintro e' w2 ⟨rfl, hb2⟩
    have HE2 : Hid (w2.heap[w1.heap.size]? = some (.cells #[.int .i64 0, .int .i64 0, .int .i64 0, .int .i64 0, .int .i64 0, .slice ya 0 yc] 33 (0, 0))) := kept_block hb2 (heap_alloc_new _ _)
    have HB2 : Hid (Below w.heap.size w w2) := trans2 (HB1.out.alloc HB1.out.size _) hb2
    obtain ⟨e0, e1, e2, e3, e4, e5⟩ := cells_6 HE2.out
    have hl2 : w1.heap.size < w2.heap.size := lt_of_blk HE2.out
    have hA0 : ∀ (ob : Obj) (o : Nat), (w2.alloc ob).cell? ⟨w1.heap.size, o, none⟩ = w2.cell? ⟨w1.heap.size, o, none⟩ := fun ob o => ((Below.refl _ w2).alloc (Nat.le_refl _) ob).cell (p := ⟨w1.heap.size, o, none⟩) hl2
    clear hb2
    go_wp2_with fail
    refine Calls.mono (same_zero ya none yc 0 _) ?_
    rintro e' w3 ⟨rfl, hb3⟩
    have HB3 : Hid (Below w.heap.size w w3) := trans2 (HB2.out.alloc HB2.out.size _) hb3
    clear hb3
    go_wp2_with fail
    go_ret
    exact ⟨rfl, HB3.out⟩
set_option maxHeartbeats 3200000 in
set_option maxRecDepth 100000 in
theorem asked_after (p : Option Addr) (bx : Nat) (A : ActT) (x : Value) (st : Int) (w : World) (h : RP w p zeroR) (hx : XZ w bx) (h7 : A.kd ≠ 7) (h8 : A.kd ≠ 8) (h12 : A.kd ≠ 12) :
    Calls Try.prog 46 #[.pointer p, .pointer (some ⟨bx, 0, none⟩), A.val x, .int .i64 st] w fun e' w' => e' = .returned (.bool true) ∧ Below w.heap.size w w' := by
  obtain ⟨kd, N, M, e⟩ := A
  have HA : Hid (∀ w', Below w.heap.size w w' → _) := fun w' hb => after_zero p st M w' (h.below hb)
  have HX : Hid (∀ w', Below w.heap.size w w' → _) := fun w' hb => xAfter bx st M w' (hx.below hb)
  obtain ⟨C, hC⟩ : ∃ C, zeroR.afterC st M = C := ⟨_, rfl⟩
  rw [hC] at HA HX
  have g7 : (kd == 7) = false := by simpa using h7
  have g8 : (kd == 8) = false := by simpa using h8
  have g12 : (kd == 12) = false := by simpa using h12
  clear h hx hC h7 h8 h12
  go_enter Try.func46, Try.ntmps46
  go_wp2_with fail
  refine Calls.mono (HA.out _ ((Below.refl _ _).alloc (Nat.le_refl _) _)) ?_
  rintro e' w1 ⟨ya, yc, rfl, hb1⟩
  have HB1 : Hid (Below w.heap.size w w1) := trans2 ((Below.refl _ _).alloc (Nat.le_refl _) _) hb1
  have HP1 : Hid (w1.heap[w.heap.size]? = some (.cells #[.int .i64 kd, .int .i64 N, .int .i64 M, .int .i64 e.s, .int .i64 e.v, .int .i64 e.k, .int .i64 e.se, .int .i64 e.rq, x] 55 (0, 0))) := kept_block hb1 (heap_alloc_new _ _)
  have m2 : w1.cell? ⟨w.heap.size, 2, none⟩ = some (.int .i64 M) := by rw [cell_blk HP1.out]; rfl
  clear hb1
  go_wp2_with fail
  refine Calls.mono (HX.out _ HB1.out) ?_
  rintro e' w2 ⟨rfl, hb2⟩
  have HB2 : Hid (Below w.heap.size w w2) := trans2 HB1.out hb2
  clear hb2
  go_wp2_with fail
  refine Calls.mono (sameAll_zero ya none yc 0 _) ?_
  rintro e' w3 ⟨rfl, hb3⟩
  have HB3 : Hid (Below w.heap.size w w3) := trans2 HB2.out hb3
  clear hb3
  go_wp2_with fail
  go_ret
  exact ⟨rfl, HB3.out⟩
theorem asked_zero (p : Option Addr) (bx : Nat) (A : ActT) (x : Value) (st : Int) (w : World) (h : RP w p zeroR) (hx : XZ w bx) :
    Calls Try.prog 46 #[.pointer p, .pointer (some ⟨bx, 0, none⟩), A.val x, .int .i64 st] w fun e' w' => e' = .returned (.bool true) ∧ Below w.heap.size w w' := by
  by_cases h7 : A.kd = 7
  · exact asked_at p bx A x st w h hx (.inl h7)
  by_cases h8 : A.kd = 8
  · exact asked_at p bx A x st w h hx (.inr (.inl h8))
  by_cases h12 : A.kd = 12
  · exact asked_at p bx A x st w h hx (.inr (.inr h12))
  exact asked_after p bx A x st w h hx h7 h8 h12
set_option maxHeartbeats 3200000 in
set_option maxRecDepth 100000 in
theorem stands_zero (p : Option Addr) (bx : Nat) (w : World) (h : RP w p zeroR) (hx : XZ w bx) :
    Calls Try.prog 25 #[.pointer p, .pointer (some ⟨bx, 0, none⟩)] w fun e' w' => e' = .returned (.bool true) ∧ Below w.heap.size w w' := by
  have HF : Hid (∀ w', Below w.heap.size w w' → _) := fun w' hb => floor_any p zeroR w' (h.below hb)
  have HL : Hid (∀ w', Below w.heap.size w w' → _) := fun w' hb => last_any p zeroR w' (h.below hb)
  have HXF : Hid (∀ w', Below w.heap.size w w' → _) := fun w' hb => xFloor bx w' (hx.below hb)
  have HXL : Hid (∀ w', Below w.heap.size w w' → _) := fun w' hb => xLast bx w' (hx.below hb)
  have HA : Hid (∀ w', Below w.heap.size w w' → _) := fun w' hb => all_zero p w' (h.below hb)
  have HXA : Hid (∀ w', Below w.heap.size w w' → _) := fun w' hb => xAll bx w' (hx.below hb)
  rw [show ((zeroR.floor : Nat) : Int) = 0 from rfl, show zeroR.of = 0 from rfl] at HF
  rw [show ((zeroR.last : Nat) : Int) = 0 from rfl, show zeroR.top = 0 from rfl] at HL
  clear h hx
  go_enter Try.func25, Try.ntmps25
  go_wp2_with fail
  refine Calls.mono (HF.out _ (Below.refl _ _)) ?_
  rintro e' w1 ⟨rfl, hb1⟩
  have HB1 : Hid (Below w.heap.size w w1) := hb1
  clear hb1
  go_wp2_with fail
  refine Calls.mono (HL.out _ HB1.out) ?_
  rintro e' w2 ⟨rfl, hb2⟩
  have HB2 : Hid (Below w.heap.size w w2) := trans2 HB1.out hb2
  clear hb2
  go_wp2_with fail
  refine Calls.mono (HXF.out _ HB2.out) ?_
  rintro e' w3 ⟨rfl, hb3⟩
  have HB3 : Hid (Below w.heap.size w w3) := trans2 HB2.out hb3
  clear hb3
  go_wp2_with fail
  refine Calls.mono (HXL.out _ HB3.out) ?_
  rintro e' w4 ⟨rfl, hb4⟩
  have HB4 : Hid (Below w.heap.size w w4) := trans2 HB3.out hb4
  clear hb4
  go_wp2_with fail
  refine Calls.mono (HA.out _ HB4.out) ?_
  rintro e' w5 ⟨ya, yc, rfl, hb5⟩
  have HB5 : Hid (Below w.heap.size w w5) := trans2 HB4.out hb5
  clear hb5
  go_wp2_with fail
  refine Calls.mono (HXA.out _ HB5.out) ?_
  rintro e' w6 ⟨rfl, hb6⟩
  have HB6 : Hid (Below w.heap.size w w6) := trans2 HB5.out hb6
  clear hb6
  go_wp2_with fail
  refine Calls.mono (sameAll_zero ya none yc 0 _) ?_
  rintro e' w7 ⟨rfl, hb7⟩
  have HB7 : Hid (Below w.heap.size w w7) := trans2 HB6.out hb7
  clear hb7
  go_wp2_with fail
  go_ret
  exact ⟨rfl, HB7.out⟩
end Go.Proofs.Ytonppfnjeomcoaa
