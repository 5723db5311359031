/-
  ring: New, Floor, Last, mayFollow, Hold.
-/
import Derived.Test.YtnmengoefpdaiaaRRing
namespace Go.Proofs.Ytnmengoefpdaiaa
open Go.RowKit
set_option linter.unusedVariables false
set_option linter.unusedSimpArgs false

def newC (room floor of : Int) : Int := if room < 1 ∨ 64 < room then 1 else if (0 ≤ floor ∧ floor ≤ 2147483647) ∧ (0 ≤ of ∧ of ≤ 2147483647) then 0 else 3
def newR (room floor of : Int) : RingT := ⟨room.toNat, floor.toNat, floor.toNat, of, []⟩
set_option maxHeartbeats 1600000 in
theorem new_ok (room floor of : Int) (w : World) (h0 : ¬ (room < 1 ∨ 64 < room)) (h1 : (0 ≤ floor ∧ floor ≤ 2147483647) ∧ (0 ≤ of ∧ of ≤ 2147483647)) :
    Calls Try.prog 18 #[.int .i64 room, .int .i64 floor, .int .i64 of] w fun e w' => ∃ b, e = .returned (.tuple #[.pointer (some ⟨b, 0, none⟩), .int .i64 0]) ∧ w.heap.size ≤ b ∧ RingAt w' b (newR room floor of) ∧ Below w.heap.size w w' := by
  have hz := (zero_of_info zero_ring).1
  have hs := (zero_of_info zero_ring).2
  obtain ⟨Z, hZ⟩ : ∃ Z, Z = zeroCs := ⟨_, rfl⟩
  rw [← hZ] at hz
  have HZ : Hid (Z = zeroCs) := hZ
  have a0 : ¬ room < 1 := fun h => h0 (.inl h)
  have a1 : ¬ 64 < room := fun h => h0 (.inr h)
  obtain ⟨⟨b0, b1⟩, b2, b3⟩ := h1
  have hsz : Z.size = 389 := by rw [hZ]; exact zeroCs_size
  clear hZ h0
  go_enter Try.func18, Try.ntmps18
  go_wp2_with (first
    | (go_at_call 33; refine (isNumber_any _ _).mono ?_; rintro e w1 ⟨rfl, rfl⟩)
    | fail)
  go_ret2
  obtain ⟨C, hC⟩ : ∃ C, C = (((((Z.setIfInBounds 384 (Value.int .i64 room)).setIfInBounds 385 (Value.int .i64 floor)).setIfInBounds 386 (Value.int .i64 of)).setIfInBounds 387 (Value.int .i64 floor)).setIfInBounds 388 (Value.int .i64 floor)) := ⟨_, rfl⟩
  rw [← hC]
  have hx : (w1.alloc (.cells C 61)).heap[w1.heap.size]? = some (.cells C 61 (0, 0)) := heap_alloc_new _ _
  have hf : ((floor.toNat : Nat) : Int) = floor := by omega
  have hr : ((room.toNat : Nat) : Int) = room := by omega
  refine ⟨w1.heap.size, rfl, Nat.le_refl _, ⟨⟨by show room.toNat ≤ 64; omega, Nat.zero_le _, Nat.le_refl _, Nat.le_refl _, by show floor.toNat + 0 ≤ _; omega, fun e he => (by cases he)⟩, ⟨C, hx, by rw [hC]; simpa using hsz⟩, ?_, ?_, ?_, ?_, ?_, fun k e hk => by cases hk⟩, (Below.refl _ _).alloc (Nat.le_refl _) _⟩
  · rw [cell_blk hx, hC]
    show _ = some (Value.int .i64 ((room.toNat : Nat) : Int))
    rw [hr]
    simp [Array.getElem?_setIfInBounds, hsz]
  · rw [cell_blk hx, hC]
    show _ = some (Value.int .i64 ((floor.toNat : Nat) : Int))
    rw [hf]
    simp [Array.getElem?_setIfInBounds, hsz]
  · rw [cell_blk hx, hC]
    show _ = some (Value.int .i64 of)
    simp [Array.getElem?_setIfInBounds, hsz]
  · rw [cell_blk hx, hC]
    show _ = some (Value.int .i64 ((floor.toNat : Nat) : Int))
    rw [hf]
    simp [Array.getElem?_setIfInBounds, hsz]
  · rw [cell_blk hx, hC]
    show _ = some (Value.int .i64 ((floor.toNat + 0 : Nat) : Int))
    rw [Nat.add_zero, hf]
    simp [Array.getElem?_setIfInBounds, hsz]
set_option maxHeartbeats 1600000 in
theorem new_no (room floor of : Int) (w : World) (h : newC room floor of ≠ 0) :
    Calls Try.prog 18 #[.int .i64 room, .int .i64 floor, .int .i64 of] w fun e w' => e = .returned (.tuple #[.pointer none, .int .i64 (newC room floor of)]) ∧ w' = w := by
  unfold newC at h ⊢
  go_enter Try.func18, Try.ntmps18
  by_cases a0 : room < 1
  · rw [if_pos (.inl a0)]
    clear h
    go_wp2_with fail
    go_ret2
    exact ⟨rfl, rfl⟩
  by_cases a1 : 64 < room
  · rw [if_pos (.inr a1)]
    clear h
    go_wp2_with fail
    go_ret2
    exact ⟨rfl, rfl⟩
  have a2 : ¬ (room < 1 ∨ 64 < room) := fun h => h.elim a0 a1
  rw [if_neg a2] at h ⊢
  by_cases b : (0 ≤ floor ∧ floor ≤ 2147483647) ∧ (0 ≤ of ∧ of ≤ 2147483647)
  · rw [if_pos b] at h
    exact absurd rfl h
  rw [if_neg b]
  clear h a2
  have hb : (decide (0 ≤ floor) && decide (floor ≤ 2147483647)) = false ∨ ((decide (0 ≤ floor) && decide (floor ≤ 2147483647)) = true ∧ (decide (0 ≤ of) && decide (of ≤ 2147483647)) = false) := by
    simp only [Bool.and_eq_true, Bool.and_eq_false_iff, decide_eq_true_eq, decide_eq_false_iff_not]
    omega
  clear b
  have H0 : Hid (∀ w, _) := fun w => isNumber_any floor w
  have H1 : Hid (∀ w, _) := fun w => isNumber_any of w
  rcases hb with hb | ⟨hb, hc⟩
  · rw [hb] at H0
    clear hb
    go_wp2_with (first
      | (go_at_call 33; refine Calls.mono (H0.out _) ?_; rintro e w1 ⟨rfl, rfl⟩)
      | fail)
    go_ret2
    exact ⟨rfl, rfl⟩
  · rw [hb] at H0
    rw [hc] at H1
    clear hb hc
    go_wp2_with fail
    refine Calls.mono (H0.out _) ?_
    rintro e w1 ⟨rfl, rfl⟩
    go_wp2_with fail
    refine Calls.mono (H1.out _) ?_
    rintro e w1 ⟨rfl, rfl⟩
    go_wp2_with fail
    go_ret2
    exact ⟨rfl, rfl⟩
theorem new_any (room floor of : Int) (w : World) :
    Calls Try.prog 18 #[.int .i64 room, .int .i64 floor, .int .i64 of] w fun e w' => ∃ p, e = .returned (.tuple #[.pointer p, .int .i64 (newC room floor of)]) ∧ Below w.heap.size w w' ∧ ((newC room floor of ≠ 0 ∧ p = none) ∨ (newC room floor of = 0 ∧ ∃ b, p = some ⟨b, 0, none⟩ ∧ w.heap.size ≤ b ∧ RingAt w' b (newR room floor of))) := by
  by_cases h : newC room floor of = 0
  · have h' := h
    unfold newC at h'
    split at h'
    · cases h'
    · rename_i h0
      split at h'
      · rename_i h1
        refine (new_ok room floor of w h0 h1).mono ?_
        rintro e w' ⟨b, rfl, hb, hr, hw⟩
        exact ⟨_, by rw [h], hw, .inr ⟨h, b, rfl, hb, hr⟩⟩
      · cases h'
  · refine (new_no room floor of w h).mono ?_
    rintro e w' ⟨rfl, rfl⟩
    exact ⟨_, rfl, Below.refl _ _, .inl ⟨h, rfl⟩⟩
set_option maxHeartbeats 1600000 in
theorem floor_any (p : Option Addr) (R : RingT) (w : World) (h : RP w p R) : Calls Try.prog 8 #[.pointer p] w fun e w' => e = .returned (.tuple #[.int .i64 R.floor, .int .i64 R.of]) ∧ Below w.heap.size w w' := by
  have HO : Hid _ := orZero_any p R w h
  clear h
  go_enter Try.func8, Try.ntmps8
  go_wp2_with fail
  refine Calls.mono HO.out ?_
  rintro e w1 ⟨b, rfl, hr, hb, -⟩
  have c0 := hr.floor
  have c1 := hr.of
  have HB : Hid (Below w.heap.size w w1) := hb
  clear hr hb
  go_wp2_with fail
  go_quiet (fail)
  go_wp2_with fail
  go_ret2
  exact ⟨rfl, below_drewN HB.out _⟩
theorem at_any (b k : Nat) (R : RingT) (e : EnT) (w : World) (h : RingAt w b R) (hk : R.l[k]? = some e) :
    Calls Try.prog 25 #[.pointer (some ⟨b, 0, none⟩), .int .i64 ((R.floor + 1 + k : Nat) : Int)] w fun e w' => e = .returned (.pointer (some ⟨b, (R.floor + 1 + k) % R.room * 6, none⟩)) ∧ ∃ n, w' = w.drewN n := by
  have hlt : k < R.l.length := (List.getElem?_eq_some_iff.1 hk).1
  have h1 := h.ok.fits
  have h2 : R.floor + R.l.length ≤ 2147483647 := h.ok.max
  exact at_raw b R.room (R.floor + 1 + k) w h.room (by omega) h.ok.room (by omega)
set_option maxHeartbeats 1600000 in
theorem last_none (p : Option Addr) (R : RingT) (w : World) (h : RP w p R) (hl : R.l = []) : Calls Try.prog 14 #[.pointer p] w fun e w' => e = .returned (.tuple #[.int .i64 R.last, .int .i64 R.of]) ∧ Below w.heap.size w w' := by
  have HO : Hid _ := orZero_any p R w h
  have hq : R.last = R.floor := by show R.floor + R.l.length = _; rw [hl]; rfl
  rw [hq]
  clear h
  go_enter Try.func14, Try.ntmps14
  go_wp2_with fail
  refine Calls.mono HO.out ?_
  rintro e w1 ⟨b, rfl, hr, hb, -⟩
  have c0 := hr.floor
  have c1 := hr.last
  rw [hq] at c1
  have HB : Hid (Below w.heap.size w w1) := hb
  have HF : Hid (∀ n, _) := fun n => floor_any (some ⟨b, 0, none⟩) R (w1.drewN n) (.inr ⟨b, rfl, hr.below (below_drewN (Below.refl _ _) n)⟩)
  clear hr hb hq hl
  go_wp2_with fail
  go_quiet (fail)
  go_wp2_with fail
  refine Calls.mono (HF.out _) ?_
  rintro e w2 ⟨rfl, hb2⟩
  have HB2 : Hid (Below w.heap.size w w2) := trans2 (below_drewN HB.out _) hb2
  clear hb2
  go_wp2_with fail
  go_ret2
  exact ⟨rfl, HB2.out⟩
set_option maxHeartbeats 1600000 in
theorem last_some (p : Option Addr) (R : RingT) (e : EnT) (m : Nat) (w : World) (h : RP w p R) (hl : R.l.length = m + 1) (he : R.l[m]? = some e) : Calls Try.prog 14 #[.pointer p] w fun e' w' => e' = .returned (.tuple #[.int .i64 R.last, .int .i64 e.v]) ∧ Below w.heap.size w w' := by
  have HO : Hid _ := orZero_any p R w h
  obtain ⟨L, hL⟩ : ∃ L, R.floor + 1 + m = L := ⟨_, rfl⟩
  have hq : R.last = L := by show R.floor + R.l.length = _; rw [hl]; omega
  have hf : R.floor < L := by omega
  rw [hq]
  clear h
  go_enter Try.func14, Try.ntmps14
  go_wp2_with fail
  refine Calls.mono HO.out ?_
  rintro e w1 ⟨b, rfl, hr, hb, -⟩
  have c0 := hr.floor
  have c1 := hr.last
  obtain ⟨x, -, hx⟩ := hr.ents m _ he
  have c2 := hx 1 _ rfl
  have HF : Hid (∀ n, _) := fun n => at_any b m R _ (w1.drewN n) (hr.below (below_drewN (Below.refl _ _) n)) he
  rw [hq] at c1
  rw [hL] at c2 HF
  obtain ⟨fl, hfl⟩ : ∃ fl, R.floor = fl := ⟨_, rfl⟩
  obtain ⟨o, ho⟩ : ∃ o, L % R.room * 6 = o := ⟨_, rfl⟩
  rw [hfl] at c0 hf
  rw [ho] at c2 HF
  have HB : Hid (Below w.heap.size w w1) := hb
  clear hr hb hq hl hx hL hfl ho
  go_wp2_with fail
  go_quiet (fail)
  go_wp2_with fail
  go_quiet (first
    | (go_at_call 25; (refine (HF.out _).mono (fun _ _ h => ⟨h.1, (by obtain ⟨k, hk⟩ := h.2; exact ⟨_, by rw [hk, World.drewN_drewN, Nat.add_assoc]⟩)⟩))))
  go_wp2_with fail
  go_ret2
  exact ⟨rfl, below_drewN (below_drewN HB.out _) _⟩
theorem last_any (p : Option Addr) (R : RingT) (w : World) (h : RP w p R) : Calls Try.prog 14 #[.pointer p] w fun e w' => e = .returned (.tuple #[.int .i64 R.last, .int .i64 R.top]) ∧ Below w.heap.size w w' := by
  rcases hl : R.l.getLast? with - | e
  · have ht : R.top = R.of := by unfold RingT.top; rw [hl]
    rw [ht]
    exact last_none p R w h (List.getLast?_eq_none_iff.1 hl)
  · have ht : R.top = e.v := by unfold RingT.top; rw [hl]
    rw [ht]
    rw [List.getLast?_eq_getElem?] at hl
    have hlt := (List.getElem?_eq_some_iff.1 hl).1
    exact last_some p R e (R.l.length - 1) w h (by omega) hl
end Go.Proofs.Ytnmengoefpdaiaa
