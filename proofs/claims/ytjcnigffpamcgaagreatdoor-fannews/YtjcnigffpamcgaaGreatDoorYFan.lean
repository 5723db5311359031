/-
  FanNews: the walk.
-/
import Derived.Test.YtjcnigffpamcgaaGreatDoorYAsk
namespace Go.Proofs.YtjcnigffpamcgaaGreatDoor
open Go.RowKit Go.MuLone Go.Maps
set_option linter.unusedVariables false
set_option linter.unusedSimpArgs false

theorem Tryz.info_wat : (Tryz.prog.info? 122).map (fun i => (i.zero, i.size, i.bytes)) = some (some (.agg #[.int .i64 0, .string ⟨#[]⟩, .int .i64 0, .int .i64 0]), 4, 40) := by kernel_rfl
set_option maxHeartbeats 6400000 in
set_option maxRecDepth 100000 in
theorem machineless_any {w : World} {H tr mb : Nat} {room keep floor : Int} (h : HubAt w H tr mb room keep 0 floor) (h0 : 0 ≤ floor) (h1 : floor ≤ 2147483647) :
    Calls Tryz.prog 11 #[.pointer (some ⟨H, 0, none⟩), .int .i64 floor] w fun e w' => e = .returned (.bool true) ∧ Below w.heap.size w w' := by
  have HH : Hid (HubAt w H tr mb room keep 0 floor) := h
  have HR : Hid (0 ≤ floor ∧ floor ≤ 2147483647) := ⟨h0, h1⟩
  obtain ⟨M, hM, hmk0⟩ := make_any Tryz.underlying58 Tryz.info_wat 5 (by unfold MaxRow; omega) (by unfold MaxRow; omega)
  have hmk : ∀ w : World, (Instr.makeSlice 58 (.int .i64 5) (.int .i64 5)).run Tryz.prog w = .ok (.slice (some ⟨w.heap.size, 0, none⟩) 5 5) (w.alloc (.cells M 122)) := hmk0
  clear hmk0
  clear h
  go_enter Tryz.func11, Tryz.ntmps11
  go_wp2_with fail
  refine Calls.mono (commit_new HH.out _ _) ?_
  rintro e w1 ⟨rfl, hw1⟩
  subst hw1
  go_wp2_with fail
  refine Calls.mono (resume_new HH.out _ _ _) ?_
  rintro e w1 ⟨rfl, hw1⟩
  subst hw1
  go_wp2_with fail
  have HB2 : Hid _ := (Below.refl w1.heap.size w1).alloc (Nat.le_refl _) (.cells M 122)
  have H2 : Hid _ := HH.out.below HB2.out
  refine Calls.mono (resume_long H2.out _ _ _ _) ?_
  rintro e w2 ⟨rfl, hw2⟩
  rw [← hw2] at HB2 H2
  clear hw2 hmk
  go_wp2_with fail
  refine Calls.mono (watch_new H2.out _ _ _ _ _ _) ?_
  rintro e w3 ⟨rfl, hb3⟩
  have H3 : Hid _ := H2.out.below hb3
  have HB3 : Hid _ := trans2 HB2.out hb3
  clear hb3 H2 HB2
  go_upto_region 5 with fail
  obtain ⟨w4, hw4⟩ : ∃ w4, w3.alloc (.cells #[.int .i64 0, .int .i64 0, .string ⟨#[]⟩, .int .i64 0, .slice none 0 0] 118) = w4 := ⟨_, rfl⟩
  rw [hw4]
  have hal : Below w3.heap.size w3 w4 := by rw [← hw4]; exact (Below.refl _ _).alloc (Nat.le_refl _) _
  have H4 : Hid _ := H3.out.below hal
  have HB4 : Hid _ := trans2 HB3.out hal
  clear hw4 hal H3 HB3
  go_wp2_with fail
  refine Calls.mono (sessions_new H4.out) ?_
  rintro e w5 ⟨rfl, hb5⟩
  have H5 : Hid _ := H4.out.below hb5
  have HB5 : Hid _ := trans2 HB4.out hb5
  clear hb5 H4 HB4
  go_wp2_with fail
  refine Calls.mono (floor_new H5.out HR.out.1 HR.out.2) ?_
  rintro e w6 ⟨rfl, hb6⟩
  have H6 : Hid _ := H5.out.below hb6
  have HB6 : Hid _ := trans2 HB5.out hb6
  clear hb6 H5 HB5
  go_wp2_with fail
  refine Calls.mono (last_new H6.out) ?_
  rintro e w7 ⟨rfl, hb7⟩
  have H7 : Hid _ := H6.out.below hb7
  have HB7 : Hid _ := trans2 HB6.out hb7
  clear hb7 H6 HB6
  go_wp2_with fail
  refine Calls.mono (next_new H7.out _) ?_
  rintro e w8 ⟨rfl, hb8⟩
  have HB8 : Hid _ := trans2 HB7.out hb8
  clear hb8 H7 HB7
  go_wp2_with fail
  go_ret
  exact ⟨rfl, HB8.out⟩
set_option maxHeartbeats 6400000 in
set_option maxRecDepth 100000 in
theorem nothing_any {w : World} {p : Value} (h : NoneAt w p) :
    Calls Tryz.prog 12 #[p] w fun e w' => e = .returned (.bool true) ∧ Below w.heap.size w w' := by
  have HH : Hid (NoneAt w p) := h
  obtain ⟨M, hM, hmk0⟩ := make_any Tryz.underlying58 Tryz.info_wat 9 (by unfold MaxRow; omega) (by unfold MaxRow; omega)
  have hmk : ∀ w : World, (Instr.makeSlice 58 (.int .i64 9) (.int .i64 9)).run Tryz.prog w = .ok (.slice (some ⟨w.heap.size, 0, none⟩) 9 9) (w.alloc (.cells M 122)) := hmk0
  clear hmk0
  clear h
  go_enter Tryz.func12, Tryz.ntmps12
  go_wp2_with fail
  refine Calls.mono (stateNew_any _) ?_
  rintro e w1 ⟨rfl, hb1⟩
  have H1 : Hid (NoneAt w1 p) := HH.out.below hb1
  have HB1 : Hid _ := hb1
  clear hb1
  go_wp2_with fail
  refine Calls.mono (sessions_none H1.out) ?_
  rintro e w2 ⟨rfl, hw2⟩
  subst hw2
  go_wp2_with fail
  refine Calls.mono (watch_none H1.out _ _ _ _ _ _ _) ?_
  rintro e w3 ⟨rfl, hb3⟩
  have H3 : Hid (NoneAt w3 p) := NoneAt.below H1.out hb3
  have HB3 : Hid _ := trans2 HB1.out hb3
  clear hb3
  go_upto_region 4 with fail
  obtain ⟨w4, hw4⟩ : ∃ w4, w3.alloc (.cells #[.int .i64 0, .int .i64 0, .string ⟨#[]⟩, .int .i64 0, .slice none 0 0] 118) = w4 := ⟨_, rfl⟩
  rw [hw4]
  have hal : Below w3.heap.size w3 w4 := by rw [← hw4]; exact (Below.refl _ _).alloc (Nat.le_refl _) _
  have H4 : Hid (NoneAt w4 p) := H3.out.below hal
  have HB4 : Hid _ := trans2 HB3.out hal
  clear hw4 hal H3 HB3
  go_wp2_with fail
  refine Calls.mono (drop_none H4.out _) ?_
  rintro e w5 ⟨rfl, hw5⟩
  subst hw5
  go_wp2_with fail
  refine Calls.mono (clear_none H4.out) ?_
  rintro e w5 ⟨rfl, hw5⟩
  subst hw5
  go_wp2_with fail
  refine Calls.mono (hnext_none H4.out _ _) ?_
  rintro e w5 ⟨rfl, hw5⟩
  subst hw5
  go_wp2_with fail
  refine Calls.mono (watches_none H4.out _) ?_
  rintro e w5 ⟨rfl, hw5⟩
  subst hw5
  go_wp2_with fail
  refine Calls.mono (floor_none H4.out) ?_
  rintro e w5 ⟨rfl, hw5⟩
  subst hw5
  go_wp2_with fail
  refine Calls.mono (hlast_none H4.out) ?_
  rintro e w5 ⟨rfl, hw5⟩
  subst hw5
  go_wp2_with fail
  refine Calls.mono (commit_none H4.out _ _ _) ?_
  rintro e w5 ⟨rfl, hw5⟩
  subst hw5
  go_wp2_with fail
  have HBa : Hid _ := (Below.refl w5.heap.size w5).alloc (Nat.le_refl _) (.cells M 122)
  have H5 : Hid (NoneAt (w5.alloc (.cells M 122)) p) := H4.out.below HBa.out
  have HB5 : Hid _ := trans2 HB4.out HBa.out
  refine Calls.mono (resume_none H5.out _ _ _ _ _) ?_
  rintro e w6 ⟨rfl, hw6⟩
  rw [← hw6] at H5 HB5
  clear hw6 hmk HBa
  go_wp2_with fail
  refine Calls.mono (unwatch_none H5.out _ _ _) ?_
  rintro e w7 ⟨rfl, hw7⟩
  subst hw7
  go_wp2_with fail
  refine Calls.mono (htook_none H5.out _ _ _) ?_
  rintro e w7 ⟨rfl, hw7⟩
  subst hw7
  go_wp2_with fail
  go_ret
  exact ⟨rfl, HB5.out⟩
set_option maxHeartbeats 6400000 in
set_option maxRecDepth 100000 in
theorem FanNews_walk (room keep floor : Int) (w : World) : Calls Tryz.prog 3 #[.int .i64 room, .int .i64 keep, .int .i64 floor] w fun e w' => e = .returned (.bool true) ∧ Below w.heap.size w w' := by
  by_cases hz : newH room keep floor = 0
  · have hfl : 0 ≤ floor ∧ floor ≤ 2147483647 := by
      rcases newH_cases room keep floor with ⟨h, _⟩ | ⟨h, _⟩ | ⟨h, _⟩ | ⟨h, _⟩ | ⟨h, _⟩ | ⟨h, _⟩ | ⟨h, h1, h2, h3, h4, h5, h6⟩
      case inr.inr.inr.inr.inr.inr => omega
      all_goals (rw [hz] at h; cases h)
    have HF : Hid _ := hfl
    have HN : Hid _ := fun w => hubNew_ok room keep floor w hz
    have HRN : Hid _ := fun w => ref11New_any room keep floor w
    rw [hz] at HRN
    clear hfl hz
    go_enter Tryz.func3, Tryz.ntmps3
    go_wp2_with fail
    refine Calls.mono (HN.out _) ?_
    rintro e w1 ⟨H, tr, mb, rfl, hh1, hb1⟩
    have H1 : Hid _ := hh1
    have HB1 : Hid _ := hb1
    clear hh1 hb1
    go_wp2_with fail
    refine Calls.mono (HRN.out _) ?_
    rintro e w2 ⟨a, b, c, d, rfl, hb2⟩
    have H2 : Hid _ := H1.out.below hb2
    have HB2 : Hid _ := trans2 HB1.out hb2
    clear hb2 H1 HB1
    go_upto_region 3 with fail
    obtain ⟨w3, hw3⟩ : ∃ w3, w2.alloc (.cells #[.int .i64 a, .int .i64 b, .int .i64 c, .int .i64 d, .slice none 0 0, .slice none 0 0, .bool false, .slice none 0 0] 32) = w3 := ⟨_, rfl⟩
    rw [hw3]
    have hal : Below w2.heap.size w2 w3 := by rw [← hw3]; exact (Below.refl _ _).alloc (Nat.le_refl _) _
    have H3 : Hid _ := H2.out.below hal
    have HB3 : Hid _ := trans2 HB2.out hal
    clear hw3 hal H2 HB2
    go_wp2_with fail
    refine Calls.mono (numY_any _ _) ?_
    rintro e w4 ⟨rfl, hw4⟩
    subst hw4
    go_wp2_with fail
    refine Calls.mono (machineless_any H3.out HF.out.1 HF.out.2) ?_
    rintro e w5 ⟨rfl, hb5⟩
    have HB5 : Hid _ := trans2 HB3.out hb5
    clear hb5 H3 HB3
    go_wp2_with fail
    refine Calls.mono (nothing_any (.inl rfl)) ?_
    rintro e w6 ⟨rfl, hb6⟩
    have HB6 : Hid _ := trans2 HB5.out hb6
    clear hb6 HB5
    go_wp2_with fail
    refine Calls.mono (nothing_any (.inr ⟨_, rfl, by simp, by simp⟩)) ?_
    rintro e w7 ⟨rfl, hb7⟩
    have HB7 : Hid _ := trans2 (HB6.out.alloc HB6.out.size _) hb7
    clear hb7 HB6
    go_wp2_with fail
    go_ret
    exact ⟨rfl, HB7.out⟩
  · have HN : Hid _ := fun w => hubNew_no room keep floor w hz
    have HRN : Hid _ := fun w => ref11New_any room keep floor w
    obtain ⟨z, hzz⟩ : ∃ z, newH room keep floor = z := ⟨_, rfl⟩
    rw [hzz] at HN HRN hz
    have hz2 : (z != 0) = true := by simpa using hz
    clear hzz hz
    go_enter Tryz.func3, Tryz.ntmps3
    go_wp2_with fail
    refine Calls.mono (HN.out _) ?_
    rintro e w1 ⟨rfl, hw1⟩
    subst hw1
    go_wp2_with fail
    refine Calls.mono (HRN.out _) ?_
    rintro e w2 ⟨a, b, c, d, rfl, hb2⟩
    have HB2 : Hid _ := hb2
    clear hb2
    go_upto_region 3 with fail
    obtain ⟨w3, hw3⟩ : ∃ w3, w2.alloc (.cells #[.int .i64 a, .int .i64 b, .int .i64 c, .int .i64 d, .slice none 0 0, .slice none 0 0, .bool false, .slice none 0 0] 32) = w3 := ⟨_, rfl⟩
    rw [hw3]
    have hal : Below w2.heap.size w2 w3 := by rw [← hw3]; exact (Below.refl _ _).alloc (Nat.le_refl _) _
    have HB3 : Hid _ := trans2 HB2.out hal
    clear hw3 hal HB2
    go_wp2_with fail
    refine Calls.mono (numY_any _ _) ?_
    rintro e w4 ⟨rfl, hw4⟩
    subst hw4
    go_wp2_with fail
    refine Calls.mono (nothing_any (.inl rfl)) ?_
    rintro e w6 ⟨rfl, hb6⟩
    have HB6 : Hid _ := trans2 HB3.out hb6
    clear hb6 HB3
    go_wp2_with fail
    refine Calls.mono (nothing_any (.inr ⟨_, rfl, by simp, by simp⟩)) ?_
    rintro e w7 ⟨rfl, hb7⟩
    have HB7 : Hid _ := trans2 (HB6.out.alloc HB6.out.size _) hb7
    clear hb7 HB6
    go_wp2_with fail
    go_ret
    exact ⟨rfl, HB7.out⟩
end Go.Proofs.YtjcnigffpamcgaaGreatDoor
