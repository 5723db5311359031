import Derived.Test.YtbblckcjedjbcaaGreatDoorJPlayed1
import Derived.Test.YtbblckcjedjbcaaGreatDoorXRowsy
import Derived.Test.YtbblckcjedjbcaaGreatDoorJSame
namespace Go.Proofs.YtbblckcjedjbcaaGreatDoor.J
open Go.RowKit Go.Maps
set_option linter.unusedVariables false
set_option linter.unusedSimpArgs false

theorem ts_nil (w : World) : TsAt w (.slice none 0 0) [] := World.ownsRow_nil _ _ _ _
set_option maxHeartbeats 6400000 in
set_option maxRecDepth 100000 in
theorem playN_4 (X : Nat) (s i : Int) (p : ByteArray) (k f : Int) (w : World) (hg : Ground w) (hx : XBx w X) :
    Calls Tryz.prog 25 #[.pointer none, .pointer (some ⟨X, 0, none⟩), .agg #[.int .i64 4, .int .i64 s, .int .i64 i, .string p, .int .i64 k, .int .i64 f]] w fun e w' => e = .returned (.bool true) ∧ Below w.heap.size w w' := by
  obtain ⟨w0, hw0⟩ : ∃ w0, w.alloc (.cells #[.int .i64 4, .int .i64 s, .int .i64 i, .string p, .int .i64 k, .int .i64 f] 72) = w0 := ⟨_, rfl⟩
  have HB0 : Hid (Below w.heap.size w w0) := by rw [← hw0]; exact (Below.refl _ _).alloc (Nat.le_refl _) _
  have hb0 : w0.heap[w.heap.size]? = some (.cells #[.int .i64 4, .int .i64 s, .int .i64 i, .string p, .int .i64 k, .int .i64 f] 72 (0, 0)) := by rw [← hw0]; exact heap_alloc_new _ _
  have HA0 : Hid (w0.heap[w.heap.size]? = some (.cells #[.int .i64 4, .int .i64 s, .int .i64 i, .string p, .int .i64 k, .int .i64 f] 72 (0, 0))) := hb0
  have HX0 : Hid (XBx w0 X) := kept_block HB0.out hx
  have HG0 : Hid (Ground w0) := hg.below HB0.out
  obtain ⟨a0, a1, a2, a3, a4, a5⟩ := cells_6 hb0
  obtain ⟨c0, c1⟩ := cells_2 HX0.out
  have HW : Hid (w.alloc (.cells #[.int .i64 4, .int .i64 s, .int .i64 i, .string p, .int .i64 k, .int .i64 f] 72) = w0) := hw0
  clear hg hx hb0
  obtain ⟨w2, hw2⟩ : ∃ w2, w0.alloc (.cells #[.int .i64 k, .string p, .string ⟨#[100]⟩, .int .i64 3] 24) = w2 := ⟨_, rfl⟩
  have HB2 : Hid (Below w0.heap.size w0 w2) := by rw [← hw2]; exact (Below.refl _ _).alloc (Nat.le_refl _) _
  have HD2 : Hid (w2.heap[w0.heap.size]? = some (.cells #[.int .i64 k, .string p, .string ⟨#[100]⟩, .int .i64 3] 24 (0, 0))) := by show _ = _; rw [← hw2]; exact heap_alloc_new _ _
  have HSZ : Hid (w0.heap.size = w.heap.size + 1) := by show _ = _; rw [← HW.out]; simp
  have HM : Hid _ := match_nil f k p ⟨#[100]⟩ 3 w2 (HG0.out.below HB2.out)
  have HM0 : Hid (∀ W, _) := fun W => match0 f k p ⟨#[100]⟩ 3 W
  have HST : Hid (∀ W, _) := fun W => sameTagsQ (.slice none 0 0) (.slice none 0 0) [] W (ts_nil _) (ts_nil _) (by simp)
  have HW2 : Hid (w0.alloc (.cells #[.int .i64 k, .string p, .string ⟨#[100]⟩, .int .i64 3] 24) = w2) := hw2
  clear hw2
  go_enter Tryz.func25, Tryz.ntmps25
  rw [← hw0] at a0 a1 a2 a3 a4 a5 c0 c1
  clear hw0
  go_upto_region 17 with (first
    | (go_at_call 13; rw [HW.out, HW2.out]; refine Calls.mono HM.out ?_; rintro e w3 ⟨rfl, hb3⟩
       have HB3 : Hid (Below w0.heap.size w0 w3) := xtrans2 HB2.out hb3
       have HD3 : Hid (w3.heap[w.heap.size + 1]? = some (.cells #[.int .i64 k, .string p, .string ⟨#[100]⟩, .int .i64 3] 24 (0, 0))) := by rw [← HSZ.out]; exact kept_block hb3 HD2.out
       clear hb3 a0 a1 a2 a3 a4 a5 c0 c1)
    | fail)
  have HSW : Hid (∀ w', Below w3.heap.size w3 w' → w'.cell? ⟨X, 0, none⟩ = some (.bool true) ∧ w'.cell? ⟨X, 1, none⟩ = some (.slice none 0 0) ∧ w'.cell? ⟨w.heap.size, 5, none⟩ = some (.int .i64 f) ∧ w'.cell? ⟨w.heap.size + 1, 0, none⟩ = some (.int .i64 k) ∧ w'.cell? ⟨w.heap.size + 1, 1, none⟩ = some (.string p) ∧ w'.cell? ⟨w.heap.size + 1, 2, none⟩ = some (.string ⟨#[100]⟩) ∧ w'.cell? ⟨w.heap.size + 1, 3, none⟩ = some (.int .i64 3)) := fun w' hb => by
    obtain ⟨a0, a1, a2, a3, a4, a5⟩ := cells_6 (kept_block hb (kept_block HB3.out HA0.out))
    obtain ⟨c0, c1⟩ := cells_2 (kept_block hb (kept_block HB3.out HX0.out))
    obtain ⟨d0, d1, d2, d3⟩ := cells_4 (kept_block hb HD3.out)
    exact ⟨c0, c1, a5, d0, d1, d2, d3⟩
  obtain ⟨c0, c1, a5, d0, d1, d2, d3⟩ := HSW.out w3 (Below.refl _ _)
  have HB4 : Hid (Below w3.heap.size w3 w3) := Below.refl _ _
  have HB5 : Hid (Below w3.heap.size w3 w3) := Below.refl _ _
  go_region_held3 (fun w' => w'.cell? ⟨X, 0, none⟩ = some (.bool true) ∧ w'.cell? ⟨X, 1, none⟩ = some (.slice none 0 0) ∧ w'.cell? ⟨w.heap.size, 5, none⟩ = some (.int .i64 f) ∧ w'.cell? ⟨w.heap.size + 1, 0, none⟩ = some (.int .i64 k) ∧ w'.cell? ⟨w.heap.size + 1, 1, none⟩ = some (.string p) ∧ w'.cell? ⟨w.heap.size + 1, 2, none⟩ = some (.string ⟨#[100]⟩) ∧ w'.cell? ⟨w.heap.size + 1, 3, none⟩ = some (.int .i64 3))
      (first
      | (refine HSW.out _ ?_; repeat (first | exact Below.refl _ _ | exact HB5.out | exact HB4.out | refine below_drewN ?_ _ | refine below_drew ?_))
      | go_keep)
      (first
      | (go_at_call 52; refine Calls.mono (HM0.out _) ?_; rintro e w4 ⟨rfl, hb4⟩
         clear HB4
         have HB4 : Hid (Below w3.heap.size w3 w4) := (by first | exact of_drew hb4 | exact hb4)
         clear hb4)
      | (go_at_call 17; refine Calls.mono (HST.out _) ?_; rintro e w5 ⟨rfl, m5, hw5⟩
         clear HB5
         have HB5 : Hid (Below w3.heap.size w3 w5) := (by rw [hw5]; first | exact below_drewN HB4.out _ | exact below_drewN (below_drew HB4.out) _)
         clear hw5))
  go_wp2_with fail
  go_ret
  exact ⟨rfl, xtrans2 HB0.out (xtrans2 HB3.out HB5.out)⟩
set_option maxHeartbeats 6400000 in
set_option maxRecDepth 100000 in
theorem playN_5 (X : Nat) (s i : Int) (p : ByteArray) (k f : Int) (w : World) (hg : Ground w) (hx : XBx w X) :
    Calls Tryz.prog 25 #[.pointer none, .pointer (some ⟨X, 0, none⟩), .agg #[.int .i64 5, .int .i64 s, .int .i64 i, .string p, .int .i64 k, .int .i64 f]] w fun e w' => e = .returned (.bool true) ∧ Below w.heap.size w w' := by
  obtain ⟨w0, hw0⟩ : ∃ w0, w.alloc (.cells #[.int .i64 5, .int .i64 s, .int .i64 i, .string p, .int .i64 k, .int .i64 f] 72) = w0 := ⟨_, rfl⟩
  have HB0 : Hid (Below w.heap.size w w0) := by rw [← hw0]; exact (Below.refl _ _).alloc (Nat.le_refl _) _
  have hb0 : w0.heap[w.heap.size]? = some (.cells #[.int .i64 5, .int .i64 s, .int .i64 i, .string p, .int .i64 k, .int .i64 f] 72 (0, 0)) := by rw [← hw0]; exact heap_alloc_new _ _
  have HA0 : Hid (w0.heap[w.heap.size]? = some (.cells #[.int .i64 5, .int .i64 s, .int .i64 i, .string p, .int .i64 k, .int .i64 f] 72 (0, 0))) := hb0
  have HX0 : Hid (XBx w0 X) := kept_block HB0.out hx
  have HG0 : Hid (Ground w0) := hg.below HB0.out
  obtain ⟨a0, a1, a2, a3, a4, a5⟩ := cells_6 hb0
  obtain ⟨c0, c1⟩ := cells_2 HX0.out
  have HW : Hid (w.alloc (.cells #[.int .i64 5, .int .i64 s, .int .i64 i, .string p, .int .i64 k, .int .i64 f] 72) = w0) := hw0
  clear hg hx hb0
  have HON : Hid (∀ W, _) := fun W => ofNil W s
  have HO0 : Hid (∀ W, _) := fun W => of0 s W
  have HST : Hid (∀ W, _) := fun W => sameWatchesQ (.slice none 0 0) (.slice none 0 0) [] W (World.ownsRow_nil _ _ _ _) (World.ownsRow_nil _ _ _ _) (by simp)
  have HSW : Hid (∀ w', Below w0.heap.size w0 w' → w'.cell? ⟨X, 0, none⟩ = some (.bool true) ∧ w'.cell? ⟨X, 1, none⟩ = some (.slice none 0 0) ∧ w'.cell? ⟨w.heap.size, 1, none⟩ = some (.int .i64 s)) := fun w' hb => by
    obtain ⟨a0, a1, a2, a3, a4, a5⟩ := cells_6 (kept_block hb HA0.out)
    obtain ⟨c0, c1⟩ := cells_2 (kept_block hb HX0.out)
    exact ⟨c0, c1, a1⟩
  go_enter Tryz.func25, Tryz.ntmps25
  rw [← hw0] at a0 a1 a2 a3 a4 a5 c0 c1
  clear hw0
  go_upto_region 20 with (first
    | (go_at_call 14; rw [HW.out]; refine Calls.mono (HON.out _) ?_; rintro e w3 ⟨rfl, rfl⟩
       clear a0 a1 a2 a3 a4 a5 c0 c1)
    | fail)
  obtain ⟨c0, c1, a1⟩ := HSW.out w3 (Below.refl _ _)
  have HB4 : Hid (Below w3.heap.size w3 w3) := Below.refl _ _
  have HB5 : Hid (Below w3.heap.size w3 w3) := Below.refl _ _
  go_region_held3 (fun w' => w'.cell? ⟨X, 0, none⟩ = some (.bool true) ∧ w'.cell? ⟨X, 1, none⟩ = some (.slice none 0 0) ∧ w'.cell? ⟨w.heap.size, 1, none⟩ = some (.int .i64 s))
      (first
      | (refine HSW.out _ ?_; repeat (first | exact Below.refl _ _ | exact HB5.out | exact HB4.out | refine below_drewN ?_ _ | refine below_drew ?_))
      | go_keep)
      (first
      | (go_at_call 53; refine Calls.mono (HO0.out _) ?_; rintro e w4 ⟨rfl, hb4⟩
         clear HB4
         have HB4 : Hid (Below w3.heap.size w3 w4) := (by first | exact of_drew hb4 | exact hb4)
         clear hb4)
      | (go_at_call 20; refine Calls.mono (HST.out _) ?_; rintro e w5 ⟨rfl, m5, hw5⟩
         clear HB5
         have HB5 : Hid (Below w3.heap.size w3 w5) := (by rw [hw5]; first | exact below_drewN HB4.out _ | exact below_drewN (below_drew HB4.out) _)
         clear hw5))
  go_wp2_with fail
  go_ret
  exact ⟨rfl, xtrans2 HB0.out HB5.out⟩
set_option maxHeartbeats 6400000 in
set_option maxRecDepth 100000 in
theorem playN_6 (X : Nat) (s i : Int) (p : ByteArray) (k f : Int) (w : World) (hg : Ground w) (hx : XBx w X) :
    Calls Tryz.prog 25 #[.pointer none, .pointer (some ⟨X, 0, none⟩), .agg #[.int .i64 6, .int .i64 s, .int .i64 i, .string p, .int .i64 k, .int .i64 f]] w fun e w' => e = .returned (.bool true) ∧ Below w.heap.size w w' := by
  obtain ⟨w0, hw0⟩ : ∃ w0, w.alloc (.cells #[.int .i64 6, .int .i64 s, .int .i64 i, .string p, .int .i64 k, .int .i64 f] 72) = w0 := ⟨_, rfl⟩
  have HB0 : Hid (Below w.heap.size w w0) := by rw [← hw0]; exact (Below.refl _ _).alloc (Nat.le_refl _) _
  have hb0 : w0.heap[w.heap.size]? = some (.cells #[.int .i64 6, .int .i64 s, .int .i64 i, .string p, .int .i64 k, .int .i64 f] 72 (0, 0)) := by rw [← hw0]; exact heap_alloc_new _ _
  have HA0 : Hid (w0.heap[w.heap.size]? = some (.cells #[.int .i64 6, .int .i64 s, .int .i64 i, .string p, .int .i64 k, .int .i64 f] 72 (0, 0))) := hb0
  have HX0 : Hid (XBx w0 X) := kept_block HB0.out hx
  have HG0 : Hid (Ground w0) := hg.below HB0.out
  obtain ⟨a0, a1, a2, a3, a4, a5⟩ := cells_6 hb0
  obtain ⟨c0, c1⟩ := cells_2 HX0.out
  have HW : Hid (w.alloc (.cells #[.int .i64 6, .int .i64 s, .int .i64 i, .string p, .int .i64 k, .int .i64 f] 72) = w0) := hw0
  clear hg hx hb0
  have HON : Hid (∀ W, _) := fun W => sizeNil W
  have HO0 : Hid (∀ W, _) := fun W => size0 W
  have HSW : Hid (∀ w', Below w0.heap.size w0 w' → w'.cell? ⟨X, 0, none⟩ = some (.bool true) ∧ w'.cell? ⟨X, 1, none⟩ = some (.slice none 0 0)) := fun w' hb => cells_2 (kept_block hb HX0.out)
  go_enter Tryz.func25, Tryz.ntmps25
  rw [← hw0] at a0 a1 a2 a3 a4 a5 c0 c1
  clear hw0
  go_upto_region 22 with fail
  rw [HW.out] at c0 c1 ⊢
  clear a0 a1 a2 a3 a4 a5
  have HB4 : Hid (Below w0.heap.size w0 w0) := Below.refl _ _
  have HB5 : Hid (Below w0.heap.size w0 w0) := Below.refl _ _
  go_region_held3 (fun w' => w'.cell? ⟨X, 0, none⟩ = some (.bool true) ∧ w'.cell? ⟨X, 1, none⟩ = some (.slice none 0 0))
      (first
      | (refine HSW.out _ ?_; repeat (first | exact Below.refl _ _ | exact HB5.out | exact HB4.out | refine below_drewN ?_ _ | refine below_drew ?_))
      | go_keep)
      (first
      | (go_at_call 54; refine Calls.mono (HO0.out _) ?_; rintro e w4 ⟨rfl, hb4⟩
         clear HB4
         have HB4 : Hid (Below w0.heap.size w0 w4) := (by first | exact of_drew hb4 | exact hb4 | exact xtrans2 HB5.out hb4 | exact xtrans2 (below_drew HB5.out) hb4 | exact xtrans2 (below_drewN HB5.out _) hb4)
         clear hb4)
      | (go_at_call 27; refine Calls.mono (HON.out _) ?_; rintro e w5 ⟨rfl, hw5⟩
         clear HB5
         have HB5 : Hid (Below w0.heap.size w0 w5) := (by rw [hw5]; first | exact HB4.out | exact below_drew HB4.out | exact below_drewN HB4.out _ | exact Below.refl _ _ | exact below_drew (Below.refl _ _))
         clear hw5))
  all_goals
    go_wp2_with fail
    go_ret
    exact ⟨by simp, xtrans2 HB0.out (by first | exact HB4.out | exact HB5.out | exact below_drew HB4.out | exact below_drewN HB4.out _ | exact below_drew HB5.out | exact below_drewN HB5.out _)⟩
set_option maxHeartbeats 6400000 in
set_option maxRecDepth 100000 in
theorem playN_7 (X : Nat) (s i : Int) (p : ByteArray) (k f : Int) (w : World) (hg : Ground w) (hx : XBx w X) :
    Calls Tryz.prog 25 #[.pointer none, .pointer (some ⟨X, 0, none⟩), .agg #[.int .i64 7, .int .i64 s, .int .i64 i, .string p, .int .i64 k, .int .i64 f]] w fun e w' => e = .returned (.bool true) ∧ Below w.heap.size w w' := by
  obtain ⟨w0, hw0⟩ : ∃ w0, w.alloc (.cells #[.int .i64 7, .int .i64 s, .int .i64 i, .string p, .int .i64 k, .int .i64 f] 72) = w0 := ⟨_, rfl⟩
  have HB0 : Hid (Below w.heap.size w w0) := by rw [← hw0]; exact (Below.refl _ _).alloc (Nat.le_refl _) _
  have hb0 : w0.heap[w.heap.size]? = some (.cells #[.int .i64 7, .int .i64 s, .int .i64 i, .string p, .int .i64 k, .int .i64 f] 72 (0, 0)) := by rw [← hw0]; exact heap_alloc_new _ _
  have HA0 : Hid (w0.heap[w.heap.size]? = some (.cells #[.int .i64 7, .int .i64 s, .int .i64 i, .string p, .int .i64 k, .int .i64 f] 72 (0, 0))) := hb0
  have HX0 : Hid (XBx w0 X) := kept_block HB0.out hx
  have HG0 : Hid (Ground w0) := hg.below HB0.out
  obtain ⟨a0, a1, a2, a3, a4, a5⟩ := cells_6 hb0
  obtain ⟨c0, c1⟩ := cells_2 HX0.out
  have HW : Hid (w.alloc (.cells #[.int .i64 7, .int .i64 s, .int .i64 i, .string p, .int .i64 k, .int .i64 f] 72) = w0) := hw0
  clear hg hx hb0
  have HON : Hid _ := walkNil w0
  have HO0 : Hid (∀ W, _) := fun W => walk0 W
  have HSS : Hid (∀ W, _) := fun W => sameSeatsE (.slice none 0 0) (.slice none 0 0) [] W (World.ownsRow_nil _ _ _ _) (World.ownsRow_nil _ _ _ _) (by simp)
  go_enter Tryz.func25, Tryz.ntmps25
  rw [← hw0] at a0 a1 a2 a3 a4 a5 c0 c1
  clear hw0
  go_wp2_with (first
    | (go_at_call 11; rw [HW.out]; refine Calls.mono HON.out ?_; rintro e w3 ⟨rfl, hb3⟩
       have HB3 : Hid (Below w0.heap.size w0 w3) := hb3
       clear a0 a1 a2 a3 a4 a5 c0 c1
       obtain ⟨c0, c1⟩ := cells_2 (kept_block hb3 HX0.out)
       clear hb3)
    | (go_at_call 55; refine Calls.mono (HO0.out _) ?_; rintro e w4 ⟨rfl, hb4⟩
       have HB4 : Hid (Below w0.heap.size w0 w4) := xtrans2 HB3.out hb4
       clear c0 c1 hb4)
    | (go_at_call 22; refine Calls.mono (HSS.out _) ?_; rintro e w5 ⟨rfl, hb5⟩
       have HB5 : Hid (Below w0.heap.size w0 w5) := xtrans2 HB4.out hb5
       clear hb5)
    | fail)
  go_ret
  exact ⟨rfl, xtrans2 HB0.out HB5.out⟩
set_option maxHeartbeats 6400000 in
set_option maxRecDepth 100000 in
theorem playN_else (K : Int) (n1 : ¬ K = 1) (n2 : ¬ K = 2) (n3 : ¬ K = 3) (n4 : ¬ K = 4) (n5 : ¬ K = 5) (n6 : ¬ K = 6) (n7 : ¬ K = 7) (X : Nat) (s i : Int) (p : ByteArray) (k f : Int) (w : World) (hg : Ground w) (hx : XBx w X) :
    Calls Tryz.prog 25 #[.pointer none, .pointer (some ⟨X, 0, none⟩), .agg #[.int .i64 K, .int .i64 s, .int .i64 i, .string p, .int .i64 k, .int .i64 f]] w fun e w' => e = .returned (.bool true) ∧ Below w.heap.size w w' := by
  obtain ⟨w0, hw0⟩ : ∃ w0, w.alloc (.cells #[.int .i64 K, .int .i64 s, .int .i64 i, .string p, .int .i64 k, .int .i64 f] 72) = w0 := ⟨_, rfl⟩
  have HB0 : Hid (Below w.heap.size w w0) := by rw [← hw0]; exact (Below.refl _ _).alloc (Nat.le_refl _) _
  have hb0 : w0.heap[w.heap.size]? = some (.cells #[.int .i64 K, .int .i64 s, .int .i64 i, .string p, .int .i64 k, .int .i64 f] 72 (0, 0)) := by rw [← hw0]; exact heap_alloc_new _ _
  have HA0 : Hid (w0.heap[w.heap.size]? = some (.cells #[.int .i64 K, .int .i64 s, .int .i64 i, .string p, .int .i64 k, .int .i64 f] 72 (0, 0))) := hb0
  have HX0 : Hid (XBx w0 X) := kept_block HB0.out hx
  have HG0 : Hid (Ground w0) := hg.below HB0.out
  obtain ⟨a0, a1, a2, a3, a4, a5⟩ := cells_6 hb0
  obtain ⟨c0, c1⟩ := cells_2 HX0.out
  have HW : Hid (w.alloc (.cells #[.int .i64 K, .int .i64 s, .int .i64 i, .string p, .int .i64 k, .int .i64 f] 72) = w0) := hw0
  clear hg hx hb0
  go_enter Tryz.func25, Tryz.ntmps25
  rw [← hw0] at a0 a1 a2 a3 a4 a5 c0 c1
  clear hw0
  go_wp2_with fail
  go_ret
  first | exact ⟨rfl, HB0.out⟩ | exact ⟨rfl, (Below.refl _ _).alloc (Nat.le_refl _) _⟩
theorem playN (X : Nat) (a : AcT) (w : World) (hg : Ground w) (hx : XBx w X) :
    Calls Tryz.prog 25 #[.pointer none, .pointer (some ⟨X, 0, none⟩), a.val] w fun e w' => e = .returned (.bool true) ∧ Below w.heap.size w w' := by
  obtain ⟨K, s, i, p, k, f⟩ := a
  by_cases h1 : K = 1
  · subst h1; exact playN_1 X s i p k f w hg hx
  by_cases h2 : K = 2
  · subst h2; exact playN_2 X s i p k f w hg hx
  by_cases h3 : K = 3
  · subst h3; exact playN_3 X s i p k f w hg hx
  by_cases h4 : K = 4
  · subst h4; exact playN_4 X s i p k f w hg hx
  by_cases h5 : K = 5
  · subst h5; exact playN_5 X s i p k f w hg hx
  by_cases h6 : K = 6
  · subst h6; exact playN_6 X s i p k f w hg hx
  by_cases h7 : K = 7
  · subst h7; exact playN_7 X s i p k f w hg hx
  exact playN_else K h1 h2 h3 h4 h5 h6 h7 X s i p k f w hg hx
end Go.Proofs.YtbblckcjedjbcaaGreatDoor.J
namespace Go.Proofs.YtbblckcjedjbcaaGreatDoor.J
open Go.RowKit Go.ChangeShapes Go.WideShapes Go.ChangeAt
set_option linter.unusedVariables false
set_option linter.unusedSimpArgs false

theorem cg_of {H : Type} {enc : TypeId × Value → H} {W : World} {n : Nat} {cs : List Value} {y : DataW H × List MemPlace} (h : DataW.trod enc Tryz.prog W 0 (fun _ => true) true n 24 cs = some y) : ∃ x : Cg, cs = x.cs := by
  obtain ⟨xs, m, _, hx, hl, hxl, hf⟩ := DataW.trod_struct Tryz.underlying24 h
  rw [Tryz.cellsC9] at hl
  obtain ⟨c0, c1, c2, c3, rfl⟩ := li4 hl
  obtain ⟨x0, x1, x2, x3, rfl⟩ := li4 (l := xs) hxl
  obtain ⟨z0, q0, _⟩ := DataW.trod_int Tryz.underlying3 (hf 0 _ rfl)
  obtain ⟨z1, q1, _⟩ := DataW.trod_string Tryz.underlying9 (hf 1 _ rfl)
  obtain ⟨z2, q2, _⟩ := DataW.trod_string Tryz.underlying9 (hf 2 _ rfl)
  obtain ⟨z3, q3, _⟩ := DataW.trod_int Tryz.underlying3 (hf 3 _ rfl)
  simp [Tryz.cells3x, Tryz.cells9x] at q0 q1 q2 q3
  subst q0 q1 q2 q3
  exact ⟨⟨z0, z1, z2, z3⟩, rfl⟩
theorem chs9_of {H : Type} {enc : TypeId × Value → H} {W : World} {n : Nat} {v : Value} {y : DataW H × List MemPlace} (h : DataW.trod enc Tryz.prog W 0 (fun _ => true) true n 55 [v] = some y) :
    ∃ a c L, v = .slice a L.length c ∧ CsAt W a L ∧ L.length ≤ c ∧ L.length ≤ maxLen := by
  rcases Go.Deep.open_slice Tryz.underlying55 h with ⟨hcs, _⟩ | ⟨x, len, cap, m, n', D, Pl, hcs, _, hl, hm, hmm, _, hx⟩
  · have hv : v = .slice none 0 0 := by simpa using hcs
    subst hv
    exact ⟨none, 0, [], rfl, .inl rfl, Nat.zero_le _, Nat.zero_le _⟩
  · have hv : v = .slice (some x) len cap := by simpa using hcs
    subst hv
    have hmc : m = cap := by simpa using hmm
    subst hmc
    have each : ∀ i, i < len → ∃ s : Cg, ∀ j x', s.cs[j]? = some x' → W.cell? ((x.add (i * 4)).add j) = some x' := by
      intro i hi
      obtain ⟨cs', h1, h2⟩ := hx i (by omega)
      obtain ⟨s, rfl⟩ := cg_of h2
      rw [Tryz.cellsC9] at h1
      obtain ⟨_, _, hc⟩ := World.cells?_some h1
      exact ⟨s, fun j x' hj => by rw [hc j (by have := (List.getElem?_eq_some_iff.1 hj).1; simpa using this)]; exact hj⟩
    obtain ⟨l, hll, hls⟩ := listsOf len each
    subst hll
    refine ⟨some x, m, l, rfl, ?_, hl, Nat.le_trans hl hm⟩
    by_cases h0 : l = []
    · exact .inl h0
    · right
      obtain ⟨b, o, spot⟩ := x
      obtain ⟨s0, hs0⟩ : ∃ s, l[0]? = some s := ⟨l[0]'(List.length_pos_iff.2 h0), List.getElem?_eq_getElem _⟩
      have hc0 := hls 0 s0 hs0 0 _ rfl
      have hspot : spot = none := by simpa [Addr.add] using World.cell?_spot hc0
      subst hspot
      refine ⟨b, o, rfl, ?_, fun i j s x' hi hj => ?_⟩
      · have := World.block_lt_of_cell? _ _ hc0
        simpa [Addr.add] using this
      · have := hls i s hi j x' hj
        rw [addr_add, addr_add, Nat.add_assoc] at this
        exact this
end Go.Proofs.YtbblckcjedjbcaaGreatDoor.J
namespace Go.Proofs.YtbblckcjedjbcaaGreatDoor.J
open Go.RowKit Go.Maps
set_option linter.unusedVariables false
set_option linter.unusedSimpArgs false

set_option maxHeartbeats 6400000 in
set_option maxRecDepth 100000 in
theorem lookN (X : Nat) (a : AcT) (w : World) (hg : Ground w) (hx : XBx w X) :
    Calls Tryz.prog 26 #[.pointer none, .pointer (some ⟨X, 0, none⟩), a.val] w fun e w' => e = .returned (.bool true) ∧ Below w.heap.size w w' := by
  obtain ⟨K, s, i, p, k, f⟩ := a
  have HG : Hid (Ground w) := hg
  have HX : Hid (XBx w X) := hx
  obtain ⟨w0, hw0⟩ : ∃ w0, w.alloc (.cells #[.int .i64 K, .int .i64 s, .int .i64 i, .string p, .int .i64 k, .int .i64 f] 72) = w0 := ⟨_, rfl⟩
  have HB0 : Hid (Below w.heap.size w w0) := by rw [← hw0]; exact (Below.refl _ _).alloc (Nat.le_refl _) _
  have hb0 : w0.heap[w.heap.size]? = some (.cells #[.int .i64 K, .int .i64 s, .int .i64 i, .string p, .int .i64 k, .int .i64 f] 72 (0, 0)) := by rw [← hw0]; exact heap_alloc_new _ _
  have HSZ : Hid (w0.heap.size = w.heap.size + 1) := by show _ = _; rw [← hw0]; simp
  obtain ⟨w1, hw1⟩ : ∃ w1, w0.alloc (.cells #[.int .i64 4, .int .i64 0, .int .i64 i, .string p, .int .i64 k, .int .i64 f] 72) = w1 := ⟨_, rfl⟩
  have HB1 : Hid (Below w.heap.size w w1) := by rw [← hw1]; exact HB0.out.alloc HB0.out.size _
  have HA1 : Hid (w1.heap[w.heap.size]? = some (.cells #[.int .i64 K, .int .i64 s, .int .i64 i, .string p, .int .i64 k, .int .i64 f] 72 (0, 0))) := by show _ = _; rw [← hw1]; exact new_old hb0 _
  have HD1 : Hid (w1.heap[w.heap.size + 1]? = some (.cells #[.int .i64 4, .int .i64 0, .int .i64 i, .string p, .int .i64 k, .int .i64 f] 72 (0, 0))) := by show _ = _; rw [← hw1, ← HSZ.out]; exact heap_alloc_new _ _
  obtain ⟨a0, a1, a2, a3, a4, a5⟩ := cells_6 hb0
  have HW : Hid (w.alloc (.cells #[.int .i64 K, .int .i64 s, .int .i64 i, .string p, .int .i64 k, .int .i64 f] 72) = w0) := hw0
  have HW1 : Hid (w0.alloc (.cells #[.int .i64 4, .int .i64 0, .int .i64 i, .string p, .int .i64 k, .int .i64 f] 72) = w1) := hw1
  clear hb0 hw1 hg hx
  go_enter Tryz.func26, Tryz.ntmps26
  rw [← hw0] at a0 a1 a2 a3 a4 a5
  clear hw0
  go_wp2_with fail
  rw [HW.out, HW1.out]
  clear a0 a1 a2 a3 a4 a5
  go_loopw [8] (fun iv wr => ∃ q : Nat, iv = .int .i64 q ∧ 5 ≤ q ∧ q ≤ 8 ∧ Hid (Below w1.heap.size w1 wr)) (fun iv _ => 8 - (intOf iv).toNat)
  case atStart => exact ⟨5, rfl, by decide, by decide, Below.refl _ _⟩
  case round =>
    obtain ⟨q, rfl, hq5, hq8, HBr⟩ := hrel
    by_cases hlt : q < 8
    · have hlt' : (q : Int) ≤ 7 := by omega
      obtain ⟨a0, a1, a2, a3, a4, a5⟩ := cells_6 (kept_block HBr.out HA1.out)
      have HP : Hid _ := playN X ⟨q, s, 0, ⟨#[]⟩, 0, 0⟩ wr (HG.out.below (xtrans2 HB1.out HBr.out)) (kept_block (xtrans2 HB1.out HBr.out) HX.out)
      go_wp2_with (first
        | (go_at_call 25; refine Calls.mono HP.out ?_; rintro e w2 ⟨rfl, hb2⟩
           have HB2 : Hid (Below w1.heap.size w1 w2) := xtrans2 HBr.out hb2
           clear hb2 a0 a1 a2 a3 a4 a5)
        | fail)
      go_roundw
      case rel => exact ⟨q + 1, by go_num, by omega, by omega, HB2⟩
      case measure => simp [intOf]; omega
    · have hge : ¬ (q : Int) ≤ 7 := by omega
      obtain ⟨w3, hw3⟩ : ∃ w3, wr = w3 := ⟨_, rfl⟩
      subst hw3
      have HB3 : Hid (Below w.heap.size w wr) := xtrans2 HB1.out HBr.out
      have HD3 : Hid (wr.heap[w.heap.size + 1]? = some (.cells #[.int .i64 4, .int .i64 0, .int .i64 i, .string p, .int .i64 k, .int .i64 f] 72 (0, 0))) := kept_block HBr.out HD1.out
      clear hq5 hq8 hlt HBr
      go_wp2_with fail
      go_loopw [10] (fun iv wq => ∃ (r : Nat) (kv : Int), iv = .int .i64 r ∧ 1 ≤ r ∧ r ≤ 4 ∧ Hid (Below w.heap.size w wq) ∧ Hid (wq.heap[w.heap.size + 1]? = some (.cells #[.int .i64 4, .int .i64 0, .int .i64 i, .string p, .int .i64 kv, .int .i64 f] 72 (0, 0)))) (fun iv _ => 4 - (intOf iv).toNat)
      case atStart => exact ⟨1, k, rfl, by decide, by decide, HB3, HD3⟩
      case round =>
        obtain ⟨r, kv, rfl, hq1, hq4, HBq, HDq⟩ := hrel
        by_cases hlt : r < 4
        · have hlt' : (r : Int) ≤ 3 := by omega
          obtain ⟨d0, d1, d2, d3, d4, d5⟩ := cells_6 HDq.out
          have fd := free_of HDq.out
          go_upto_region 12 with fail
          clear d0 d1 d2 d3 d4 d5 fd
          obtain ⟨w5, hw5⟩ : ∃ z, wr.setCell ⟨w.heap.size + 1, 4, none⟩ (.int .i64 r) = z := ⟨_, rfl⟩
          have HB5 : Hid (Below w.heap.size w w5) := by rw [← hw5]; exact HBq.out.setCell (Nat.le_succ _) _
          have HD5 : Hid (w5.heap[w.heap.size + 1]? = some (.cells #[.int .i64 4, .int .i64 0, .int .i64 i, .string p, .int .i64 r, .int .i64 f] 72 (0, 0))) := by show _ = _; rw [← hw5]; exact same_blk HDq.out rfl
          rw [hw5]
          clear hw5
          obtain ⟨d0, d1, d2, d3, d4, d5⟩ := cells_6 HD5.out
          have HP : Hid _ := playN X ⟨4, 0, i, p, r, f⟩ w5 (HG.out.below HB5.out) (kept_block HB5.out HX.out)
          go_wp2_with (first
            | (go_at_call 25; refine Calls.mono HP.out ?_; rintro e w2 ⟨rfl, hb2⟩
               have HB6 : Hid (Below w.heap.size w w2) := xtrans2 HB5.out hb2
               have HD6 : Hid (w2.heap[w.heap.size + 1]? = some (.cells #[.int .i64 4, .int .i64 0, .int .i64 i, .string p, .int .i64 r, .int .i64 f] 72 (0, 0))) := kept_block hb2 HD5.out
               clear hb2 d0 d1 d2 d3 d4 d5)
            | fail)
          go_roundw
          case rel => exact ⟨r + 1, _, by go_num, by omega, by omega, HB6, HD6⟩
          case measure => simp [intOf]; omega
        · have hge2 : ¬ (r : Int) ≤ 3 := by omega
          go_wp2_with fail
          go_ret
          exact ⟨rfl, HBq.out⟩
/-- Acts in memory. -/
abbrev AcT.cl (a : AcT) : List Value := [.int .i64 a.K, .int .i64 a.s, .int .i64 a.i, .string a.p, .int .i64 a.k, .int .i64 a.f]
def AcAt (w : World) (a : Option Addr) (L : List AcT) : Prop := L = [] ∨ ∃ b o, a = some ⟨b, o, none⟩ ∧ b < w.heap.size ∧ ∀ (j t : Nat) (x : AcT) (v : Value), L[j]? = some x → x.cl[t]? = some v → w.cell? ⟨b, o + (j * 6 + t), none⟩ = some v
theorem AcAt.below {w w' : World} {a : Option Addr} {L : List AcT} (h : AcAt w a L) (hb : Below w.heap.size w w') : AcAt w' a L := by
  rcases h with h | ⟨b, o, e, hl, hc⟩
  · exact .inl h
  · exact .inr ⟨b, o, e, Nat.lt_of_lt_of_le hl hb.size, fun j t x v hx hv => by rw [hb.cell (p := ⟨b, o + (j * 6 + t), none⟩) hl]; exact hc j t x v hx hv⟩
theorem AcAt.at {w : World} {a : Option Addr} {L : List AcT} (h : AcAt w a L) {j : Nat} {x : AcT} (hx : L[j]? = some x) : ∃ b o, a = some ⟨b, o, none⟩ ∧ w.cell? ⟨b, o + j * 6, none⟩ = some (.int .i64 x.K) ∧ w.cell? ⟨b, o + j * 6 + 1, none⟩ = some (.int .i64 x.s) ∧ w.cell? ⟨b, o + j * 6 + 2, none⟩ = some (.int .i64 x.i) ∧ w.cell? ⟨b, o + j * 6 + 3, none⟩ = some (.string x.p) ∧ w.cell? ⟨b, o + j * 6 + 4, none⟩ = some (.int .i64 x.k) ∧ w.cell? ⟨b, o + j * 6 + 5, none⟩ = some (.int .i64 x.f) := by
  rcases h with rfl | ⟨b, o, e, hl, hc⟩
  · simp at hx
  · exact ⟨b, o, e, hc j 0 x _ hx rfl, hc j 1 x _ hx rfl, hc j 2 x _ hx rfl, hc j 3 x _ hx rfl, hc j 4 x _ hx rfl, hc j 5 x _ hx rfl⟩
set_option maxHeartbeats 6400000 in
set_option maxRecDepth 100000 in
theorem TrieOfNothing_walk (a : Option Addr) (c : Nat) (L : List AcT) (w : World) (hL : AcAt w a L) (hlen : (L.length : Int) ≤ 9223372036854775807) (hg : Ground w) :
    Calls Tryz.prog 8 #[.slice a L.length c] w fun e w' => e = .returned (.bool true) ∧ Below w.heap.size w w' := by
  have HL : Hid (AcAt w a L) := hL
  have HG : Hid (Ground w) := hg
  obtain ⟨m, hm⟩ : ∃ m, L.length = m := ⟨_, rfl⟩
  have HM : Hid (L.length = m) := hm
  rw [hm] at hlen ⊢
  clear hL hg hm
  go_enter Tryz.func8, Tryz.ntmps8
  go_wp2_with (first
    | (go_at_call 9; refine (begins_any w HG.out).mono ?_; rintro e w1 ⟨rfl, hb1⟩
       have HB1 : Hid (Below w.heap.size w w1) := hb1
       clear hb1)
    | fail)
  obtain ⟨w2, hw2⟩ : ∃ w2, w1.alloc (.cells #[.bool true, .slice none 0 0] 69) = w2 := ⟨_, rfl⟩
  have HB2 : Hid (Below w.heap.size w w2) := by rw [← hw2]; exact HB1.out.alloc HB1.out.size _
  have HX2 : Hid (XBx w2 w1.heap.size) := by show XBx _ _; rw [← hw2]; exact heap_alloc_new _ _
  rw [hw2]
  obtain ⟨X, hX⟩ : ∃ X, w1.heap.size = X := ⟨_, rfl⟩
  rw [hX] at HX2 ⊢
  clear hw2 hX
  go_loopw [6] (fun iv wr => ∃ q : Nat, iv = .int .i64 q ∧ q ≤ m ∧ q ≤ 120 ∧ Hid (Below w2.heap.size w2 wr)) (fun iv _ => m - (intOf iv).toNat)
  case atStart => exact ⟨0, rfl, Nat.zero_le _, Nat.zero_le _, Below.refl _ _⟩
  case round =>
    obtain ⟨q, rfl, hqm, hq120, HBr⟩ := hrel
    by_cases hlt : q < m
    · have hlt' : (q : Int) < (m : Int) := by omega
      by_cases h120 : q < 120
      · have h120' : (q : Int) < 120 := by omega
        obtain ⟨x, hx⟩ : ∃ x, L[q]? = some x := ⟨L[q]'(by rw [HM.out]; exact hlt), List.getElem?_eq_getElem _⟩
        have HQ : Hid (L[q]? = some x) := hx
        have HBW : Hid (Below w.heap.size w wr) := xtrans2 HB2.out HBr.out
        have HXr : Hid (XBx wr X) := kept_block HBr.out HX2.out
        obtain ⟨b, o, rfl, n0, n1, n2, n3, n4, n5⟩ := (HL.out.below HBW.out).at hx
        have HP : Hid _ := playN X x wr (HG.out.below HBW.out) HXr.out
        have HK : Hid (∀ W, Below wr.heap.size wr W → _) := fun W hb => lookN X x W (HG.out.below (xtrans2 HBW.out hb)) (kept_block hb HXr.out)
        clear hx
        go_wp2_with (first
          | (go_at_call 25; refine Calls.mono HP.out ?_; rintro e w3 ⟨rfl, hb3⟩
             have HB3 : Hid (Below wr.heap.size wr w3) := hb3
             clear n0 n1 n2 n3 n4 n5 hb3
             obtain ⟨b', o', he, n0, n1, n2, n3, n4, n5⟩ := (HL.out.below (xtrans2 HBW.out HB3.out)).at HQ.out
             simp only [Option.some.injEq, Addr.mk.injEq, and_true] at he
             obtain ⟨rfl, rfl⟩ := he)
          | (go_at_call 26; refine Calls.mono (HK.out _ HB3.out) ?_; rintro e w4 ⟨rfl, hb4⟩
             have HB4 : Hid (Below wr.heap.size wr w4) := xtrans2 HB3.out hb4
             clear n0 n1 n2 n3 n4 n5 hb4)
          | fail)
        go_roundw
        case rel => exact ⟨q + 1, by go_num, by omega, by omega, xtrans2 HBr.out HB4.out⟩
        case measure => simp [intOf]; omega
      · have h120' : ¬ (q : Int) < 120 := by omega
        have HSN : Hid (∀ W, _) := fun W => sizeNil W
        go_wp2_with (first | (go_at_call 27; refine Calls.mono (HSN.out _) ?_; rintro e w5 ⟨rfl, rfl⟩) | fail)
        go_ret
        exact ⟨rfl, xtrans2 HB2.out HBr.out⟩
    · have hlt' : ¬ (q : Int) < (m : Int) := by omega
      have HSN : Hid (∀ W, _) := fun W => sizeNil W
      go_wp2_with (first | (go_at_call 27; refine Calls.mono (HSN.out _) ?_; rintro e w5 ⟨rfl, rfl⟩) | fail)
      go_ret
      exact ⟨rfl, xtrans2 HB2.out HBr.out⟩
end Go.Proofs.YtbblckcjedjbcaaGreatDoor.J
