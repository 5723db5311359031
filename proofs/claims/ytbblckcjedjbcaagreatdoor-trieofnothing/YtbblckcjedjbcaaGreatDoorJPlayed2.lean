/-
  TrieOfNothing: one act on both: the acts that only ask.
-/
import Derived.Test.YtbblckcjedjbcaaGreatDoorJPlayed1
namespace Go.Proofs.YtbblckcjedjbcaaGreatDoor.J
open Go.RowKit Go.Maps
set_option linter.unusedVariables false
set_option linter.unusedSimpArgs false

theorem ts_nil (w : World) : TsAt w (.slice none 0 0) [] := World.ownsRow_nil _ _ _ _
set_option maxHeartbeats 6400000 in
set_option maxRecDepth 100000 in
theorem playN_4 (X : Nat) (s i : Int) (p : ByteArray) (k f : Int) (w : World) (hg : Ground w) (hx : XBx w X) :
    Calls Tryz.prog 25 #[.pointer none, .pointer (some ⟨X, 0, none⟩), .agg #[.int .i64 4, .int .i64 s, .int .i64 i, .string p, .int .i64 k, .int .i64 f]] w fun e w' => e = .returned (.bool true) ∧ Below w.heap.size w w' := by
  obtain ⟨w0, hw0⟩ : ∃ w0, w.alloc (.cells #[.int .i64 4, .int .i64 s, .int .i64 i, .string p, .int .i64 k, .int .i64 f] 72) = w0 := ⟨_, rfl⟩
  have HB0 : Hid (Below w.heap.size w w0) := by rw [← hw0]; exact (Below.refl _ _).alloc (Nat.le_refl _) _
  have hb0 : w0.heap[w.heap.size]? = some (.cells #[.int .i64 4, .int .i64 s, .int .i64 i, .string p, .int .i64 k, .int .i64 f] 72 (0, 0)) := by rw [← hw0]; exact heap_alloc_new _ _
  have HA0 : Hid (w0.heap[w.heap.size]? = some (.cells #[.int .i64 4, .int .i64 s, .int .i64 i, .string p, .int .i64 k, .int .i64 f] 72 (0, 0))) := hb0
  have HX0 : Hid (XBx w0 X) := kept_block HB0.out hx
  have HG0 : Hid (Ground w0) := hg.below HB0.out
  obtain ⟨a0, a1, a2, a3, a4, a5⟩ := cells_6 hb0
  obtain ⟨c0, c1⟩ := cells_2 HX0.out
  have HW : Hid (w.alloc (.cells #[.int .i64 4, .int .i64 s, .int .i64 i, .string p, .int .i64 k, .int .i64 f] 72) = w0) := hw0
  clear hg hx hb0
  obtain ⟨w2, hw2⟩ : ∃ w2, w0.alloc (.cells #[.int .i64 k, .string p, .string ⟨#[100]⟩, .int .i64 3] 24) = w2 := ⟨_, rfl⟩
  have HB2 : Hid (Below w0.heap.size w0 w2) := by rw [← hw2]; exact (Below.refl _ _).alloc (Nat.le_refl _) _
  have HD2 : Hid (w2.heap[w0.heap.size]? = some (.cells #[.int .i64 k, .string p, .string ⟨#[100]⟩, .int .i64 3] 24 (0, 0))) := by show _ = _; rw [← hw2]; exact heap_alloc_new _ _
  have HSZ : Hid (w0.heap.size = w.heap.size + 1) := by show _ = _; rw [← HW.out]; simp
  have HM : Hid _ := match_nil f k p ⟨#[100]⟩ 3 w2 (HG0.out.below HB2.out)
  have HM0 : Hid (∀ W, _) := fun W => match0 f k p ⟨#[100]⟩ 3 W
  have HST : Hid (∀ W, _) := fun W => sameTagsQ (.slice none 0 0) (.slice none 0 0) [] W (ts_nil _) (ts_nil _) (by simp)
  have HW2 : Hid (w0.alloc (.cells #[.int .i64 k, .string p, .string ⟨#[100]⟩, .int .i64 3] 24) = w2) := hw2
  clear hw2
  go_enter Tryz.func25, Tryz.ntmps25
  rw [← hw0] at a0 a1 a2 a3 a4 a5 c0 c1
  clear hw0
  go_upto_region 17 with (first
    | (go_at_call 13; rw [HW.out, HW2.out]; refine Calls.mono HM.out ?_; rintro e w3 ⟨rfl, hb3⟩
       have HB3 : Hid (Below w0.heap.size w0 w3) := xtrans2 HB2.out hb3
       have HD3 : Hid (w3.heap[w.heap.size + 1]? = some (.cells #[.int .i64 k, .string p, .string ⟨#[100]⟩, .int .i64 3] 24 (0, 0))) := by rw [← HSZ.out]; exact kept_block hb3 HD2.out
       clear hb3 a0 a1 a2 a3 a4 a5 c0 c1)
    | fail)
  have HSW : Hid (∀ w', Below w3.heap.size w3 w' → w'.cell? ⟨X, 0, none⟩ = some (.bool true) ∧ w'.cell? ⟨X, 1, none⟩ = some (.slice none 0 0) ∧ w'.cell? ⟨w.heap.size, 5, none⟩ = some (.int .i64 f) ∧ w'.cell? ⟨w.heap.size + 1, 0, none⟩ = some (.int .i64 k) ∧ w'.cell? ⟨w.heap.size + 1, 1, none⟩ = some (.string p) ∧ w'.cell? ⟨w.heap.size + 1, 2, none⟩ = some (.string ⟨#[100]⟩) ∧ w'.cell? ⟨w.heap.size + 1, 3, none⟩ = some (.int .i64 3)) := fun w' hb => by
    obtain ⟨a0, a1, a2, a3, a4, a5⟩ := cells_6 (kept_block hb (kept_block HB3.out HA0.out))
    obtain ⟨c0, c1⟩ := cells_2 (kept_block hb (kept_block HB3.out HX0.out))
    obtain ⟨d0, d1, d2, d3⟩ := cells_4 (kept_block hb HD3.out)
    exact ⟨c0, c1, a5, d0, d1, d2, d3⟩
  obtain ⟨c0, c1, a5, d0, d1, d2, d3⟩ := HSW.out w3 (Below.refl _ _)
  have HB4 : Hid (Below w3.heap.size w3 w3) := Below.refl _ _
  have HB5 : Hid (Below w3.heap.size w3 w3) := Below.refl _ _
  go_region_held3 (fun w' => w'.cell? ⟨X, 0, none⟩ = some (.bool true) ∧ w'.cell? ⟨X, 1, none⟩ = some (.slice none 0 0) ∧ w'.cell? ⟨w.heap.size, 5, none⟩ = some (.int .i64 f) ∧ w'.cell? ⟨w.heap.size + 1, 0, none⟩ = some (.int .i64 k) ∧ w'.cell? ⟨w.heap.size + 1, 1, none⟩ = some (.string p) ∧ w'.cell? ⟨w.heap.size + 1, 2, none⟩ = some (.string ⟨#[100]⟩) ∧ w'.cell? ⟨w.heap.size + 1, 3, none⟩ = some (.int .i64 3))
      (first
      | (refine HSW.out _ ?_; repeat (first | exact Below.refl _ _ | exact HB5.out | exact HB4.out | refine below_drewN ?_ _ | refine below_drew ?_))
      | go_keep)
      (first
      | (go_at_call 52; refine Calls.mono (HM0.out _) ?_; rintro e w4 ⟨rfl, hb4⟩
         clear HB4
         have HB4 : Hid (Below w3.heap.size w3 w4) := (by first | exact of_drew hb4 | exact hb4)
         clear hb4)
      | (go_at_call 17; refine Calls.mono (HST.out _) ?_; rintro e w5 ⟨rfl, m5, hw5⟩
         clear HB5
         have HB5 : Hid (Below w3.heap.size w3 w5) := (by rw [hw5]; first | exact below_drewN HB4.out _ | exact below_drewN (below_drew HB4.out) _)
         clear hw5))
  go_wp2_with fail
  go_ret
  exact ⟨rfl, xtrans2 HB0.out (xtrans2 HB3.out HB5.out)⟩
set_option maxHeartbeats 6400000 in
set_option maxRecDepth 100000 in
theorem playN_5 (X : Nat) (s i : Int) (p : ByteArray) (k f : Int) (w : World) (hg : Ground w) (hx : XBx w X) :
    Calls Tryz.prog 25 #[.pointer none, .pointer (some ⟨X, 0, none⟩), .agg #[.int .i64 5, .int .i64 s, .int .i64 i, .string p, .int .i64 k, .int .i64 f]] w fun e w' => e = .returned (.bool true) ∧ Below w.heap.size w w' := by
  obtain ⟨w0, hw0⟩ : ∃ w0, w.alloc (.cells #[.int .i64 5, .int .i64 s, .int .i64 i, .string p, .int .i64 k, .int .i64 f] 72) = w0 := ⟨_, rfl⟩
  have HB0 : Hid (Below w.heap.size w w0) := by rw [← hw0]; exact (Below.refl _ _).alloc (Nat.le_refl _) _
  have hb0 : w0.heap[w.heap.size]? = some (.cells #[.int .i64 5, .int .i64 s, .int .i64 i, .string p, .int .i64 k, .int .i64 f] 72 (0, 0)) := by rw [← hw0]; exact heap_alloc_new _ _
  have HA0 : Hid (w0.heap[w.heap.size]? = some (.cells #[.int .i64 5, .int .i64 s, .int .i64 i, .string p, .int .i64 k, .int .i64 f] 72 (0, 0))) := hb0
  have HX0 : Hid (XBx w0 X) := kept_block HB0.out hx
  have HG0 : Hid (Ground w0) := hg.below HB0.out
  obtain ⟨a0, a1, a2, a3, a4, a5⟩ := cells_6 hb0
  obtain ⟨c0, c1⟩ := cells_2 HX0.out
  have HW : Hid (w.alloc (.cells #[.int .i64 5, .int .i64 s, .int .i64 i, .string p, .int .i64 k, .int .i64 f] 72) = w0) := hw0
  clear hg hx hb0
  have HON : Hid (∀ W, _) := fun W => ofNil W s
  have HO0 : Hid (∀ W, _) := fun W => of0 s W
  have HST : Hid (∀ W, _) := fun W => sameWatchesQ (.slice none 0 0) (.slice none 0 0) [] W (World.ownsRow_nil _ _ _ _) (World.ownsRow_nil _ _ _ _) (by simp)
  have HSW : Hid (∀ w', Below w0.heap.size w0 w' → w'.cell? ⟨X, 0, none⟩ = some (.bool true) ∧ w'.cell? ⟨X, 1, none⟩ = some (.slice none 0 0) ∧ w'.cell? ⟨w.heap.size, 1, none⟩ = some (.int .i64 s)) := fun w' hb => by
    obtain ⟨a0, a1, a2, a3, a4, a5⟩ := cells_6 (kept_block hb HA0.out)
    obtain ⟨c0, c1⟩ := cells_2 (kept_block hb HX0.out)
    exact ⟨c0, c1, a1⟩
  go_enter Tryz.func25, Tryz.ntmps25
  rw [← hw0] at a0 a1 a2 a3 a4 a5 c0 c1
  clear hw0
  go_upto_region 20 with (first
    | (go_at_call 14; rw [HW.out]; refine Calls.mono (HON.out _) ?_; rintro e w3 ⟨rfl, rfl⟩
       clear a0 a1 a2 a3 a4 a5 c0 c1)
    | fail)
  obtain ⟨c0, c1, a1⟩ := HSW.out w3 (Below.refl _ _)
  have HB4 : Hid (Below w3.heap.size w3 w3) := Below.refl _ _
  have HB5 : Hid (Below w3.heap.size w3 w3) := Below.refl _ _
  go_region_held3 (fun w' => w'.cell? ⟨X, 0, none⟩ = some (.bool true) ∧ w'.cell? ⟨X, 1, none⟩ = some (.slice none 0 0) ∧ w'.cell? ⟨w.heap.size, 1, none⟩ = some (.int .i64 s))
      (first
      | (refine HSW.out _ ?_; repeat (first | exact Below.refl _ _ | exact HB5.out | exact HB4.out | refine below_drewN ?_ _ | refine below_drew ?_))
      | go_keep)
      (first
      | (go_at_call 53; refine Calls.mono (HO0.out _) ?_; rintro e w4 ⟨rfl, hb4⟩
         clear HB4
         have HB4 : Hid (Below w3.heap.size w3 w4) := (by first | exact of_drew hb4 | exact hb4)
         clear hb4)
      | (go_at_call 20; refine Calls.mono (HST.out _) ?_; rintro e w5 ⟨rfl, m5, hw5⟩
         clear HB5
         have HB5 : Hid (Below w3.heap.size w3 w5) := (by rw [hw5]; first | exact below_drewN HB4.out _ | exact below_drewN (below_drew HB4.out) _)
         clear hw5))
  go_wp2_with fail
  go_ret
  exact ⟨rfl, xtrans2 HB0.out HB5.out⟩
set_option maxHeartbeats 6400000 in
set_option maxRecDepth 100000 in
theorem playN_6 (X : Nat) (s i : Int) (p : ByteArray) (k f : Int) (w : World) (hg : Ground w) (hx : XBx w X) :
    Calls Tryz.prog 25 #[.pointer none, .pointer (some ⟨X, 0, none⟩), .agg #[.int .i64 6, .int .i64 s, .int .i64 i, .string p, .int .i64 k, .int .i64 f]] w fun e w' => e = .returned (.bool true) ∧ Below w.heap.size w w' := by
  obtain ⟨w0, hw0⟩ : ∃ w0, w.alloc (.cells #[.int .i64 6, .int .i64 s, .int .i64 i, .string p, .int .i64 k, .int .i64 f] 72) = w0 := ⟨_, rfl⟩
  have HB0 : Hid (Below w.heap.size w w0) := by rw [← hw0]; exact (Below.refl _ _).alloc (Nat.le_refl _) _
  have hb0 : w0.heap[w.heap.size]? = some (.cells #[.int .i64 6, .int .i64 s, .int .i64 i, .string p, .int .i64 k, .int .i64 f] 72 (0, 0)) := by rw [← hw0]; exact heap_alloc_new _ _
  have HA0 : Hid (w0.heap[w.heap.size]? = some (.cells #[.int .i64 6, .int .i64 s, .int .i64 i, .string p, .int .i64 k, .int .i64 f] 72 (0, 0))) := hb0
  have HX0 : Hid (XBx w0 X) := kept_block HB0.out hx
  have HG0 : Hid (Ground w0) := hg.below HB0.out
  obtain ⟨a0, a1, a2, a3, a4, a5⟩ := cells_6 hb0
  obtain ⟨c0, c1⟩ := cells_2 HX0.out
  have HW : Hid (w.alloc (.cells #[.int .i64 6, .int .i64 s, .int .i64 i, .string p, .int .i64 k, .int .i64 f] 72) = w0) := hw0
  clear hg hx hb0
  have HON : Hid (∀ W, _) := fun W => sizeNil W
  have HO0 : Hid (∀ W, _) := fun W => size0 W
  have HSW : Hid (∀ w', Below w0.heap.size w0 w' → w'.cell? ⟨X, 0, none⟩ = some (.bool true) ∧ w'.cell? ⟨X, 1, none⟩ = some (.slice none 0 0)) := fun w' hb => cells_2 (kept_block hb HX0.out)
  go_enter Tryz.func25, Tryz.ntmps25
  rw [← hw0] at a0 a1 a2 a3 a4 a5 c0 c1
  clear hw0
  go_upto_region 22 with fail
  rw [HW.out] at c0 c1 ⊢
  clear a0 a1 a2 a3 a4 a5
  have HB4 : Hid (Below w0.heap.size w0 w0) := Below.refl _ _
  have HB5 : Hid (Below w0.heap.size w0 w0) := Below.refl _ _
  go_region_held3 (fun w' => w'.cell? ⟨X, 0, none⟩ = some (.bool true) ∧ w'.cell? ⟨X, 1, none⟩ = some (.slice none 0 0))
      (first
      | (refine HSW.out _ ?_; repeat (first | exact Below.refl _ _ | exact HB5.out | exact HB4.out | refine below_drewN ?_ _ | refine below_drew ?_))
      | go_keep)
      (first
      | (go_at_call 54; refine Calls.mono (HO0.out _) ?_; rintro e w4 ⟨rfl, hb4⟩
         clear HB4
         have HB4 : Hid (Below w0.heap.size w0 w4) := (by first | exact of_drew hb4 | exact hb4 | exact xtrans2 HB5.out hb4 | exact xtrans2 (below_drew HB5.out) hb4 | exact xtrans2 (below_drewN HB5.out _) hb4)
         clear hb4)
      | (go_at_call 27; refine Calls.mono (HON.out _) ?_; rintro e w5 ⟨rfl, hw5⟩
         clear HB5
         have HB5 : Hid (Below w0.heap.size w0 w5) := (by rw [hw5]; first | exact HB4.out | exact below_drew HB4.out | exact below_drewN HB4.out _ | exact Below.refl _ _ | exact below_drew (Below.refl _ _))
         clear hw5))
  all_goals
    go_wp2_with fail
    go_ret
    exact ⟨by simp, xtrans2 HB0.out (by first | exact HB4.out | exact HB5.out | exact below_drew HB4.out | exact below_drewN HB4.out _ | exact below_drew HB5.out | exact below_drewN HB5.out _)⟩
set_option maxHeartbeats 6400000 in
set_option maxRecDepth 100000 in
theorem playN_7 (X : Nat) (s i : Int) (p : ByteArray) (k f : Int) (w : World) (hg : Ground w) (hx : XBx w X) :
    Calls Tryz.prog 25 #[.pointer none, .pointer (some ⟨X, 0, none⟩), .agg #[.int .i64 7, .int .i64 s, .int .i64 i, .string p, .int .i64 k, .int .i64 f]] w fun e w' => e = .returned (.bool true) ∧ Below w.heap.size w w' := by
  obtain ⟨w0, hw0⟩ : ∃ w0, w.alloc (.cells #[.int .i64 7, .int .i64 s, .int .i64 i, .string p, .int .i64 k, .int .i64 f] 72) = w0 := ⟨_, rfl⟩
  have HB0 : Hid (Below w.heap.size w w0) := by rw [← hw0]; exact (Below.refl _ _).alloc (Nat.le_refl _) _
  have hb0 : w0.heap[w.heap.size]? = some (.cells #[.int .i64 7, .int .i64 s, .int .i64 i, .string p, .int .i64 k, .int .i64 f] 72 (0, 0)) := by rw [← hw0]; exact heap_alloc_new _ _
  have HA0 : Hid (w0.heap[w.heap.size]? = some (.cells #[.int .i64 7, .int .i64 s, .int .i64 i, .string p, .int .i64 k, .int .i64 f] 72 (0, 0))) := hb0
  have HX0 : Hid (XBx w0 X) := kept_block HB0.out hx
  have HG0 : Hid (Ground w0) := hg.below HB0.out
  obtain ⟨a0, a1, a2, a3, a4, a5⟩ := cells_6 hb0
  obtain ⟨c0, c1⟩ := cells_2 HX0.out
  have HW : Hid (w.alloc (.cells #[.int .i64 7, .int .i64 s, .int .i64 i, .string p, .int .i64 k, .int .i64 f] 72) = w0) := hw0
  clear hg hx hb0
  have HON : Hid _ := walkNil w0
  have HO0 : Hid (∀ W, _) := fun W => walk0 W
  have HSS : Hid (∀ W, _) := fun W => sameSeatsE (.slice none 0 0) (.slice none 0 0) [] W (World.ownsRow_nil _ _ _ _) (World.ownsRow_nil _ _ _ _) (by simp)
  go_enter Tryz.func25, Tryz.ntmps25
  rw [← hw0] at a0 a1 a2 a3 a4 a5 c0 c1
  clear hw0
  go_wp2_with (first
    | (go_at_call 11; rw [HW.out]; refine Calls.mono HON.out ?_; rintro e w3 ⟨rfl, hb3⟩
       have HB3 : Hid (Below w0.heap.size w0 w3) := hb3
       clear a0 a1 a2 a3 a4 a5 c0 c1
       obtain ⟨c0, c1⟩ := cells_2 (kept_block hb3 HX0.out)
       clear hb3)
    | (go_at_call 55; refine Calls.mono (HO0.out _) ?_; rintro e w4 ⟨rfl, hb4⟩
       have HB4 : Hid (Below w0.heap.size w0 w4) := xtrans2 HB3.out hb4
       clear c0 c1 hb4)
    | (go_at_call 22; refine Calls.mono (HSS.out _) ?_; rintro e w5 ⟨rfl, hb5⟩
       have HB5 : Hid (Below w0.heap.size w0 w5) := xtrans2 HB4.out hb5
       clear hb5)
    | fail)
  go_ret
  exact ⟨rfl, xtrans2 HB0.out HB5.out⟩
set_option maxHeartbeats 6400000 in
set_option maxRecDepth 100000 in
theorem playN_else (K : Int) (n1 : ¬ K = 1) (n2 : ¬ K = 2) (n3 : ¬ K = 3) (n4 : ¬ K = 4) (n5 : ¬ K = 5) (n6 : ¬ K = 6) (n7 : ¬ K = 7) (X : Nat) (s i : Int) (p : ByteArray) (k f : Int) (w : World) (hg : Ground w) (hx : XBx w X) :
    Calls Tryz.prog 25 #[.pointer none, .pointer (some ⟨X, 0, none⟩), .agg #[.int .i64 K, .int .i64 s, .int .i64 i, .string p, .int .i64 k, .int .i64 f]] w fun e w' => e = .returned (.bool true) ∧ Below w.heap.size w w' := by
  obtain ⟨w0, hw0⟩ : ∃ w0, w.alloc (.cells #[.int .i64 K, .int .i64 s, .int .i64 i, .string p, .int .i64 k, .int .i64 f] 72) = w0 := ⟨_, rfl⟩
  have HB0 : Hid (Below w.heap.size w w0) := by rw [← hw0]; exact (Below.refl _ _).alloc (Nat.le_refl _) _
  have hb0 : w0.heap[w.heap.size]? = some (.cells #[.int .i64 K, .int .i64 s, .int .i64 i, .string p, .int .i64 k, .int .i64 f] 72 (0, 0)) := by rw [← hw0]; exact heap_alloc_new _ _
  have HA0 : Hid (w0.heap[w.heap.size]? = some (.cells #[.int .i64 K, .int .i64 s, .int .i64 i, .string p, .int .i64 k, .int .i64 f] 72 (0, 0))) := hb0
  have HX0 : Hid (XBx w0 X) := kept_block HB0.out hx
  have HG0 : Hid (Ground w0) := hg.below HB0.out
  obtain ⟨a0, a1, a2, a3, a4, a5⟩ := cells_6 hb0
  obtain ⟨c0, c1⟩ := cells_2 HX0.out
  have HW : Hid (w.alloc (.cells #[.int .i64 K, .int .i64 s, .int .i64 i, .string p, .int .i64 k, .int .i64 f] 72) = w0) := hw0
  clear hg hx hb0
  go_enter Tryz.func25, Tryz.ntmps25
  rw [← hw0] at a0 a1 a2 a3 a4 a5 c0 c1
  clear hw0
  go_wp2_with fail
  go_ret
  first | exact ⟨rfl, HB0.out⟩ | exact ⟨rfl, (Below.refl _ _).alloc (Nat.le_refl _) _⟩
theorem playN (X : Nat) (a : AcT) (w : World) (hg : Ground w) (hx : XBx w X) :
    Calls Tryz.prog 25 #[.pointer none, .pointer (some ⟨X, 0, none⟩), a.val] w fun e w' => e = .returned (.bool true) ∧ Below w.heap.size w w' := by
  obtain ⟨K, s, i, p, k, f⟩ := a
  by_cases h1 : K = 1
  · subst h1; exact playN_1 X s i p k f w hg hx
  by_cases h2 : K = 2
  · subst h2; exact playN_2 X s i p k f w hg hx
  by_cases h3 : K = 3
  · subst h3; exact playN_3 X s i p k f w hg hx
  by_cases h4 : K = 4
  · subst h4; exact playN_4 X s i p k f w hg hx
  by_cases h5 : K = 5
  · subst h5; exact playN_5 X s i p k f w hg hx
  by_cases h6 : K = 6
  · subst h6; exact playN_6 X s i p k f w hg hx
  by_cases h7 : K = 7
  · subst h7; exact playN_7 X s i p k f w hg hx
  exact playN_else K h1 h2 h3 h4 h5 h6 h7 X s i p k f w hg hx
end Go.Proofs.YtbblckcjedjbcaaGreatDoor.J
