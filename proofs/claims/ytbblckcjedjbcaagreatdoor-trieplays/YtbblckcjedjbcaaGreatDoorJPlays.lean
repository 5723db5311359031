import Derived.Test.YtbblckcjedjbcaaGreatDoorJPlayG
import Derived.Test.YtbblckcjedjbcaaGreatDoorJWalkW
import Derived.Test.YtbblckcjedjbcaaGreatDoorJSize9
import Derived.Test.YtbblckcjedjbcaaGreatDoorJSame
import Derived.Test.YtbblckcjedjbcaaGreatDoorXSameE
import Derived.Test.YtbblckcjedjbcaaGreatDoorJOf
namespace Go.Proofs.YtbblckcjedjbcaaGreatDoor.J
open Go.RowKit Go.Maps
set_option linter.unusedVariables false
set_option linter.unusedSimpArgs false

theorem mat_len (L : List On) (stamp ck : Int) (cp : ByteArray) : (matO L stamp ck cp).length ≤ L.length := by
  unfold matO
  rw [List.length_map]
  exact List.length_filter_le _ _
theorem was_len (L : List On) (s : Int) : (wasO L s).length ≤ L.length := by
  unfold wasO ofO
  rw [List.length_map]
  exact List.length_filter_le _ _
set_option maxHeartbeats 6400000 in
set_option maxRecDepth 100000 in
theorem playH_5 (C : Nat → Prop) (B X : Nat) (a : Option Addr) (c n : Nat) (L : List On) (s i : Int) (p : ByteArray) (k f : Int) (w : World) (hP : Pr w C B X (.slice a n c) L) (hn : L.length = n) (hlen : L.length ≤ 1000) (hwf : wfI s) :
    Calls Tryz.prog 25 #[ndV B, .pointer (some ⟨X, 0, none⟩), .agg #[.int .i64 5, .int .i64 s, .int .i64 i, .string p, .int .i64 k, .int .i64 f]] w fun e w' => e = .returned (.bool true) ∧ Below w.heap.size w w' := by
  have hl : n ≤ 100000 := by omega
  obtain ⟨w0, hw0⟩ : ∃ w0, w.alloc (.cells #[.int .i64 5, .int .i64 s, .int .i64 i, .string p, .int .i64 k, .int .i64 f] 72) = w0 := ⟨_, rfl⟩
  have HB0 : Hid (Below w.heap.size w w0) := by rw [← hw0]; exact (Below.refl _ _).alloc (Nat.le_refl _) _
  have hb0 : w0.heap[w.heap.size]? = some (.cells #[.int .i64 5, .int .i64 s, .int .i64 i, .string p, .int .i64 k, .int .i64 f] 72 (0, 0)) := by rw [← hw0]; exact heap_alloc_new _ _
  have HA0 : Hid (w0.heap[w.heap.size]? = some (.cells #[.int .i64 5, .int .i64 s, .int .i64 i, .string p, .int .i64 k, .int .i64 f] 72 (0, 0))) := hb0
  have HP0 : Hid (Pr w0 C B X (.slice a n c) L) := hP.below HB0.out
  have HX0 : Hid (w0.heap[X]? = some (.cells #[.bool false, .slice a n c] 69 (0, 0))) := HP0.out.box
  obtain ⟨a0, a1, a2, a3, a4, a5⟩ := cells_6 hb0
  obtain ⟨c0, c1⟩ := cells_2 HX0.out
  have HW : Hid (w.alloc (.cells #[.int .i64 5, .int .i64 s, .int .i64 i, .string p, .int .i64 k, .int .i64 f] 72) = w0) := hw0
  clear hP hb0
  have HON : Hid _ := ofA w0 C B L s HP0.out.at' hlen hwf
  obtain ⟨ts, hts⟩ : ∃ ts, wasO L s = ts := ⟨_, rfl⟩
  have htl : ts.length ≤ 100000 := by rw [← hts]; have := was_len L s; omega
  have HO0 : Hid (∀ W, Below w0.heap.size w0 W → _) := fun W hb => of9 a c n L s W (HP0.out.row.below hb) hn hl
  have HST : Hid (∀ (W : World) (v u : Value), W.ownsRow 0 40 4 v ts.length (waCs ts) → W.ownsRow 0 40 4 u ts.length (waCs ts) → _) := fun W v u h1 h2 => sameWatchesQ v u ts W h1 h2 htl
  rw [hts] at HON HO0
  have HSW' : Hid (∀ w', Below w0.heap.size w0 w' → w'.cell? ⟨X, 0, none⟩ = some (.bool false) ∧ w'.cell? ⟨X, 1, none⟩ = some (.slice a n c) ∧ w'.cell? ⟨w.heap.size, 1, none⟩ = some (.int .i64 s)) := fun w' hb => by
    obtain ⟨a0, a1, a2, a3, a4, a5⟩ := cells_6 (kept_block hb HA0.out)
    obtain ⟨c0, c1⟩ := cells_2 (kept_block hb HX0.out)
    exact ⟨c0, c1, a1⟩
  clear hts htl
  go_enter Tryz.func25, Tryz.ntmps25
  rw [← hw0] at a0 a1 a2 a3 a4 a5 c0 c1
  clear hw0
  go_upto_region 20 with (first
    | (go_at_call 14; rw [HW.out]; refine Calls.mono HON.out ?_; rintro e w3 ⟨v3, rfl, ho3, hb3⟩
       have HB3 : Hid (Below w0.heap.size w0 w3) := hb3
       have HV3 : Hid (w3.ownsRow 0 40 4 v3 ts.length (waCs ts)) := owns_lo ho3 (Nat.zero_le _)
       clear hb3 ho3 a0 a1 a2 a3 a4 a5 c0 c1)
    | fail)
  have HSW : Hid (∀ w', Below w3.heap.size w3 w' → w'.cell? ⟨X, 0, none⟩ = some (.bool false) ∧ w'.cell? ⟨X, 1, none⟩ = some (.slice a n c) ∧ w'.cell? ⟨w.heap.size, 1, none⟩ = some (.int .i64 s)) := fun w' hb => HSW'.out w' (xtrans2 HB3.out hb)
  obtain ⟨c0, c1, a1⟩ := HSW.out w3 (Below.refl _ _)
  have HB4 : Hid (Below w3.heap.size w3 w3) := Below.refl _ _
  have HB5 : Hid (Below w3.heap.size w3 w3) := Below.refl _ _
  go_region_held3 (fun w' => w'.cell? ⟨X, 0, none⟩ = some (.bool false) ∧ w'.cell? ⟨X, 1, none⟩ = some (.slice a n c) ∧ w'.cell? ⟨w.heap.size, 1, none⟩ = some (.int .i64 s))
      (first
      | (refine HSW.out _ ?_; repeat (first | exact Below.refl _ _ | exact HB5.out | exact HB4.out | refine below_drewN ?_ _ | refine below_drew ?_))
      | go_keep)
      (first
      | (go_at_call 53; refine Calls.mono (HO0.out _ (by first | exact below_drew HB3.out | exact HB3.out)) ?_; rintro e w4 ⟨v4, rfl, ho4, hb4⟩
         clear HB4
         have HB4 : Hid (Below w3.heap.size w3 w4) := (by first | exact of_drew hb4 | exact hb4)
         have HV4 : Hid (w4.ownsRow 0 40 4 v3 ts.length (waCs ts)) := owns_below HV3.out HB4.out
         have HU4 : Hid (w4.ownsRow 0 40 4 v4 ts.length (waCs ts)) := owns_lo ho4 (Nat.zero_le _)
         clear hb4 ho4)
      | (go_at_call 20; refine Calls.mono (HST.out _ _ _ (by first | exact HV4.out | exact owns_below HV4.out (below_drewN (Below.refl _ _) _)) (by first | exact HU4.out | exact owns_below HU4.out (below_drewN (Below.refl _ _) _))) ?_; rintro e w5 ⟨rfl, m5, hw5⟩
         clear HB5
         have HB5 : Hid (Below w3.heap.size w3 w5) := (by rw [hw5]; first | exact below_drewN HB4.out _ | exact below_drewN (below_drew HB4.out) _)
         clear hw5))
  go_wp2_with fail
  go_ret
  exact ⟨rfl, xtrans2 HB0.out (xtrans2 HB3.out HB5.out)⟩
set_option maxHeartbeats 6400000 in
set_option maxRecDepth 100000 in
theorem playH_6 (C : Nat → Prop) (B X : Nat) (a : Option Addr) (c n : Nat) (L : List On) (s i : Int) (p : ByteArray) (k f : Int) (w : World) (hP : Pr w C B X (.slice a n c) L) (hn : L.length = n) (hlen : L.length ≤ 1000) (hwf : wfI s) :
    Calls Tryz.prog 25 #[ndV B, .pointer (some ⟨X, 0, none⟩), .agg #[.int .i64 6, .int .i64 s, .int .i64 i, .string p, .int .i64 k, .int .i64 f]] w fun e w' => e = .returned (.bool true) ∧ Below w.heap.size w w' := by
  have hl : n ≤ 100000 := by omega
  obtain ⟨w0, hw0⟩ : ∃ w0, w.alloc (.cells #[.int .i64 6, .int .i64 s, .int .i64 i, .string p, .int .i64 k, .int .i64 f] 72) = w0 := ⟨_, rfl⟩
  have HB0 : Hid (Below w.heap.size w w0) := by rw [← hw0]; exact (Below.refl _ _).alloc (Nat.le_refl _) _
  have hb0 : w0.heap[w.heap.size]? = some (.cells #[.int .i64 6, .int .i64 s, .int .i64 i, .string p, .int .i64 k, .int .i64 f] 72 (0, 0)) := by rw [← hw0]; exact heap_alloc_new _ _
  have HA0 : Hid (w0.heap[w.heap.size]? = some (.cells #[.int .i64 6, .int .i64 s, .int .i64 i, .string p, .int .i64 k, .int .i64 f] 72 (0, 0))) := hb0
  have HP0 : Hid (Pr w0 C B X (.slice a n c) L) := hP.below HB0.out
  have HX0 : Hid (w0.heap[X]? = some (.cells #[.bool false, .slice a n c] 69 (0, 0))) := HP0.out.box
  obtain ⟨a0, a1, a2, a3, a4, a5⟩ := cells_6 hb0
  obtain ⟨c0, c1⟩ := cells_2 HX0.out
  have HW : Hid (w.alloc (.cells #[.int .i64 6, .int .i64 s, .int .i64 i, .string p, .int .i64 k, .int .i64 f] 72) = w0) := hw0
  clear hP hb0
  have HON : Hid (∀ W, Below w0.heap.size w0 W → _) := fun W hb => sizeA W C B L (HP0.out.at'.below hb) hlen
  have HO0 : Hid (∀ W, Below w0.heap.size w0 W → _) := fun W hb => size9 a c n L W HP0.out.at'.ok (HP0.out.row.below hb) hn hl
  have HSW : Hid (∀ w', Below w0.heap.size w0 w' → w'.cell? ⟨X, 0, none⟩ = some (.bool false) ∧ w'.cell? ⟨X, 1, none⟩ = some (.slice a n c)) := fun w' hb => cells_2 (kept_block hb HX0.out)
  go_enter Tryz.func25, Tryz.ntmps25
  rw [← hw0] at a0 a1 a2 a3 a4 a5 c0 c1
  clear hw0
  go_upto_region 22 with fail
  rw [HW.out] at c0 c1 ⊢
  clear a0 a1 a2 a3 a4 a5
  have HB4 : Hid (Below w0.heap.size w0 w0) := Below.refl _ _
  have HB5 : Hid (Below w0.heap.size w0 w0) := Below.refl _ _
  go_region_held3 (fun w' => w'.cell? ⟨X, 0, none⟩ = some (.bool false) ∧ w'.cell? ⟨X, 1, none⟩ = some (.slice a n c))
      (first
      | (refine HSW.out _ ?_; repeat (first | exact Below.refl _ _ | exact HB5.out | exact HB4.out | refine below_drewN ?_ _ | refine below_drew ?_))
      | go_keep)
      (first
      | (go_at_call 54; refine Calls.mono (HO0.out _ (by first | exact HB5.out | exact below_drew HB5.out | exact below_drewN HB5.out _)) ?_; rintro e w4 ⟨rfl, hb4⟩
         clear HB4
         have HB4 : Hid (Below w0.heap.size w0 w4) := (by first | exact of_drew hb4 | exact xtrans2 HB5.out hb4 | exact xtrans2 (below_drew HB5.out) hb4 | exact xtrans2 (below_drewN HB5.out _) hb4)
         clear hb4)
      | (go_at_call 27; refine Calls.mono (HON.out _ (by first | exact HB4.out | exact below_drew HB4.out | exact below_drewN HB4.out _)) ?_; rintro e w5 ⟨rfl, hb5⟩
         clear HB5
         have HB5 : Hid (Below w0.heap.size w0 w5) := (by first | exact of_drew hb5 | exact xtrans2 HB4.out hb5 | exact xtrans2 (below_drew HB4.out) hb5 | exact xtrans2 (below_drewN HB4.out _) hb5)
         clear hb5))
  all_goals
    go_wp2_with fail
    go_ret
    exact ⟨by simp, xtrans2 HB0.out (by first | exact HB4.out | exact HB5.out | exact below_drew HB4.out | exact below_drewN HB4.out _ | exact below_drew HB5.out | exact below_drewN HB5.out _)⟩
set_option maxHeartbeats 6400000 in
set_option maxRecDepth 100000 in
theorem playH_4 (C : Nat → Prop) (B X : Nat) (a : Option Addr) (c n : Nat) (L : List On) (s i : Int) (p : ByteArray) (k f : Int) (w : World) (hP : Pr w C B X (.slice a n c) L) (hn : L.length = n) (hlen : L.length ≤ 1000) (hwf : wfI s) :
    Calls Tryz.prog 25 #[ndV B, .pointer (some ⟨X, 0, none⟩), .agg #[.int .i64 4, .int .i64 s, .int .i64 i, .string p, .int .i64 k, .int .i64 f]] w fun e w' => e = .returned (.bool true) ∧ Below w.heap.size w w' := by
  have hl : n ≤ 100000 := by omega
  obtain ⟨w0, hw0⟩ : ∃ w0, w.alloc (.cells #[.int .i64 4, .int .i64 s, .int .i64 i, .string p, .int .i64 k, .int .i64 f] 72) = w0 := ⟨_, rfl⟩
  have HB0 : Hid (Below w.heap.size w w0) := by rw [← hw0]; exact (Below.refl _ _).alloc (Nat.le_refl _) _
  have hb0 : w0.heap[w.heap.size]? = some (.cells #[.int .i64 4, .int .i64 s, .int .i64 i, .string p, .int .i64 k, .int .i64 f] 72 (0, 0)) := by rw [← hw0]; exact heap_alloc_new _ _
  have HA0 : Hid (w0.heap[w.heap.size]? = some (.cells #[.int .i64 4, .int .i64 s, .int .i64 i, .string p, .int .i64 k, .int .i64 f] 72 (0, 0))) := hb0
  have HP0 : Hid (Pr w0 C B X (.slice a n c) L) := hP.below HB0.out
  have HX0 : Hid (w0.heap[X]? = some (.cells #[.bool false, .slice a n c] 69 (0, 0))) := HP0.out.box
  obtain ⟨a0, a1, a2, a3, a4, a5⟩ := cells_6 hb0
  obtain ⟨c0, c1⟩ := cells_2 HX0.out
  have HW : Hid (w.alloc (.cells #[.int .i64 4, .int .i64 s, .int .i64 i, .string p, .int .i64 k, .int .i64 f] 72) = w0) := hw0
  clear hP hb0
  obtain ⟨w2, hw2⟩ : ∃ w2, w0.alloc (.cells #[.int .i64 k, .string p, .string ⟨#[100]⟩, .int .i64 3] 24) = w2 := ⟨_, rfl⟩
  have HB2 : Hid (Below w0.heap.size w0 w2) := by rw [← hw2]; exact (Below.refl _ _).alloc (Nat.le_refl _) _
  have HSZ : Hid (w0.heap.size = w.heap.size + 1) := by show _ = _; rw [← HW.out]; simp
  have HD2 : Hid (w2.heap[w0.heap.size]? = some (.cells #[.int .i64 k, .string p, .string ⟨#[100]⟩, .int .i64 3] 24 (0, 0))) := by show _ = _; rw [← hw2]; exact heap_alloc_new _ _
  have HM : Hid _ := matchA w2 C B L f k p ⟨#[100]⟩ 3 (HP0.out.at'.below HB2.out) (HP0.out.gr.below HB2.out) hlen
  have HM0 : Hid (∀ W, Below w0.heap.size w0 W → _) := fun W hb => match9 a c n L f k p ⟨#[100]⟩ 3 W (HP0.out.row.below hb) hn hl
  obtain ⟨ts, hts⟩ : ∃ ts, matO L f k p = ts := ⟨_, rfl⟩
  have htl : ts.length ≤ 100000 := by rw [← hts]; have := mat_len L f k p; omega
  rw [hts] at HM HM0
  have HST : Hid (∀ (W : World) (v u : Value), TsAt W v ts → TsAt W u ts → _) := fun W v u h1 h2 => sameTagsQ v u ts W h1 h2 htl
  have HW2 : Hid (w0.alloc (.cells #[.int .i64 k, .string p, .string ⟨#[100]⟩, .int .i64 3] 24) = w2) := hw2
  clear hw2 hts htl
  go_enter Tryz.func25, Tryz.ntmps25
  rw [← hw0] at a0 a1 a2 a3 a4 a5 c0 c1
  clear hw0
  go_upto_region 17 with (first
    | (go_at_call 13; rw [HW.out, HW2.out]; refine Calls.mono HM.out ?_; rintro e w3 ⟨v3, rfl, ho3, hb3⟩
       have HB3 : Hid (Below w0.heap.size w0 w3) := xtrans2 HB2.out hb3
       have HD3 : Hid (w3.heap[w.heap.size + 1]? = some (.cells #[.int .i64 k, .string p, .string ⟨#[100]⟩, .int .i64 3] 24 (0, 0))) := by rw [← HSZ.out]; exact kept_block hb3 HD2.out
       have HV3 : Hid (TsAt w3 v3 ts) := owns_lo ho3 (Nat.zero_le _)
       clear hb3 ho3 a0 a1 a2 a3 a4 a5 c0 c1)
    | fail)
  have HSW : Hid (∀ w', Below w3.heap.size w3 w' → w'.cell? ⟨X, 0, none⟩ = some (.bool false) ∧ w'.cell? ⟨X, 1, none⟩ = some (.slice a n c) ∧ w'.cell? ⟨w.heap.size, 5, none⟩ = some (.int .i64 f) ∧ w'.cell? ⟨w.heap.size + 1, 0, none⟩ = some (.int .i64 k) ∧ w'.cell? ⟨w.heap.size + 1, 1, none⟩ = some (.string p) ∧ w'.cell? ⟨w.heap.size + 1, 2, none⟩ = some (.string ⟨#[100]⟩) ∧ w'.cell? ⟨w.heap.size + 1, 3, none⟩ = some (.int .i64 3)) := fun w' hb => by
    obtain ⟨a0, a1, a2, a3, a4, a5⟩ := cells_6 (kept_block hb (kept_block HB3.out HA0.out))
    obtain ⟨c0, c1⟩ := cells_2 (kept_block hb (kept_block HB3.out HX0.out))
    obtain ⟨d0, d1, d2, d3⟩ := cells_4 (kept_block hb HD3.out)
    exact ⟨c0, c1, a5, d0, d1, d2, d3⟩
  obtain ⟨c0, c1, a5, d0, d1, d2, d3⟩ := HSW.out w3 (Below.refl _ _)
  have HB4 : Hid (Below w3.heap.size w3 w3) := Below.refl _ _
  have HB5 : Hid (Below w3.heap.size w3 w3) := Below.refl _ _
  go_region_held3 (fun w' => w'.cell? ⟨X, 0, none⟩ = some (.bool false) ∧ w'.cell? ⟨X, 1, none⟩ = some (.slice a n c) ∧ w'.cell? ⟨w.heap.size, 5, none⟩ = some (.int .i64 f) ∧ w'.cell? ⟨w.heap.size + 1, 0, none⟩ = some (.int .i64 k) ∧ w'.cell? ⟨w.heap.size + 1, 1, none⟩ = some (.string p) ∧ w'.cell? ⟨w.heap.size + 1, 2, none⟩ = some (.string ⟨#[100]⟩) ∧ w'.cell? ⟨w.heap.size + 1, 3, none⟩ = some (.int .i64 3))
      (first
      | (refine HSW.out _ ?_; repeat (first | exact Below.refl _ _ | exact HB5.out | exact HB4.out | refine below_drewN ?_ _ | refine below_drew ?_))
      | go_keep)
      (first
      | (go_at_call 52; refine Calls.mono (HM0.out _ (by first | exact below_drew HB3.out | exact HB3.out)) ?_; rintro e w4 ⟨v4, rfl, ho4, hb4⟩
         clear HB4
         have HB4 : Hid (Below w3.heap.size w3 w4) := (by first | exact of_drew hb4 | exact hb4)
         have HV4 : Hid (TsAt w4 v3 ts) := owns_below HV3.out HB4.out
         have HU4 : Hid (TsAt w4 v4 ts) := owns_lo ho4 (Nat.zero_le _)
         clear hb4 ho4)
      | (go_at_call 17; refine Calls.mono (HST.out _ _ _ (by first | exact HV4.out | exact owns_below HV4.out (below_drewN (Below.refl _ _) _)) (by first | exact HU4.out | exact owns_below HU4.out (below_drewN (Below.refl _ _) _))) ?_; rintro e w5 ⟨rfl, m5, hw5⟩
         clear HB5
         have HB5 : Hid (Below w3.heap.size w3 w5) := (by rw [hw5]; first | exact below_drewN HB4.out _ | exact below_drewN (below_drew HB4.out) _)
         clear hw5))
  go_wp2_with fail
  go_ret
  exact ⟨rfl, xtrans2 HB0.out (xtrans2 HB3.out HB5.out)⟩
set_option maxHeartbeats 6400000 in
set_option maxRecDepth 100000 in
theorem playH_7 (C : Nat → Prop) (B X : Nat) (a : Option Addr) (c n : Nat) (L : List On) (s i : Int) (p : ByteArray) (k f : Int) (w : World) (hP : Pr w C B X (.slice a n c) L) (hn : L.length = n) (hlen : L.length ≤ 1000) (hwf : wfI s) :
    Calls Tryz.prog 25 #[ndV B, .pointer (some ⟨X, 0, none⟩), .agg #[.int .i64 7, .int .i64 s, .int .i64 i, .string p, .int .i64 k, .int .i64 f]] w fun e w' => e = .returned (.bool true) ∧ Below w.heap.size w w' := by
  have hl : n ≤ 100000 := by omega
  obtain ⟨w0, hw0⟩ : ∃ w0, w.alloc (.cells #[.int .i64 7, .int .i64 s, .int .i64 i, .string p, .int .i64 k, .int .i64 f] 72) = w0 := ⟨_, rfl⟩
  have HB0 : Hid (Below w.heap.size w w0) := by rw [← hw0]; exact (Below.refl _ _).alloc (Nat.le_refl _) _
  have hb0 : w0.heap[w.heap.size]? = some (.cells #[.int .i64 7, .int .i64 s, .int .i64 i, .string p, .int .i64 k, .int .i64 f] 72 (0, 0)) := by rw [← hw0]; exact heap_alloc_new _ _
  have HA0 : Hid (w0.heap[w.heap.size]? = some (.cells #[.int .i64 7, .int .i64 s, .int .i64 i, .string p, .int .i64 k, .int .i64 f] 72 (0, 0))) := hb0
  have HP0 : Hid (Pr w0 C B X (.slice a n c) L) := hP.below HB0.out
  have HX0 : Hid (w0.heap[X]? = some (.cells #[.bool false, .slice a n c] 69 (0, 0))) := HP0.out.box
  obtain ⟨a0, a1, a2, a3, a4, a5⟩ := cells_6 hb0
  obtain ⟨c0, c1⟩ := cells_2 HX0.out
  have HW : Hid (w.alloc (.cells #[.int .i64 7, .int .i64 s, .int .i64 i, .string p, .int .i64 k, .int .i64 f] 72) = w0) := hw0
  clear hP hb0
  have HON : Hid _ := walkA w0 C B L HP0.out.at' hlen
  have HPS : Hid (∀ x ∈ L, x.p.size ≤ 102) := fun x hx => psize (HP0.out.at'.ok x hx)
  have HO0 : Hid (∀ W, Below w0.heap.size w0 W → _) := fun W hb => walk9 a c n L W HPS.out (HP0.out.row.below hb) hn hl
  rw [walkX_is HP0.out.at'] at HO0
  obtain ⟨ts, hts⟩ : ∃ ts, walkO L = ts := ⟨_, rfl⟩
  have htl : ts.length ≤ 100000 := by rw [← hts, (walkO_perm HP0.out.at').length_eq]; omega
  rw [hts] at HON HO0
  have HSS : Hid (∀ (W : World) (v u : Value), W.ownsRow 0 36 3 v ts.length (scO ts) → W.ownsRow 0 36 3 u ts.length (scO ts) → _) := fun W v u h1 h2 => sameSeatsE v u ts W h1 h2 htl
  clear hts htl
  go_enter Tryz.func25, Tryz.ntmps25
  rw [← hw0] at a0 a1 a2 a3 a4 a5 c0 c1
  clear hw0
  go_wp2_with (first
    | (go_at_call 11; rw [HW.out]; refine Calls.mono HON.out ?_; rintro e w3 ⟨v3, rfl, ho3, hb3⟩
       have HB3 : Hid (Below w0.heap.size w0 w3) := hb3
       have HV3 : Hid (w3.ownsRow 0 36 3 v3 ts.length (scO ts)) := owns_lo ho3 (Nat.zero_le _)
       clear a0 a1 a2 a3 a4 a5 c0 c1 ho3
       obtain ⟨c0, c1⟩ := cells_2 (kept_block hb3 HX0.out)
       clear hb3)
    | (go_at_call 55; refine Calls.mono (HO0.out _ HB3.out) ?_; rintro e w4 ⟨v4, rfl, ho4, hb4⟩
       have HB4 : Hid (Below w0.heap.size w0 w4) := xtrans2 HB3.out hb4
       have HV4 : Hid (w4.ownsRow 0 36 3 v3 ts.length (scO ts)) := owns_below HV3.out hb4
       have HU4 : Hid (w4.ownsRow 0 36 3 v4 ts.length (scO ts)) := owns_lo ho4 (Nat.zero_le _)
       clear c0 c1 hb4 ho4)
    | (go_at_call 22; refine Calls.mono (HSS.out _ _ _ HV4.out HU4.out) ?_; rintro e w5 ⟨rfl, hb5⟩
       have HB5 : Hid (Below w0.heap.size w0 w5) := xtrans2 HB4.out hb5
       clear hb5)
    | fail)
  go_ret
  exact ⟨rfl, xtrans2 HB0.out HB5.out⟩
end Go.Proofs.YtbblckcjedjbcaaGreatDoor.J
namespace Go.Proofs.YtbblckcjedjbcaaGreatDoor.J
open Go.RowKit Go.Maps
set_option linter.unusedVariables false
set_option linter.unusedSimpArgs false

/-- The watches behind an act. -/
def actL (a : AcT) (L : List On) : List On :=
  if a.K = 1 then (if addC L ⟨a.s, a.i, a.p, a.k, a.f⟩ = 0 then insO ⟨a.s, a.i, a.p, a.k, a.f⟩ L else L)
  else if a.K = 2 then delO L a.s a.i
  else if a.K = 3 then forO L a.s
  else L
theorem actL_len (a : AcT) (L : List On) : (actL a L).length ≤ L.length + 1 := by
  unfold actL
  split
  · split
    · rw [insO_len]; omega
    · omega
  · split
    · have h : (delO L a.s a.i).length ≤ L.length := List.length_filter_le _ _
      omega
    · split
      · have h : (forO L a.s).length ≤ L.length := List.length_filter_le _ _
        omega
      · omega
theorem PlG.of_below {w w' : World} {K : Nat → Prop} {X : Nat} {v : Value} (hb : Below w.heap.size w w') : PlG w w' K X K v v := ⟨Chg.of_below hb _, fun k hk => .inl hk, fun k hk => .inl hk⟩
set_option maxHeartbeats 6400000 in
set_option maxRecDepth 100000 in
theorem playG_else (K : Int) (n1 : ¬ K = 1) (n2 : ¬ K = 2) (n3 : ¬ K = 3) (n4 : ¬ K = 4) (n5 : ¬ K = 5) (n6 : ¬ K = 6) (n7 : ¬ K = 7) (B X : Nat) (s i : Int) (p : ByteArray) (k f : Int) (w : World) :
    Calls Tryz.prog 25 #[ndV B, .pointer (some ⟨X, 0, none⟩), .agg #[.int .i64 K, .int .i64 s, .int .i64 i, .string p, .int .i64 k, .int .i64 f]] w fun e w' => e = .returned (.bool true) ∧ Below w.heap.size w w' := by
  obtain ⟨w0, hw0⟩ : ∃ w0, w.alloc (.cells #[.int .i64 K, .int .i64 s, .int .i64 i, .string p, .int .i64 k, .int .i64 f] 72) = w0 := ⟨_, rfl⟩
  have HB0 : Hid (Below w.heap.size w w0) := by rw [← hw0]; exact (Below.refl _ _).alloc (Nat.le_refl _) _
  have hb0 : w0.heap[w.heap.size]? = some (.cells #[.int .i64 K, .int .i64 s, .int .i64 i, .string p, .int .i64 k, .int .i64 f] 72 (0, 0)) := by rw [← hw0]; exact heap_alloc_new _ _
  obtain ⟨a0, a1, a2, a3, a4, a5⟩ := cells_6 hb0
  clear hb0
  go_enter Tryz.func25, Tryz.ntmps25
  rw [← hw0] at a0 a1 a2 a3 a4 a5
  clear hw0
  go_wp2_with fail
  go_ret
  first | exact ⟨rfl, HB0.out⟩ | exact ⟨rfl, (Below.refl _ _).alloc (Nat.le_refl _) _⟩
theorem askG (C : Nat → Prop) (B X : Nat) (v : Value) (L : List On) (a : AcT) (w : World) (hP : Pr w C B X v L) (hlen : L.length ≤ 1000) (hwf : wfI a.s) (h4 : 4 ≤ a.K) (h7 : a.K ≤ 7) :
    Calls Tryz.prog 25 #[ndV B, .pointer (some ⟨X, 0, none⟩), a.val] w fun e w' => e = .returned (.bool true) ∧ Below w.heap.size w w' := by
  obtain ⟨K, s, i, p, k, f⟩ := a
  obtain ⟨b, c, rfl⟩ := hP.row.form
  have h : K = 4 ∨ K = 5 ∨ K = 6 ∨ K = 7 := by
    have h4' : 4 ≤ K := h4
    have h7' : K ≤ 7 := h7
    omega
  rcases h with rfl | rfl | rfl | rfl
  · exact playH_4 C B X b c _ L s i p k f w hP rfl hlen hwf
  · exact playH_5 C B X b c _ L s i p k f w hP rfl hlen hwf
  · exact playH_6 C B X b c _ L s i p k f w hP rfl hlen hwf
  · exact playH_7 C B X b c _ L s i p k f w hP rfl hlen hwf
theorem playG (C : Nat → Prop) (B X : Nat) (v : Value) (L : List On) (a : AcT) (w : World) (hP : Pr w C B X v L) (hlen : L.length ≤ 1000) (hwf : wfI a.s) :
    Calls Tryz.prog 25 #[ndV B, .pointer (some ⟨X, 0, none⟩), a.val] w fun e w' => e = .returned (.bool true) ∧ ∃ C' v', Pr w' C' B X v' (actL a L) ∧ PlG w w' C X C' v v' := by
  by_cases h1 : a.K = 1
  · obtain ⟨K, s, i, p, k, f⟩ := a
    obtain ⟨b, c, rfl⟩ := hP.row.form
    have h1' : K = 1 := h1
    subst h1'
    have e : actL ⟨1, s, i, p, k, f⟩ L = (if addC L ⟨s, i, p, k, f⟩ = 0 then insO ⟨s, i, p, k, f⟩ L else L) := if_pos rfl
    rw [e]
    exact playG_1 C B X b c _ L ⟨s, i, p, k, f⟩ w hP rfl hlen hwf
  by_cases h2 : a.K = 2
  · obtain ⟨K, s, i, p, k, f⟩ := a
    obtain ⟨b, c, rfl⟩ := hP.row.form
    have h2' : K = 2 := h2
    subst h2'
    have e : actL ⟨2, s, i, p, k, f⟩ L = delO L s i := (if_neg (show ¬ (2 : Int) = 1 by decide)).trans (if_pos rfl)
    rw [e]
    exact playG_2 C B X b c _ L ⟨s, i, p, k, f⟩ w hP rfl hlen hwf
  by_cases h3 : a.K = 3
  · obtain ⟨K, s, i, p, k, f⟩ := a
    obtain ⟨b, c, rfl⟩ := hP.row.form
    have h3' : K = 3 := h3
    subst h3'
    have e : actL ⟨3, s, i, p, k, f⟩ L = forO L s := (if_neg (show ¬ (3 : Int) = 1 by decide)).trans ((if_neg (show ¬ (3 : Int) = 2 by decide)).trans (if_pos rfl))
    rw [e]
    exact playG_3 C B X b c _ L ⟨s, i, p, k, f⟩ w hP rfl hlen hwf
  have e : actL a L = L := (if_neg h1).trans ((if_neg h2).trans (if_neg h3))
  rw [e]
  have hcl : ∀ {r : Ending} {w' : World}, (r = .returned (.bool true) ∧ Below w.heap.size w w') → (r = .returned (.bool true) ∧ ∃ C' v', Pr w' C' B X v' L ∧ PlG w w' C X C' v v') := fun h => ⟨h.1, C, v, hP.below h.2, PlG.of_below h.2⟩
  by_cases h47 : 4 ≤ a.K ∧ a.K ≤ 7
  · exact (askG C B X v L a w hP hlen hwf h47.1 h47.2).mono (fun r w' h => hcl h)
  · obtain ⟨K, s, i, p, k, f⟩ := a
    have h1' : ¬ K = 1 := h1
    have h2' : ¬ K = 2 := h2
    have h3' : ¬ K = 3 := h3
    have h47' : ¬ (4 ≤ K ∧ K ≤ 7) := h47
    exact (playG_else K h1' h2' h3' (by omega) (by omega) (by omega) (by omega) B X s i p k f w).mono (fun r w' h => hcl h)
set_option maxHeartbeats 6400000 in
set_option maxRecDepth 100000 in
theorem lookG (C : Nat → Prop) (B X : Nat) (v : Value) (L : List On) (a : AcT) (w : World) (hP : Pr w C B X v L) (hlen : L.length ≤ 1000) (hwf : wfI a.s) :
    Calls Tryz.prog 26 #[ndV B, .pointer (some ⟨X, 0, none⟩), a.val] w fun e w' => e = .returned (.bool true) ∧ Below w.heap.size w w' := by
  obtain ⟨K, s, i, p, k, f⟩ := a
  have HP0 : Hid (Pr w C B X v L) := hP
  have HWF : Hid (wfI s) := hwf
  have HLE : Hid (L.length ≤ 1000) := hlen
  obtain ⟨w0, hw0⟩ : ∃ w0, w.alloc (.cells #[.int .i64 K, .int .i64 s, .int .i64 i, .string p, .int .i64 k, .int .i64 f] 72) = w0 := ⟨_, rfl⟩
  have HB0 : Hid (Below w.heap.size w w0) := by rw [← hw0]; exact (Below.refl _ _).alloc (Nat.le_refl _) _
  have hb0 : w0.heap[w.heap.size]? = some (.cells #[.int .i64 K, .int .i64 s, .int .i64 i, .string p, .int .i64 k, .int .i64 f] 72 (0, 0)) := by rw [← hw0]; exact heap_alloc_new _ _
  have HSZ : Hid (w0.heap.size = w.heap.size + 1) := by show _ = _; rw [← hw0]; simp
  obtain ⟨w1, hw1⟩ : ∃ w1, w0.alloc (.cells #[.int .i64 4, .int .i64 0, .int .i64 i, .string p, .int .i64 k, .int .i64 f] 72) = w1 := ⟨_, rfl⟩
  have HB1 : Hid (Below w.heap.size w w1) := by rw [← hw1]; exact HB0.out.alloc HB0.out.size _
  have HA1 : Hid (w1.heap[w.heap.size]? = some (.cells #[.int .i64 K, .int .i64 s, .int .i64 i, .string p, .int .i64 k, .int .i64 f] 72 (0, 0))) := by show _ = _; rw [← hw1]; exact new_old hb0 _
  have HD1 : Hid (w1.heap[w.heap.size + 1]? = some (.cells #[.int .i64 4, .int .i64 0, .int .i64 i, .string p, .int .i64 k, .int .i64 f] 72 (0, 0))) := by show _ = _; rw [← hw1, ← HSZ.out]; exact heap_alloc_new _ _
  obtain ⟨a0, a1, a2, a3, a4, a5⟩ := cells_6 hb0
  have HW : Hid (w.alloc (.cells #[.int .i64 K, .int .i64 s, .int .i64 i, .string p, .int .i64 k, .int .i64 f] 72) = w0) := hw0
  have HW1 : Hid (w0.alloc (.cells #[.int .i64 4, .int .i64 0, .int .i64 i, .string p, .int .i64 k, .int .i64 f] 72) = w1) := hw1
  clear hb0 hw1 hP hwf hlen
  go_enter Tryz.func26, Tryz.ntmps26
  rw [← hw0] at a0 a1 a2 a3 a4 a5
  clear hw0
  go_wp2_with fail
  rw [HW.out, HW1.out]
  clear a0 a1 a2 a3 a4 a5
  go_loopw [8] (fun iv wr => ∃ q : Nat, iv = .int .i64 q ∧ 5 ≤ q ∧ q ≤ 8 ∧ Hid (Below w1.heap.size w1 wr)) (fun iv _ => 8 - (intOf iv).toNat)
  case atStart => exact ⟨5, rfl, by decide, by decide, Below.refl _ _⟩
  case round =>
    obtain ⟨q, rfl, hq5, hq8, HBr⟩ := hrel
    by_cases hlt : q < 8
    · have hlt' : (q : Int) ≤ 7 := by omega
      obtain ⟨a0, a1, a2, a3, a4, a5⟩ := cells_6 (kept_block HBr.out HA1.out)
      have HP : Hid _ := askG C B X v L ⟨q, s, 0, ⟨#[]⟩, 0, 0⟩ wr (HP0.out.below (xtrans2 HB1.out HBr.out)) HLE.out HWF.out (by show (4 : Int) ≤ (q : Int); omega) (by show (q : Int) ≤ 7; omega)
      go_wp2_with (first
        | (go_at_call 25; refine Calls.mono HP.out ?_; rintro e w2 ⟨rfl, hb2⟩
           have HB2 : Hid (Below w1.heap.size w1 w2) := xtrans2 HBr.out hb2
           clear hb2 a0 a1 a2 a3 a4 a5)
        | fail)
      go_roundw
      case rel => exact ⟨q + 1, by go_num, by omega, by omega, HB2⟩
      case measure => simp [intOf]; omega
    · have hge : ¬ (q : Int) ≤ 7 := by omega
      obtain ⟨w3, hw3⟩ : ∃ w3, wr = w3 := ⟨_, rfl⟩
      subst hw3
      have HB3 : Hid (Below w.heap.size w wr) := xtrans2 HB1.out HBr.out
      have HD3 : Hid (wr.heap[w.heap.size + 1]? = some (.cells #[.int .i64 4, .int .i64 0, .int .i64 i, .string p, .int .i64 k, .int .i64 f] 72 (0, 0))) := kept_block HBr.out HD1.out
      clear hq5 hq8 hlt HBr
      go_wp2_with fail
      go_loopw [10] (fun iv wq => ∃ (r : Nat) (kv : Int), iv = .int .i64 r ∧ 1 ≤ r ∧ r ≤ 4 ∧ Hid (Below w.heap.size w wq) ∧ Hid (wq.heap[w.heap.size + 1]? = some (.cells #[.int .i64 4, .int .i64 0, .int .i64 i, .string p, .int .i64 kv, .int .i64 f] 72 (0, 0)))) (fun iv _ => 4 - (intOf iv).toNat)
      case atStart => exact ⟨1, k, rfl, by decide, by decide, HB3, HD3⟩
      case round =>
        obtain ⟨r, kv, rfl, hq1, hq4, HBq, HDq⟩ := hrel
        by_cases hlt : r < 4
        · have hlt' : (r : Int) ≤ 3 := by omega
          obtain ⟨d0, d1, d2, d3, d4, d5⟩ := cells_6 HDq.out
          have fd := free_of HDq.out
          go_upto_region 12 with fail
          clear d0 d1 d2 d3 d4 d5 fd
          obtain ⟨w5, hw5⟩ : ∃ z, wr.setCell ⟨w.heap.size + 1, 4, none⟩ (.int .i64 r) = z := ⟨_, rfl⟩
          have HB5 : Hid (Below w.heap.size w w5) := by rw [← hw5]; exact HBq.out.setCell (Nat.le_succ _) _
          have HD5 : Hid (w5.heap[w.heap.size + 1]? = some (.cells #[.int .i64 4, .int .i64 0, .int .i64 i, .string p, .int .i64 r, .int .i64 f] 72 (0, 0))) := by show _ = _; rw [← hw5]; exact same_blk HDq.out rfl
          rw [hw5]
          clear hw5
          obtain ⟨d0, d1, d2, d3, d4, d5⟩ := cells_6 HD5.out
          have HP : Hid _ := askG C B X v L ⟨4, 0, i, p, r, f⟩ w5 (HP0.out.below HB5.out) HLE.out (show wfI 0 by unfold wfI; decide) (by show (4 : Int) ≤ 4; decide) (by show (4 : Int) ≤ 7; decide)
          go_wp2_with (first
            | (go_at_call 25; refine Calls.mono HP.out ?_; rintro e w2 ⟨rfl, hb2⟩
               have HB6 : Hid (Below w.heap.size w w2) := xtrans2 HB5.out hb2
               have HD6 : Hid (w2.heap[w.heap.size + 1]? = some (.cells #[.int .i64 4, .int .i64 0, .int .i64 i, .string p, .int .i64 r, .int .i64 f] 72 (0, 0))) := kept_block hb2 HD5.out
               clear hb2 d0 d1 d2 d3 d4 d5)
            | fail)
          go_roundw
          case rel => exact ⟨r + 1, _, by go_num, by omega, by omega, HB6, HD6⟩
          case measure => simp [intOf]; omega
        · have hge2 : ¬ (r : Int) ≤ 3 := by omega
          go_wp2_with fail
          go_ret
          exact ⟨rfl, HBq.out⟩
end Go.Proofs.YtbblckcjedjbcaaGreatDoor.J
namespace Go.Proofs.YtbblckcjedjbcaaGreatDoor.J
open Go.RowKit Go.Maps
set_option linter.unusedVariables false
set_option linter.unusedSimpArgs false

theorem PlG.low {w w' : World} {K K' : Nat → Prop} {X base : Nat} {v v' : Value} (h : PlG w w' K X K' v v') (hK : ∀ k, K k → base ≤ k) (hX : base ≤ X) (hB : base ≤ w.heap.size) : Below base w w' ∧ ∀ k, K' k → base ≤ k :=
  ⟨h.1.below hB (fun k _ e => e.elim (hK k) (fun e => e ▸ hX)), fun k hk => (h.2.1 k hk).elim (hK k) (fun e => Nat.le_trans hB e)⟩
/-- A trie that is zero, at B, and the document's, at X. -/
theorem Pr.zero {w : World} {B X : Nat} (hg : Ground w) (hb : w.heap[B]? = some (.cells #[.map none, .slice none 0 0, .map none] 81 (0, 0))) (hx : w.heap[X]? = some (.cells #[.bool false, .slice none 0 0] 69 (0, 0))) (hB : 2 ≤ B) (hX : 2 ≤ X) (hBX : B ≠ X) (hB1 : B ≠ 0 ∧ B ≠ 1) :
    Pr w (fun k => k = B) B X (.slice none 0 0) [] :=
  ⟨At.zero hb, hx, Ns.nil w, ⟨fun e => hB1.1 e.symm, fun e => hB1.2 e.symm⟩, hg, fun e => hBX e.symm, fun k hk => by (cases hk), by omega, by omega⟩
set_option maxHeartbeats 6400000 in
set_option maxRecDepth 100000 in
theorem TriePlays_walk (a : Option Addr) (c : Nat) (L : List AcT) (w : World) (hL : AcAt w a L) (hwf : ∀ x ∈ L, wfI x.s) (hlen : (L.length : Int) ≤ 9223372036854775807) (hg : Ground w) :
    Calls Tryz.prog 6 #[.slice a L.length c] w fun e w' => e = .returned (.bool true) ∧ Below w.heap.size w w' := by
  have HL : Hid (AcAt w a L) := hL
  have HG : Hid (Ground w) := hg
  have HWF : Hid (∀ x ∈ L, wfI x.s) := hwf
  obtain ⟨m, hm⟩ : ∃ m, L.length = m := ⟨_, rfl⟩
  have HM : Hid (L.length = m) := hm
  rw [hm] at hlen ⊢
  clear hL hg hm hwf
  go_enter Tryz.func6, Tryz.ntmps6
  go_wp2_with (first
    | (go_at_call 9; refine (begins_any w HG.out).mono ?_; rintro e w1 ⟨rfl, hb1⟩
       have HB1 : Hid (Below w.heap.size w w1) := hb1
       clear hb1)
    | (go_at_call 15; refine (newA w1).mono ?_; rintro e w2 ⟨rfl, rfl⟩)
    | fail)
  obtain ⟨w2, hw2⟩ : ∃ w2, w1.alloc (.cells #[.map none, .slice none 0 0, .map none] 81) = w2 := ⟨_, rfl⟩
  have HBL2 : Hid (w2.heap[w1.heap.size]? = some (.cells #[.map none, .slice none 0 0, .map none] 81 (0, 0))) := by show _ = _; rw [← hw2]; exact heap_alloc_new _ _
  have HS2 : Hid (w2.heap.size = w1.heap.size + 1) := by show _ = _; rw [← hw2]; simp
  have HB2 : Hid (Below w.heap.size w w2) := by rw [← hw2]; exact HB1.out.alloc HB1.out.size _
  rw [hw2]
  obtain ⟨w3, hw3⟩ : ∃ w3, w2.alloc (.cells #[.bool false, .slice none 0 0] 69) = w3 := ⟨_, rfl⟩
  have HP3 : Hid (Pr w3 (fun k => k = w1.heap.size) w1.heap.size w2.heap.size (.slice none 0 0) []) := by
    have h1 := (HG.out.below HB1.out).lt
    have h2 := HS2.out
    rw [← hw3]
    refine Pr.zero ((HG.out.below HB2.out).below ((Below.refl _ _).alloc (Nat.le_refl _) _)) (kept_block ((Below.refl _ _).alloc (Nat.le_refl _) _) HBL2.out) (heap_alloc_new _ _) (by omega) (by omega) (by omega) ⟨by omega, by omega⟩
  have HB3 : Hid (Below w.heap.size w w3) := by rw [← hw3]; exact HB2.out.alloc HB2.out.size _
  rw [hw3]
  clear hw2 hw3
  obtain ⟨B, hB⟩ : ∃ B, w1.heap.size = B := ⟨_, rfl⟩
  obtain ⟨X, hX⟩ : ∃ X, w2.heap.size = X := ⟨_, rfl⟩
  have HXl : Hid (w.heap.size ≤ X) := by have := HB2.out.size; show _ ≤ _; omega
  have HBl : Hid (w.heap.size ≤ B) := by have := HB1.out.size; show _ ≤ _; omega
  rw [hB, hX] at HP3
  have hBX : B + 1 = X := by have := HS2.out; omega
  rw [hB, hBX]
  clear hB hX hBX HS2 HBL2
  go_loopw [6] (fun iv wr => ∃ q : Nat, iv = .int .i64 q ∧ q ≤ m ∧ q ≤ 120 ∧ ∃ (K : Nat → Prop) (v : Value) (M : List On), Hid (M.length ≤ q) ∧ Hid (Pr wr K B X v M) ∧ Hid (∀ k, K k → w.heap.size ≤ k) ∧ Hid (Below w.heap.size w wr)) (fun iv _ => m - (intOf iv).toNat)
  case atStart => exact ⟨0, rfl, Nat.zero_le _, Nat.zero_le _, _, _, [], Nat.zero_le _, HP3.out, fun k hk => by rw [hk]; exact HBl.out, HB3.out⟩
  case round =>
    obtain ⟨q, rfl, hqm, hq120, K, v, M, HMq, HPr, HKl, HBr⟩ := hrel
    by_cases hlt : q < m
    · have hlt' : (q : Int) < (m : Int) := by omega
      by_cases h120 : q < 120
      · have h120' : (q : Int) < 120 := by omega
        obtain ⟨x, hx⟩ : ∃ x, L[q]? = some x := ⟨L[q]'(by rw [HM.out]; exact hlt), List.getElem?_eq_getElem _⟩
        have HQ : Hid (L[q]? = some x) := hx
        have HWX : Hid (wfI x.s) := HWF.out x (List.mem_of_getElem? hx)
        have HML : Hid (M.length ≤ 1000) := by have := HMq.out; show _ ≤ _; omega
        have HAL : Hid ((actL x M).length ≤ q + 1) := by have := HMq.out; have := actL_len x M; show _ ≤ _; omega
        obtain ⟨b, o, rfl, n0, n1, n2, n3, n4, n5⟩ := (HL.out.below HBr.out).at hx
        have HP : Hid _ := playG K B X v M x wr HPr.out HML.out HWX.out
        have HK : Hid (∀ (W : World) (K' : Nat → Prop) (v' : Value), Pr W K' B X v' (actL x M) → _) := fun W K' v' h => lookG K' B X v' (actL x M) x W h (by have := HAL.out; omega) HWX.out
        clear hx
        go_wp2_with (first
          | (go_at_call 25; refine Calls.mono HP.out ?_; rintro e w3 ⟨rfl, K3, v3, hP3, hG3⟩
             have HPQ : Hid (Pr w3 K3 B X v3 (actL x M)) := hP3
             have HLO : Hid (Below w.heap.size wr w3 ∧ ∀ k, K3 k → w.heap.size ≤ k) := hG3.low HKl.out HXl.out HBr.out.size
             have HBQ : Hid (Below w.heap.size w w3) := HBr.out.trans HLO.out.1
             clear n0 n1 n2 n3 n4 n5 hP3 hG3
             obtain ⟨b', o', he, n0, n1, n2, n3, n4, n5⟩ := (HL.out.below HBQ.out).at HQ.out
             simp only [Option.some.injEq, Addr.mk.injEq, and_true] at he
             obtain ⟨rfl, rfl⟩ := he)
          | (go_at_call 26; refine Calls.mono (HK.out _ _ _ HPQ.out) ?_; rintro e w4 ⟨rfl, hb4⟩
             have HP4 : Hid (Pr w4 K3 B X v3 (actL x M)) := HPQ.out.below hb4
             have HB4 : Hid (Below w.heap.size w w4) := xtrans2 HBQ.out hb4
             clear n0 n1 n2 n3 n4 n5 hb4)
          | fail)
        go_roundw
        case rel => exact ⟨q + 1, by go_num, by omega, by omega, K3, v3, _, HAL.out, HP4, HLO.out.2, HB4⟩
        case measure => simp [intOf]; omega
      · have h120' : ¬ (q : Int) < 120 := by omega
        go_wp2_with fail
        go_ret
        exact ⟨rfl, HBr.out⟩
    · have hlt' : ¬ (q : Int) < (m : Int) := by omega
      go_wp2_with fail
      go_ret
      exact ⟨rfl, HBr.out⟩
end Go.Proofs.YtbblckcjedjbcaaGreatDoor.J
