/-
  heraldlaw16: known.
-/
import Derived.Test.YtfcobhgjkibdgaaLPlayD
namespace Go.Proofs.Ytfcobhgjkibdgaa
open Go.RowKit
set_option linter.unusedVariables false
set_option linter.unusedSimpArgs false

def mk1 : MsT := ⟨1, 2, ⟨#[97, 98]⟩⟩
def mk2 : MsT := ⟨1, 2, ⟨#[97, 99]⟩⟩
def lk1 : LnT := ⟨[⟨1, mk1, false⟩], 1, false⟩
def lk2 : LnT := ⟨[⟨1, mk2, true⟩], 1, false⟩
def lk3 : LnT := ⟨[], 1, false⟩
theorem mk1_small : ∀ m ∈ [mk1], m.b.size ≤ 600 := by
  intro m hm
  obtain rfl : m = mk1 := by simpa using hm
  decide
theorem kn_send : ln0.send [mk1] = (lk1, [1]) := by kernel_rfl
theorem kn_spl : lk1.spl 1 3 1 = (lk2, 0) := by kernel_rfl
theorem kn_tak : lk2.tak 1 = (lk3, mk2, 0) := by kernel_rfl
theorem kn_tak2 : lk3.tak 1 = (lk3, msZ, 160) := by kernel_rfl
set_option maxHeartbeats 3200000 in
set_option maxRecDepth 100000 in
theorem known_any {At : World → (Nat → Prop) → LnT → Value → Prop} (sv : Lines At) (w : World) : Calls Try.prog 16 #[] w fun e w' => e = .returned (.bool true) ∧ Below w.heap.size w w' := by
  have hk1 : lk1.Ok := by have := ok0.send (l := [mk1]) mk1_small; rw [kn_send] at this; exact this
  have hk2 : lk2.Ok := by have := hk1.spl 1 3 1; rw [kn_spl] at this; exact this
  have hk3 : lk3.Ok := by have := hk2.tak 1; rw [kn_tak] at this; exact this
  have HK : Hid (lk1.Ok ∧ lk2.Ok ∧ lk3.Ok) := ⟨hk1, hk2, hk3⟩
  clear hk1 hk2 hk3
  go_enter Try.func16, Try.ntmps16
  go_wp2_with fail
  refine Calls.mono (sv.new w) ?_
  rintro e w1 ⟨b, K1, rfl, h1, hb1, hn1⟩
  have H1 : Hid (At w1 K1 ln0 (.pointer (some ⟨b, 0, none⟩)) ∧ Below w.heap.size w w1 ∧ ∀ j, K1 j → w.heap.size ≤ j) := ⟨h1, hb1, hn1⟩
  obtain ⟨W2, hW2⟩ : ∃ z, w1.alloc (.cells #[.int .i64 1, .int .i64 2, .string ⟨#[97, 98]⟩] 23) = z := ⟨_, rfl⟩
  have hb2 : Below w1.heap.size w1 W2 := by rw [← hW2]; exact (Below.refl _ _).alloc (Nat.le_refl _) _
  have hA2 : W2.heap[w1.heap.size]? = some (.cells #[.int .i64 1, .int .i64 2, .string ⟨#[97, 98]⟩] 23 (0, 0)) := by rw [← hW2]; exact heap_alloc_new _ _
  have HSD := sv.send W2 K1 ln0 (.pointer (some ⟨b, 0, none⟩)) (.slice (some ⟨w1.heap.size, 0, none⟩) 1 1) [mk1] (fun j => j = w1.heap.size) (sv.keep h1 (Kp.of_below hb2 _)) ok0
    ⟨_, 1, rfl, Nat.le_refl _, (fun h => by cases h), .inr ⟨w1.heap.size, 0, rfl, rfl, lt_of_blk hA2, fun i x hi => by
      cases i with
      | zero =>
        obtain rfl : mk1 = x := by simpa using hi
        obtain ⟨c0, c1, c2⟩ := cells_3 hA2
        exact ⟨c0, c1, c2⟩
      | succ i => simp at hi⟩⟩ (fun j hj hk => by have := sv.lt h1 j hk; rw [hj] at this; omega) mk1_small (by decide) (by decide)
  rw [kn_send] at HSD
  have HS : Hid _ := HSD
  have HB2 : Hid (Below w.heap.size w W2) := trans2 hb1 hb2
  have HW2 : Hid (_ = W2) := hW2
  clear HSD h1 hb1 hn1 hW2 hb2 hA2
  go_wp2_with fail
  rw [HW2.out]
  refine Calls.mono HS.out ?_
  rintro e w3 ⟨u, K3, rfl, hu, huk, hE3⟩
  obtain ⟨ug, uc, hus⟩ := row_some (n := 0) hu
  subst hus
  have hcu : w3.cell? ⟨ug, 0, none⟩ = some (.int .i64 1) := cell_n hu rfl
  have hug : ug < w3.heap.size ∧ W2.heap.size ≤ ug := ⟨(row_block hu ug rfl).2, (row_block hu ug rfl).1⟩
  have hnk3 : ¬ K3 ug := huk ug rfl
  have hSP := sv.spoil w3 K3 lk1 (.pointer (some ⟨b, 0, none⟩)) 1 3 1 hE3.at' HK.out.1 (by decide)
  rw [kn_spl] at hSP
  have HSP : Hid _ := hSP
  have HC3 : Hid (Chg W2 w3 K1 ∧ ∀ j, K3 j → K1 j ∨ W2.heap.size ≤ j) := ⟨hE3.chg, hE3.new⟩
  have HU3 : Hid (w3.cell? ⟨ug, 0, none⟩ = some (.int .i64 1) ∧ ug < w3.heap.size ∧ ¬ K3 ug) := ⟨hcu, hug.1, hnk3⟩
  clear hu huk hE3 hcu hug hnk3 hSP
  go_wp2_with fail
  refine Calls.mono HSP.out ?_
  rintro e w4 ⟨K4, rfl, hE4⟩
  have hTK := sv.take w4 K4 lk2 (.pointer (some ⟨b, 0, none⟩)) 1 hE4.at' HK.out.2.1 (by decide)
  rw [kn_tak] at hTK
  have HTK : Hid _ := hTK
  have HC4 : Hid (Chg w3 w4 K3 ∧ ∀ j, K4 j → K3 j ∨ w3.heap.size ≤ j) := ⟨hE4.chg, hE4.new⟩
  have HU4 : Hid (w4.cell? ⟨ug, 0, none⟩ = some (.int .i64 1) ∧ ug < w4.heap.size ∧ ¬ K4 ug) := ⟨by rw [World.cell?_of_block (w := w3) (hE4.chg.block ug HU3.out.2.1 HU3.out.2.2)]; exact HU3.out.1, Nat.lt_of_lt_of_le HU3.out.2.1 hE4.chg.size, fun hk => (hE4.new ug hk).elim HU3.out.2.2 (fun hh => by have := HU3.out.2.1; omega)⟩
  clear hE4 hTK
  go_wp2_with fail
  refine Calls.mono HTK.out ?_
  rintro e w5 ⟨K5, rfl, hE5⟩
  have HC5 : Hid (Chg w4 w5 K4 ∧ ∀ j, K5 j → K4 j ∨ w4.heap.size ≤ j) := ⟨hE5.chg, hE5.new⟩
  have hU5 : w5.cell? ⟨ug, 0, none⟩ = some (.int .i64 1) ∧ ug < w5.heap.size ∧ ¬ K5 ug := ⟨by rw [World.cell?_of_block (w := w4) (hE5.chg.block ug HU4.out.2.1 HU4.out.2.2)]; exact HU4.out.1, Nat.lt_of_lt_of_le HU4.out.2.1 hE5.chg.size, fun hk => (hE5.new ug hk).elim HU4.out.2.2 (fun hh => by have := HU4.out.2.1; omega)⟩
  obtain ⟨W6, hW6⟩ : ∃ z, w5.alloc (.cells #[.int .i64 1, .int .i64 2, .string ⟨#[97, 99]⟩] 23) = z := ⟨_, rfl⟩
  obtain ⟨g6, hg6⟩ : ∃ z, w5.heap.size = z := ⟨_, rfl⟩
  have hb6 : Below w5.heap.size w5 W6 := by rw [← hW6]; exact (Below.refl _ _).alloc (Nat.le_refl _) _
  have hA6 : W6.heap[g6]? = some (.cells #[.int .i64 1, .int .i64 2, .string ⟨#[97, 99]⟩] 23 (0, 0)) := by rw [← hW6, ← hg6]; exact heap_alloc_new _ _
  have hTK := sv.take W6 K5 lk3 (.pointer (some ⟨b, 0, none⟩)) 1 (sv.keep hE5.at' (Kp.of_below hb6 _)) HK.out.2.2 (by decide)
  rw [kn_tak2] at hTK
  have HTK2 : Hid _ := hTK
  have HW6 : Hid (_ = W6) := hW6
  have HA6 : Hid (W6.heap[g6]? = some (.cells #[.int .i64 1, .int .i64 2, .string ⟨#[97, 99]⟩] 23 (0, 0)) ∧ w5.heap.size = g6 ∧ ¬ K5 g6 ∧ Below w5.heap.size w5 W6) := ⟨hA6, hg6, fun hk => by have := sv.lt hE5.at' g6 hk; omega, hb6⟩
  have HU6 : Hid (W6.cell? ⟨ug, 0, none⟩ = some (.int .i64 1) ∧ ug < W6.heap.size ∧ ¬ K5 ug) := ⟨by rw [hb6.cell (p := ⟨ug, 0, none⟩) hU5.2.1]; exact hU5.1, Nat.lt_of_lt_of_le hU5.2.1 hb6.size, hU5.2.2⟩
  clear hE5 hU5 hW6 hg6 hb6 hA6 hTK
  go_upto_region 7 with fail
  simp only [mk2]
  rw [HW6.out, HA6.out.2.1]
  go_wp2_with fail
  refine Calls.mono HTK2.out ?_
  rintro e w7 ⟨K7, rfl, hE7⟩
  have u7 : w7.cell? ⟨ug, 0, none⟩ = some (.int .i64 1) := by rw [World.cell?_of_block (w := W6) (hE7.chg.block ug HU6.out.2.1 HU6.out.2.2)]; exact HU6.out.1
  have hbx : w7.heap[g6]? = some (.cells #[.int .i64 1, .int .i64 2, .string ⟨#[97, 99]⟩] 23 (0, 0)) := by rw [hE7.chg.block g6 (lt_of_blk HA6.out.1) HA6.out.2.2.1]; exact HA6.out.1
  obtain ⟨m0, m1, m2⟩ := cells_3 hbx
  have hug7 : ug < w7.heap.size := Nat.lt_of_lt_of_le HU6.out.2.1 hE7.chg.size
  have hgg7 : g6 < w7.heap.size := lt_of_blk hbx
  have HBF : Hid (Below w.heap.size w w7) := by
    have n1 : ∀ j, K1 j → w.heap.size ≤ j := H1.out.2.2
    have n3 : ∀ j, K3 j → w.heap.size ≤ j := fun j hj => (HC3.out.2 j hj).elim (n1 j) (fun h => Nat.le_trans HB2.out.size h)
    have s3 : w.heap.size ≤ w3.heap.size := Nat.le_trans HB2.out.size HC3.out.1.size
    have n4 : ∀ j, K4 j → w.heap.size ≤ j := fun j hj => (HC4.out.2 j hj).elim (n3 j) (fun h => Nat.le_trans s3 h)
    have s4 := Nat.le_trans s3 HC4.out.1.size
    have n5 : ∀ j, K5 j → w.heap.size ≤ j := fun j hj => (HC5.out.2 j hj).elim (n4 j) (fun h => Nat.le_trans s4 h)
    have c : ∀ {a b : World} {S : Nat → Prop}, Below w.heap.size w a → Chg a b S → (∀ j, S j → w.heap.size ≤ j) → Below w.heap.size w b := fun ha hc hs => ⟨hc.os.trans ha.os, hc.tape.trans ha.tape, hc.output.trans ha.output, Nat.le_trans ha.size hc.size, fun k hk => (hc.block k (Nat.lt_of_lt_of_le hk ha.size) (fun h => by have := hs k h; omega)).trans (ha.block k hk)⟩
    exact c (trans2 (c (c (c HB2.out HC3.out.1 n1) HC4.out.1 n3) HC5.out.1 n4) HA6.out.2.2.2) hE7.chg n5
  clear hE7 hbx
  go_wp2_with (first
    | (go_at_call 15; refine (num_any _ _).mono ?_; rintro e w' ⟨rfl, rfl⟩)
    | fail)
  go_ret
  exact ⟨rfl, ext_alloc HBF.out _⟩
end Go.Proofs.Ytfcobhgjkibdgaa
