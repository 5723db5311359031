/-
  WireSums: the walk.
-/
import Derived.Test.YtdjibjmhjofedaaWTurned
import Derived.Test.YtdjibjmhjofedaaWSum
import Derived.Test.YtdjibjmhjofedaaWRefSum
import Derived.Lib.SlBytesConst
namespace Go.Proofs.Ytdjibjmhjofedaa
open Go.RowKit

theorem crc_nine : crc [49, 50, 51, 52, 53, 54, 55, 56, 57] = 3421780262 := by decide +kernel

theorem nine_byt : Byt [49, 50, 51, 52, 53, 54, 55, 56, 57] := by intro z hz; simp at hz; omega
/-- Bytes that are written out. -/
theorem lit_bys (w : World) (zs : List Int) (fr : Nat × Nat) : Bys (w.alloc (.cells (bv zs).toArray 5 fr)) (some ⟨w.heap.size, 0, none⟩) zs := by
  refine .inr ⟨w.heap.size, 0, rfl, by simp, fun j z hz => ?_⟩
  rw [Nat.zero_add, World.cell?_alloc_mark, List.getElem?_toArray]
  unfold bv
  rw [List.getElem?_map, hz]
  rfl
theorem nine_bys (w : World) (fr : Nat × Nat) : Bys (w.alloc (.cells #[.int .u8 49, .int .u8 50, .int .u8 51, .int .u8 52, .int .u8 53, .int .u8 54, .int .u8 55, .int .u8 56, .int .u8 57] 5 fr)) (some ⟨w.heap.size, 0, none⟩) [49, 50, 51, 52, 53, 54, 55, 56, 57] :=
  lit_bys w [49, 50, 51, 52, 53, 54, 55, 56, 57] fr

theorem sums_long (a : Option Addr) (c : Nat) (xs : List Int) (w : World) (hm : xs.length ≤ maxLen) (h : 20000 < xs.length) :
    Calls Try.prog 5 #[.slice a xs.length c] w fun e w' => e = .returned (.bool true) ∧ Below w.heap.size w w' := by
  unfold maxLen at hm
  have h' : (20000 : Int) < (xs.length : Int) := by omega
  go_enter Try.func5, Try.ntmps5
  go_wp2
  go_ret
  exact ⟨rfl, Below.refl _ _⟩

/-- What a row of the call's own says, kept. -/
theorem bys_row {w : World} {base n c : Nat} {a : Option Addr} {zs : List Int} (h : w.ownsRow base 5 1 (.slice a n c) n (bv zs)) : Bys w a zs ∧ n = zs.length := by
  obtain ⟨a', c', hv, hL, _, hn, _⟩ := bys_of_owns h
  simp only [Value.slice.injEq] at hv
  rw [hv.1]
  exact ⟨hL, hn⟩

set_option maxHeartbeats 1600000 in
set_option maxRecDepth 100000 in
theorem sums_short (a : Option Addr) (c : Nat) (xs : List Int) (w : World) (hx : Bys w a xs) (hb : Byt xs) (hn : a = none → c = 0) (h : xs.length ≤ 20000) :
    Calls Try.prog 5 #[.slice a xs.length c] w fun e w' => e = .returned (.bool true) ∧ Below w.heap.size w w' := by
  have HX : Hid (Bys w a xs) := hx
  have HY : Hid (Byt xs) := hb
  have HN : Hid _ := hn
  have hlm : xs.length ≤ maxLen := by unfold maxLen; omega
  clear hx hb hn
  go_enter Try.func5, Try.ntmps5
  go_wp2_with fail
  refine (roomy_any a c xs w HX.out HN.out (by omega)).mono ?_
  rintro e w1 ⟨g, cap, rfl, hr1, hb1⟩
  have HR1 : Hid (Room w1 w.heap.size g cap xs) := hr1
  have HB1 : Hid (Below w.heap.size w w1) := hb1
  have HX1 : Hid (Bys w1 a xs) := HX.out.below hb1
  clear hr1 hb1
  go_wp2_with fail
  refine (sum_any _ cap xs w1 (Room.bys HR1.out) HY.out hlm).mono ?_
  rintro e w2 ⟨rfl, hb2⟩
  have HR2 : Hid (Room w2 w.heap.size g cap xs) := Room.below HR1.out hb2
  have HB2 : Hid (Below w.heap.size w w2) := trans2 HB1.out hb2
  have HX2 : Hid (Bys w2 a xs) := Bys.below HX1.out hb2
  clear hb2 HR1 HB1 HX1
  go_wp2_with fail
  refine (refSum_any a c xs w2 HX2.out HY.out hlm).mono ?_
  rintro e w2' ⟨rfl, rfl⟩
  go_wp2_with fail
  refine (untouched_any _ g cap xs a c w2' HR2.out HX2.out (by omega)).mono ?_
  rintro e w3 ⟨rfl, hb3⟩
  have HR3 : Hid (Room w3 w.heap.size g cap xs) := Room.below HR2.out hb3
  have HB3 : Hid (Below w.heap.size w w3) := trans2 HB2.out hb3
  clear hb3 HR2 HB2 HX2
  go_wp2_with fail
  refine (turned_law _ g cap xs w3 HR3.out HY.out (by omega)).mono ?_
  rintro e w4 ⟨a4, c4, rfl, ho4, hr4, hg4⟩
  have HX4 : Hid (Bys w4 a4 (turnL xs)) := (bys_row ho4).1
  have HR4 : Hid (Room w4 w.heap.size g cap (turnL xs)) := hr4
  have HB4 : Hid (Below w.heap.size w w4) := HB3.out.grown hg4 HB3.out.size (fun k hk => by cases hk; exact (Room.lt HR3.out).1)
  have HY4 : Hid (Byt (turnL xs)) := turnL_byt HY.out
  have hlm4 : (turnL xs).length ≤ maxLen := by rw [turnL_len]; exact hlm
  have h4 : (turnL xs).length ≤ 20000 := by rw [turnL_len]; exact h
  rw [← turnL_len xs]
  generalize turnL xs = ys at HX4 HR4 HY4 hlm4 h4 ⊢
  clear ho4 hr4 hg4 HR3 HB3
  go_wp2_with fail
  refine (sum_any _ cap ys w4 (Room.bys HR4.out) HY4.out hlm4).mono ?_
  rintro e w5 ⟨rfl, hb5⟩
  have HR5 : Hid (Room w5 w.heap.size g cap ys) := Room.below HR4.out hb5
  have HB5 : Hid (Below w.heap.size w w5) := trans2 HB4.out hb5
  have HX5 : Hid (Bys w5 a4 ys) := Bys.below HX4.out hb5
  clear hb5 HR4 HB4 HX4
  go_wp2_with fail
  refine (refSum_any a4 c4 ys w5 HX5.out HY4.out hlm4).mono ?_
  rintro e w5' ⟨rfl, rfl⟩
  go_wp2_with fail
  refine (untouched_any _ g cap ys a4 c4 w5' HR5.out HX5.out (by omega)).mono ?_
  rintro e w6 ⟨rfl, hb6⟩
  have HB6 : Hid (Below w.heap.size w w6) := trans2 HB5.out hb6
  clear hb6 HR5 HB5 HX5
  have hconv := Lib.run_convert_bytes_const (P := Try.prog) w6 22 5 #[.int .u8 49, .int .u8 50, .int .u8 51, .int .u8 52, .int .u8 53, .int .u8 54, .int .u8 55, .int .u8 56, .int .u8 57] 9 9 Try.underlying22 Try.underlying5
  have hN9 := nine_bys w6 (9, 10)
  have HB7 : Hid (Below w.heap.size w (w6.alloc (.cells #[.int .u8 49, .int .u8 50, .int .u8 51, .int .u8 52, .int .u8 53, .int .u8 54, .int .u8 55, .int .u8 56, .int .u8 57] 5 (9, 10)))) := HB6.out.alloc HB6.out.size _
  have HN9 : Hid _ := hN9
  clear hN9 HB6
  go_wp2_with fail
  clear hconv
  refine (sum_any _ 9 [49, 50, 51, 52, 53, 54, 55, 56, 57] _ HN9.out nine_byt (by decide)).mono ?_
  rw [crc_nine]
  rintro e w7 ⟨rfl, hb7⟩
  have HB8 : Hid (Below w.heap.size w w7) := trans2 HB7.out hb7
  clear hb7 HB7 HN9
  go_wp2
  go_ret
  exact ⟨rfl, HB8.out⟩

theorem sums_walk (a : Option Addr) (c : Nat) (xs : List Int) (w : World) (h : Bys w a xs ∧ Byt xs ∧ (a = none → c = 0) ∧ xs.length ≤ maxLen) :
    Calls Try.prog 5 #[.slice a xs.length c] w fun e w' => e = .returned (.bool true) ∧ Below w.heap.size w w' := by
  by_cases hl : xs.length ≤ 20000
  · exact sums_short a c xs w h.1 h.2.1 h.2.2.1 hl
  · exact sums_long a c xs w h.2.2.2 (by omega)
end Go.Proofs.Ytdjibjmhjofedaa
