/-
  WireReads: the walk.
-/
import Derived.Test.YtdjibjmhjofedaaWTurned
import Derived.Test.YtdjibjmhjofedaaWReadText
namespace Go.Proofs.Ytdjibjmhjofedaa
open Go.RowKit

theorem str_self (s : ByteArray) : (s.toList == s.toList) = true := by simp

set_option maxHeartbeats 3200000 in
set_option maxRecDepth 100000 in
theorem reads_any (base g cap : Nat) (a : Option Addr) (d : Nat) (xs : List Int) (at' : Int) (w : World) (hr : Room w base g cap xs) (hx : Bys w a xs) (hb : Byt xs) (hm : xs.length ≤ 20000) (hd : xs.length ≤ d ∧ d ≤ maxLen) :
    Calls Try.prog 22 #[.slice (some ⟨g, 0, none⟩) xs.length cap, .slice a xs.length d, .int .i64 at'] w fun e w' => e = .returned (.bool true) ∧ Below w.heap.size w w' := by
  have HR : Hid (Room w base g cap xs) := hr
  have HX : Hid (Bys w a xs) := hx
  have HY : Hid (Byt xs) := hb
  have HD : Hid _ := hd
  have hcap := hr.cap
  have HC : Hid _ := hcap
  have HRN : Hid _ := fun w hx => readNumber_any (some ⟨g, 0, none⟩) cap xs at' w hx HY.out (by omega)
  have HFN : Hid _ := fun w hx => refRead_any a d xs at' w hx HY.out (by omega)
  have HRT : Hid _ := fun w hx => readText_any (some ⟨g, 0, none⟩) cap xs at' w hx HY.out (by omega) (by omega) hcap.2
  have HFT : Hid _ := fun w hx => refReadText_any a d xs at' w hx HY.out (by omega) hd.1 hd.2
  obtain ⟨t1, t2, t3, ht⟩ : ∃ t1 t2 t3, rdAny at' xs = (t1, t2, t3) := ⟨_, _, _, rfl⟩
  obtain ⟨u1, u2, u3, hu⟩ : ∃ u1 u2 u3, rtAny at' xs = (u1, u2, u3) := ⟨_, _, _, rfl⟩
  rw [ht] at HRN HFN
  rw [hu] at HRT HFT
  have hss := str_self u1
  clear hr hx hb hd hcap ht hu
  go_enter Try.func22, Try.ntmps22
  go_wp2_with fail
  refine (HRN.out _ (Room.bys HR.out)).mono ?_
  rintro e w1 ⟨rfl, rfl⟩
  go_wp2_with fail
  refine (HFN.out _ HX.out).mono ?_
  rintro e w1' ⟨rfl, rfl⟩
  go_wp2_with (first | (go_at_call 12; go_in) | fail)
  refine (untouched_any _ g cap xs a d _ HR.out HX.out (by omega)).mono ?_
  rintro e w2 ⟨rfl, hb2⟩
  have HR2 : Hid (Room w2 base g cap xs) := Room.below HR.out hb2
  have HX2 : Hid (Bys w2 a xs) := Bys.below HX.out hb2
  have HB2 : Hid _ := hb2
  clear hb2
  go_wp2_with fail
  refine (HRT.out _ (Room.bys HR2.out)).mono ?_
  rintro e w1 ⟨rfl, rfl⟩
  go_wp2_with fail
  refine (HFT.out _ HX2.out).mono ?_
  rintro e w1' ⟨rfl, rfl⟩
  go_wp2_with (first | (go_at_call 12; go_in) | fail)
  refine (untouched_any _ g cap xs a d _ HR2.out HX2.out (by omega)).mono ?_
  rintro e w3 ⟨rfl, hb3⟩
  have HB3 : Hid _ := trans2 HB2.out hb3
  clear hb3
  go_wp2
  go_ret
  exact ⟨rfl, HB3.out⟩

theorem reads_long (a : Option Addr) (c : Nat) (xs : List Int) (at' : Int) (w : World) (hm : xs.length ≤ maxLen) (h : 20000 < xs.length) :
    Calls Try.prog 7 #[.slice a xs.length c, .int .i64 at'] w fun e w' => e = .returned (.bool true) ∧ Below w.heap.size w w' := by
  unfold maxLen at hm
  have h' : (20000 : Int) < (xs.length : Int) := by omega
  go_enter Try.func7, Try.ntmps7
  go_wp2
  go_ret
  exact ⟨rfl, Below.refl _ _⟩

theorem row_cap {w : World} {base n c : Nat} {a : Option Addr} {zs : List Int} (h : w.ownsRow base 5 1 (.slice a n c) n (bv zs)) : Bys w a zs ∧ zs.length ≤ c ∧ c ≤ maxLen := by
  obtain ⟨a', c', hv, hL, _, hn, h1, h2⟩ := bys_of_owns h
  simp only [Value.slice.injEq] at hv
  rw [hv.1, hv.2.2]
  exact ⟨hL, h1, h2⟩

theorem three_bys (w : World) : Bys (w.alloc (.cells #[.int .u8 7, .int .u8 128, .int .u8 1] 5)) (some ⟨w.heap.size, 0, none⟩) [7, 128, 1] := by
  refine .inr ⟨w.heap.size, 0, rfl, by simp, fun j z hz => ?_⟩
  rw [Nat.zero_add, cell_of_row _ w.heap.size j _ _ (0, 0) (heap_alloc_new w _)]
  match j, hz with
  | 0, h => simp at h; subst h; rfl
  | 1, h => simp at h; subst h; rfl
  | 2, h => simp at h; subst h; rfl
  | j + 3, h => simp at h
theorem three_byt : Byt [7, 128, 1] := by intro z hz; simp at hz; omega
theorem three_rd : rdAny 1 [7, 128, 1] = (128, 3, 0) := by decide +kernel

set_option maxHeartbeats 3200000 in
set_option maxRecDepth 100000 in
theorem reads_short (a : Option Addr) (c : Nat) (xs : List Int) (at' : Int) (w : World) (hx : Bys w a xs) (hb : Byt xs) (hn : a = none → c = 0) (h : xs.length ≤ 20000) (hc : xs.length ≤ c ∧ c ≤ maxLen) :
    Calls Try.prog 7 #[.slice a xs.length c, .int .i64 at'] w fun e w' => e = .returned (.bool true) ∧ Below w.heap.size w w' := by
  have HX : Hid (Bys w a xs) := hx
  have HY : Hid (Byt xs) := hb
  have HN : Hid _ := hn
  have HC : Hid _ := hc
  clear hx hb hn hc
  go_enter Try.func7, Try.ntmps7
  go_wp2_with fail
  refine (roomy_any a c xs w HX.out HN.out (by omega)).mono ?_
  rintro e w1 ⟨g, cap, rfl, hr1, hb1⟩
  have HR1 : Hid (Room w1 w.heap.size g cap xs) := hr1
  have HB1 : Hid (Below w.heap.size w w1) := hb1
  have HX1 : Hid (Bys w1 a xs) := HX.out.below hb1
  clear hr1 hb1
  go_wp2_with fail
  refine (reads_any _ g cap a c xs at' w1 HR1.out HX1.out HY.out h HC.out).mono ?_
  rintro e w2 ⟨rfl, hb2⟩
  have HR2 : Hid (Room w2 w.heap.size g cap xs) := Room.below HR1.out hb2
  have HB2 : Hid (Below w.heap.size w w2) := trans2 HB1.out hb2
  clear hb2 HR1 HB1 HX1
  go_wp2_with fail
  refine (turned_law _ g cap xs w2 HR2.out HY.out (by omega)).mono ?_
  rintro e w3 ⟨a3, c3, rfl, ho3, hr3, hg3⟩
  have HX3 : Hid (Bys w3 a3 (turnL xs)) := (row_cap ho3).1
  have HC3 : Hid _ := (row_cap ho3).2
  have HR3 : Hid (Room w3 w.heap.size g cap (turnL xs)) := hr3
  have HB3 : Hid (Below w.heap.size w w3) := HB2.out.grown hg3 HB2.out.size (fun k hk => by cases hk; exact (Room.lt HR2.out).1)
  have HY3 : Hid (Byt (turnL xs)) := turnL_byt HY.out
  have h3 : (turnL xs).length ≤ 20000 := by rw [turnL_len]; exact h
  rw [← turnL_len xs]
  generalize turnL xs = ys at HX3 HR3 HY3 HC3 h3 ⊢
  clear ho3 hr3 hg3 HR2 HB2
  go_wp2_with fail
  refine (reads_any _ g cap a3 c3 ys at' w3 HR3.out HX3.out HY3.out h3 HC3.out).mono ?_
  rintro e w4 ⟨rfl, hb4⟩
  have HR4 : Hid (Room w4 w.heap.size g cap ys) := Room.below HR3.out hb4
  have HB4 : Hid (Below w.heap.size w w4) := trans2 HB3.out hb4
  clear hb4 HR3 HB3 HX3
  go_wp2_with fail
  refine (turned_law _ g cap ys w4 HR4.out HY3.out (by omega)).mono ?_
  rintro e w5 ⟨a5, c5, rfl, ho5, hr5, hg5⟩
  have HX5 : Hid (Bys w5 a5 (turnL ys)) := (row_cap ho5).1
  have HC5 : Hid _ := (row_cap ho5).2
  have HR5 : Hid (Room w5 w.heap.size g cap (turnL ys)) := hr5
  have HB5 : Hid (Below w.heap.size w w5) := HB4.out.grown hg5 HB4.out.size (fun k hk => by cases hk; exact (Room.lt HR4.out).1)
  have HY5 : Hid (Byt (turnL ys)) := turnL_byt HY3.out
  have h5 : (turnL ys).length ≤ 20000 := by rw [turnL_len]; exact h3
  rw [← turnL_len ys]
  generalize turnL ys = zs at HX5 HR5 HY5 HC5 h5 ⊢
  clear ho5 hr5 hg5 HR4 HB4
  go_wp2_with fail
  refine (reads_any _ g cap a5 c5 zs at' w5 HR5.out HX5.out HY5.out h5 HC5.out).mono ?_
  rintro e w6 ⟨rfl, hb6⟩
  have HB6 : Hid (Below w.heap.size w w6) := trans2 HB5.out hb6
  clear hb6 HR5 HB5 HX5
  go_wp2_with fail
  refine (readNumber_any _ 3 [7, 128, 1] 1 _ (three_bys w6) three_byt (by decide)).mono ?_
  rw [three_rd]
  rintro e w7 ⟨rfl, rfl⟩
  have HB7 : Hid (Below w.heap.size w (w6.alloc (.cells #[.int .u8 7, .int .u8 128, .int .u8 1] 5))) := HB6.out.alloc HB6.out.size _
  clear HB6
  go_wp2
  go_ret
  exact ⟨rfl, HB7.out⟩

theorem reads_walk (a : Option Addr) (c : Nat) (xs : List Int) (at' : Int) (w : World) (h : Bys w a xs ∧ Byt xs ∧ (a = none → c = 0) ∧ xs.length ≤ maxLen) (hc : xs.length ≤ c ∧ c ≤ maxLen) :
    Calls Try.prog 7 #[.slice a xs.length c, .int .i64 at'] w fun e w' => e = .returned (.bool true) ∧ Below w.heap.size w w' := by
  by_cases hl : xs.length ≤ 20000
  · exact reads_short a c xs at' w h.1 h.2.1 h.2.2.1 hl hc
  · exact reads_long a c xs at' w h.2.2.2 (by omega)
end Go.Proofs.Ytdjibjmhjofedaa
