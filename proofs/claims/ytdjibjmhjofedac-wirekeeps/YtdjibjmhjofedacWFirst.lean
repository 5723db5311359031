/-
  firstBody, Unframe in the program.
-/
import Derived.Test.YtdjibjmhjofedacWFrame
import Derived.Deep.RegionHeld3
namespace Go.Proofs.Ytdjibjmhjofedac
open Go.RowKit

/-- May the bytes begin a frame, as far as they have come? -/
def mkB : List Int → Bool
  | [] => true
  | [x] => decide (x = 197)
  | x :: y :: _ => decide (x = 197 ∧ y = 58)

theorem take_conv {w : World} {b o n c : Nat} {xs : List Int} (hs : ∀ (j : Nat) (z : Int), xs[j]? = some z → w.cell? ⟨b, o + j, none⟩ = some (.int .u8 z)) (h : n ≤ xs.length) (m : Nat) :
    (convert 26 9 (.slice (some ⟨b, o, none⟩) n c)).run Try.prog (w.drewN m) = .ok (.string (strOfNums (xs.take n))) (w.drewN m) := by
  refine run_convert_bytes_arg _ 26 5 Try.underlying26 Try.underlying5 b o n c (xs.take n) (by rw [List.length_take]; omega) (fun i hi => ?_) 9 Try.underlying9
  have hx : xs[i]? = some (xs[i]'(by omega)) := List.getElem?_eq_getElem (by omega)
  rw [World.cell?_drewN, hs i _ hx, List.getD_eq_getElem?_getD, List.getElem?_take, if_pos hi, hx]
  rfl

set_option maxHeartbeats 3200000 in
set_option maxRecDepth 100000 in
theorem mark_two (b o c n : Nat) (xs : List Int) (w : World) (h2 : 2 ≤ n) (hn : n = xs.length) (hc : n ≤ c) (hcm : c ≤ maxLen) (hs : ∀ (j : Nat) (z : Int), xs[j]? = some z → w.cell? ⟨b, o + j, none⟩ = some (.int .u8 z)) :
    Calls Try.prog 43 #[.slice (some ⟨b, o, none⟩) n c] w fun e w' => e = .returned (.bool ((strOfNums (xs.take 2)).toList == (⟨#[197, 58]⟩ : ByteArray).toList)) ∧ ∃ m, w' = w.drewN m := by
  unfold maxLen at hcm
  have hconv := take_conv (n := 2) (c := c) hs (by omega)
  generalize strOfNums (xs.take 2) = S at hconv ⊢
  have hc2 : (2 : Int) ≤ (c : Int) := by omega
  clear hs hn
  by_cases he : n = 2
  · subst he
    go_enter Try.func43, Try.ntmps43
    go_wp2
    go_quiet (fail)
    go_wp2
    go_ret
    exact ⟨by rw [show ({ data := #[197, 58] } : ByteArray).extract 0 2 = ⟨#[197, 58]⟩ by rfl]; rfl, nq, rfl⟩
  · have hlt : (2 : Int) < (n : Int) := by omega
    go_enter Try.func43, Try.ntmps43
    go_wp2
    go_quiet (fail)
    go_wp2
    go_ret
    exact ⟨by rw [show ({ data := #[197, 58] } : ByteArray).extract 0 2 = ⟨#[197, 58]⟩ by rfl]; rfl, nq, rfl⟩

theorem str_two {x y : Int} (hx : 0 ≤ x ∧ x < 256) (hy : 0 ≤ y ∧ y < 256) : ((strOfNums [x, y]).toList == (⟨#[197, 58]⟩ : ByteArray).toList) = decide (x = 197 ∧ y = 58) := by
  rw [ByteArray.toList_eq, ByteArray.toList_eq, strOfNums_data]
  have e : ∀ z : Int, 0 ≤ z ∧ z < 256 → ∀ k : Nat, k < 256 → (UInt8.ofNat z.toNat = UInt8.ofNat k ↔ z = k) := by
    intro z hz k hk
    constructor
    · intro h
      have := congrArg UInt8.toNat h
      rw [UInt8.toNat_ofNat', UInt8.toNat_ofNat'] at this
      omega
    · intro h
      rw [h]
      rfl
  have e1 := e x hx 197 (by omega)
  have e2 := e y hy 58 (by omega)
  have h1 : (UInt8.ofNat x.toNat == 197) = decide (x = 197) := by
    rw [Bool.eq_iff_iff]
    simpa using e1
  have h2 : (UInt8.ofNat y.toNat == 58) = decide (y = 58) := by
    rw [Bool.eq_iff_iff]
    simpa using e2
  simp only [List.map_cons, List.map_nil]
  show ((UInt8.ofNat x.toNat == 197) && ((UInt8.ofNat y.toNat == 58) && true)) = _
  rw [h1, h2]
  simp

theorem mark_any (b o c : Nat) (xs : List Int) (w : World) (h2 : 2 ≤ xs.length) (hc : xs.length ≤ c) (hcm : c ≤ maxLen) (hs : ∀ (j : Nat) (z : Int), xs[j]? = some z → w.cell? ⟨b, o + j, none⟩ = some (.int .u8 z)) (hb : Byt xs) :
    Calls Try.prog 43 #[.slice (some ⟨b, o, none⟩) xs.length c] w fun e w' => e = .returned (.bool (mkB xs)) ∧ Below w.heap.size w w' := by
  refine (mark_two b o c xs.length xs w h2 rfl hc hcm hs).mono ?_
  rintro e w' ⟨rfl, m, rfl⟩
  refine ⟨?_, below_drewN (Below.refl _ _) m⟩
  match xs, h2, hb with
  | x :: y :: r, _, hb =>
    have hx := hb.cons
    have hy := hx.2.cons
    rw [show (x :: y :: r).take 2 = [x, y] by rfl, str_two hx.1 hy.1]
    rfl

/-- The error of the bytes' front. -/
def fcode (xs : List Int) : Int :=
  if mkB xs = false then 22 else
  if xs.length < 10 then 21 else
  if crc (xs.take 6) ≠ w4 xs 6 then 22 else
  if 262144 < w4 xs 2 then 22 else
  if xs.length < 14 + w4 xs 2 then 21 else
  if crc (xs.take (10 + w4 xs 2)) ≠ w4 xs (10 + w4 xs 2) then 22 else 0

theorem Bys.drew {w : World} {a : Option Addr} {xs : List Int} (h : Bys w a xs) : Bys w.drew a xs := h
theorem below_of_drew {w w' : World} (h : Below w.drew.heap.size w.drew w') : Below w.heap.size w w' := ⟨h.os, h.tape, h.output, h.size, h.block⟩
theorem cells_of {w : World} {b o : Nat} {xs : List Int} (h : Bys w (some ⟨b, o, none⟩) xs) : ∀ (j : Nat) (z : Int), xs[j]? = some z → w.cell? ⟨b, o + j, none⟩ = some (.int .u8 z) := by
  rcases h with rfl | ⟨b', o', ha, _, hs⟩
  · intro j z hz; simp at hz
  · have e := Option.some.inj ha
    simp only [Addr.mk.injEq, and_true] at e
    obtain ⟨rfl, rfl⟩ := e
    exact hs
theorem Bys.take {w : World} {a : Option Addr} {xs : List Int} (h : Bys w a xs) (n : Nat) : Bys w a (xs.take n) := by
  rcases h with rfl | ⟨b, o, ha, hlt, hs⟩
  · left; simp
  · refine .inr ⟨b, o, ha, hlt, fun j z hz => hs j z ?_⟩
    have hj : j < n := by
      have := (List.getElem?_eq_some_iff.1 hz).1
      rw [List.length_take] at this
      omega
    rw [List.getElem?_take, if_pos hj] at hz
    exact hz
/-- Sum of the first bytes. -/
theorem sum_front {b o c : Nat} {xs : List Int} (n : Nat) (hn : n ≤ xs.length) (hb : Byt xs) (hm : xs.length ≤ 1000000) {w : World} (h : Bys w (some ⟨b, o, none⟩) xs) :
    Calls Try.prog 28 #[.slice (some ⟨b, o, none⟩) n c] w fun e w' => e = .returned (.int .i64 (crc (xs.take n))) ∧ Below w.heap.size w w' := by
  have hl : (xs.take n).length = n := by rw [List.length_take]; omega
  have := sum_any (some ⟨b, o, none⟩) c (xs.take n) w (h.take n) (hb.take n) (by rw [hl]; unfold maxLen; omega)
  rw [hl] at this
  exact this
theorem word_at {b o c : Nat} {xs : List Int} (j : Nat) (hj : j + 4 ≤ xs.length) (hb : Byt xs) {w : World} (h : Bys w (some ⟨b, o, none⟩) xs) :
    Calls Try.prog 44 #[.slice (some ⟨b, o + j, none⟩) (xs.length - j) c] w fun e w' => e = .returned (.int .i64 (w4 xs j)) ∧ Below w.heap.size w w' :=
  word_any b o c xs j w hj (cells_of h) hb

/-! cases -/
set_option maxHeartbeats 3200000 in
set_option maxRecDepth 100000 in
theorem first_mark (b o c : Nat) (xs : List Int) (w : World) (h10 : 10 ≤ xs.length) (hc : xs.length ≤ c) (hcm : c ≤ maxLen) (hx : Bys w (some ⟨b, o, none⟩) xs) (hb : Byt xs) (hm : xs.length ≤ 1000000) (hmk : mkB xs = false) :
    Calls Try.prog 33 #[.slice (some ⟨b, o, none⟩) xs.length c] w fun e w' => e = .returned (.tuple #[.slice none 0 0, .int .i64 22]) ∧ Below w.heap.size w w' := by
  have HM : Hid _ := mark_any b o c xs w (by omega) hc hcm (cells_of hx) hb
  rw [hmk] at HM
  have HX : Hid (Bys w (some ⟨b, o, none⟩) xs) := hx
  have HY : Hid (Byt xs) := hb
  unfold maxLen at hcm
  have hsl : (6 : Int) ≤ (c : Int) := by omega
  have hsl2 : (6 : Int) ≤ (xs.length : Int) := by omega
  clear hx hb
  go_enter Try.func33, Try.ntmps33
  go_wp2_with (first | (go_at_call 43; refine Calls.mono HM.out ?_; rintro e w1 ⟨rfl, hb1⟩; have HB1 : Hid _ := hb1; have HX1 : Hid (Bys w1 (some ⟨b, o, none⟩) xs) := HX.out.below hb1; clear hb1) | fail)
  go_ret2
  exact ⟨rfl, HB1.out⟩
set_option maxHeartbeats 3200000 in
set_option maxRecDepth 100000 in
theorem first_sum (b o c : Nat) (xs : List Int) (w : World) (h10 : 10 ≤ xs.length) (hc : xs.length ≤ c) (hcm : c ≤ maxLen) (hx : Bys w (some ⟨b, o, none⟩) xs) (hb : Byt xs) (hm : xs.length ≤ 1000000) (hmk : mkB xs = true) (hbad : crc (xs.take 6) ≠ w4 xs 6) :
    Calls Try.prog 33 #[.slice (some ⟨b, o, none⟩) xs.length c] w fun e w' => e = .returned (.tuple #[.slice none 0 0, .int .i64 22]) ∧ Below w.heap.size w w' := by
  have HM : Hid _ := mark_any b o c xs w (by omega) hc hcm (cells_of hx) hb
  rw [hmk] at HM
  have HX : Hid (Bys w (some ⟨b, o, none⟩) xs) := hx
  have HY : Hid (Byt xs) := hb
  unfold maxLen at hcm
  have hsl : (6 : Int) ≤ (c : Int) := by omega
  have hsl2 : (6 : Int) ≤ (xs.length : Int) := by omega
  have hne : ((crc (xs.take 6) : Int) != (w4 xs 6 : Int)) = true := by simp; omega
  have HS : Hid _ := @sum_front b o c xs 6 (by omega) hb hm
  have HW : Hid _ := @word_at b o (c - 6) xs 6 (by omega) hb
  generalize crc (xs.take 6) = C1 at hne HS
  generalize w4 xs 6 = C2 at hne HW
  clear hx hb hbad
  go_enter Try.func33, Try.ntmps33
  go_wp2_with (first | (go_at_call 43; refine Calls.mono HM.out ?_; rintro e w1 ⟨rfl, hb1⟩; have HB1 : Hid _ := hb1; have HX1 : Hid (Bys w1 (some ⟨b, o, none⟩) xs) := HX.out.below hb1; clear hb1) | fail)
  go_region_held3 (fun _ => True) (trivial)
    (first
      | (go_at_call 28; refine (HS.out (Bys.drew HX1.out)).mono ?_; rintro e w2 ⟨rfl, hb⟩; have HB2 : Hid _ := trans2 HB1.out (below_of_drew hb); have HX2 : Hid (Bys w2 (some ⟨b, o, none⟩) xs) := Bys.below (Bys.drew HX1.out) hb; clear hb)
      | (go_at_call 44; refine (HW.out HX2.out).mono ?_; rintro e w3 ⟨rfl, hb⟩; have HB3 : Hid _ := trans2 HB2.out hb; have HX3 : Hid (Bys w3 (some ⟨b, o, none⟩) xs) := Bys.below HX2.out hb; clear hb))
  go_wp2
  go_ret2
  exact ⟨rfl, HB3.out⟩
set_option maxHeartbeats 3200000 in
set_option maxRecDepth 100000 in
theorem first_long (b o c : Nat) (xs : List Int) (w : World) (h10 : 10 ≤ xs.length) (hc : xs.length ≤ c) (hcm : c ≤ maxLen) (hx : Bys w (some ⟨b, o, none⟩) xs) (hb : Byt xs) (hm : xs.length ≤ 1000000) (hmk : mkB xs = true) (heq : crc (xs.take 6) = w4 xs 6) (hN : 262144 < w4 xs 2) :
    Calls Try.prog 33 #[.slice (some ⟨b, o, none⟩) xs.length c] w fun e w' => e = .returned (.tuple #[.slice none 0 0, .int .i64 22]) ∧ Below w.heap.size w w' := by
  have HM : Hid _ := mark_any b o c xs w (by omega) hc hcm (cells_of hx) hb
  rw [hmk] at HM
  have HX : Hid (Bys w (some ⟨b, o, none⟩) xs) := hx
  have HY : Hid (Byt xs) := hb
  unfold maxLen at hcm
  have hsl : (6 : Int) ≤ (c : Int) := by omega
  have hsl2 : (6 : Int) ≤ (xs.length : Int) := by omega
  have HS : Hid _ := @sum_front b o c xs 6 (by omega) hb hm
  have HW : Hid _ := @word_at b o (c - 6) xs 6 (by omega) hb
  have HW2 : Hid _ := @word_at b o (c - 2) xs 2 (by omega) hb
  rw [heq] at HS
  generalize w4 xs 6 = C2 at HS HW heq
  have hN' : (262144 : Int) < (w4 xs 2 : Int) := by omega
  generalize w4 xs 2 = N at HW2 hN hN'
  clear hx hb heq
  go_enter Try.func33, Try.ntmps33
  go_wp2_with (first | (go_at_call 43; refine Calls.mono HM.out ?_; rintro e w1 ⟨rfl, hb1⟩; have HB1 : Hid _ := hb1; have HX1 : Hid (Bys w1 (some ⟨b, o, none⟩) xs) := HX.out.below hb1; clear hb1) | fail)
  go_region_held3 (fun _ => True) (trivial)
    (first
      | (go_at_call 28; refine (HS.out (Bys.drew HX1.out)).mono ?_; rintro e w2 ⟨rfl, hb⟩; have HB2 : Hid _ := trans2 HB1.out (below_of_drew hb); have HX2 : Hid (Bys w2 (some ⟨b, o, none⟩) xs) := Bys.below (Bys.drew HX1.out) hb; clear hb)
      | (go_at_call 44; refine (HW.out HX2.out).mono ?_; rintro e w3 ⟨rfl, hb⟩; have HB3 : Hid _ := trans2 HB2.out hb; have HX3 : Hid (Bys w3 (some ⟨b, o, none⟩) xs) := Bys.below HX2.out hb; clear hb))
  go_wp2_with (first
      | (go_at_call 44; refine (HW2.out HX3.out).mono ?_; rintro e w4 ⟨rfl, hb⟩; have HB4 : Hid _ := trans2 HB3.out hb; have HX4 : Hid (Bys w4 (some ⟨b, o, none⟩) xs) := Bys.below HX3.out hb; clear hb)
      | fail)
  go_ret2
  exact ⟨rfl, HB4.out⟩
set_option maxHeartbeats 3200000 in
set_option maxRecDepth 100000 in
theorem first_short (b o c : Nat) (xs : List Int) (w : World) (h10 : 10 ≤ xs.length) (hc : xs.length ≤ c) (hcm : c ≤ maxLen) (hx : Bys w (some ⟨b, o, none⟩) xs) (hb : Byt xs) (hm : xs.length ≤ 1000000) (hmk : mkB xs = true) (heq : crc (xs.take 6) = w4 xs 6) (hN : w4 xs 2 ≤ 262144) (hS : xs.length < 14 + w4 xs 2) :
    Calls Try.prog 33 #[.slice (some ⟨b, o, none⟩) xs.length c] w fun e w' => e = .returned (.tuple #[.slice none 0 0, .int .i64 21]) ∧ Below w.heap.size w w' := by
  have HM : Hid _ := mark_any b o c xs w (by omega) hc hcm (cells_of hx) hb
  rw [hmk] at HM
  have HX : Hid (Bys w (some ⟨b, o, none⟩) xs) := hx
  have HY : Hid (Byt xs) := hb
  unfold maxLen at hcm
  have hsl : (6 : Int) ≤ (c : Int) := by omega
  have hsl2 : (6 : Int) ≤ (xs.length : Int) := by omega
  have HS : Hid _ := @sum_front b o c xs 6 (by omega) hb hm
  have HW : Hid _ := @word_at b o (c - 6) xs 6 (by omega) hb
  have HW2 : Hid _ := @word_at b o (c - 2) xs 2 (by omega) hb
  rw [heq] at HS
  generalize w4 xs 6 = C2 at HS HW heq
  generalize w4 xs 2 = N at HW2 hN hS
  clear hx hb heq
  go_enter Try.func33, Try.ntmps33
  go_wp2_with (first | (go_at_call 43; refine Calls.mono HM.out ?_; rintro e w1 ⟨rfl, hb1⟩; have HB1 : Hid _ := hb1; have HX1 : Hid (Bys w1 (some ⟨b, o, none⟩) xs) := HX.out.below hb1; clear hb1) | fail)
  go_region_held3 (fun _ => True) (trivial)
    (first
      | (go_at_call 28; refine (HS.out (Bys.drew HX1.out)).mono ?_; rintro e w2 ⟨rfl, hb⟩; have HB2 : Hid _ := trans2 HB1.out (below_of_drew hb); have HX2 : Hid (Bys w2 (some ⟨b, o, none⟩) xs) := Bys.below (Bys.drew HX1.out) hb; clear hb)
      | (go_at_call 44; refine (HW.out HX2.out).mono ?_; rintro e w3 ⟨rfl, hb⟩; have HB3 : Hid _ := trans2 HB2.out hb; have HX3 : Hid (Bys w3 (some ⟨b, o, none⟩) xs) := Bys.below HX2.out hb; clear hb))
  go_wp2_with (first
      | (go_at_call 44; refine (HW2.out HX3.out).mono ?_; rintro e w4 ⟨rfl, hb⟩; have HB4 : Hid _ := trans2 HB3.out hb; have HX4 : Hid (Bys w4 (some ⟨b, o, none⟩) xs) := Bys.below HX3.out hb; clear hb)
      | fail)
  go_ret2
  exact ⟨rfl, HB4.out⟩
set_option maxHeartbeats 3200000 in
set_option maxRecDepth 100000 in
theorem first_body (b o c : Nat) (xs : List Int) (w : World) (h10 : 10 ≤ xs.length) (hc : xs.length ≤ c) (hcm : c ≤ maxLen) (hx : Bys w (some ⟨b, o, none⟩) xs) (hb : Byt xs) (hm : xs.length ≤ 1000000) (hmk : mkB xs = true) (heq : crc (xs.take 6) = w4 xs 6) (hN : w4 xs 2 ≤ 262144) (hS : 14 + w4 xs 2 ≤ xs.length) (hbad : crc (xs.take (10 + w4 xs 2)) ≠ w4 xs (10 + w4 xs 2)) :
    Calls Try.prog 33 #[.slice (some ⟨b, o, none⟩) xs.length c] w fun e w' => e = .returned (.tuple #[.slice none 0 0, .int .i64 22]) ∧ Below w.heap.size w w' := by
  have HM : Hid _ := mark_any b o c xs w (by omega) hc hcm (cells_of hx) hb
  rw [hmk] at HM
  have HX : Hid (Bys w (some ⟨b, o, none⟩) xs) := hx
  have HY : Hid (Byt xs) := hb
  unfold maxLen at hcm
  have hsl : (6 : Int) ≤ (c : Int) := by omega
  have hsl2 : (6 : Int) ≤ (xs.length : Int) := by omega
  have HS : Hid _ := @sum_front b o c xs 6 (by omega) hb hm
  have HW : Hid _ := @word_at b o (c - 6) xs 6 (by omega) hb
  have HW2 : Hid _ := @word_at b o (c - 2) xs 2 (by omega) hb
  have HS2 : Hid _ := @sum_front b o c xs (10 + w4 xs 2) (by omega) hb hm
  have HW3 : Hid _ := @word_at b o (c - (10 + w4 xs 2)) xs (10 + w4 xs 2) (by omega) hb
  rw [heq] at HS
  generalize w4 xs 6 = C2 at HS HW heq
  have hne : ((crc (xs.take (10 + w4 xs 2)) : Int) != (w4 xs (10 + w4 xs 2) : Int)) = true := by simp; omega
  generalize crc (xs.take (10 + w4 xs 2)) = D1 at hne HS2
  generalize w4 xs (10 + w4 xs 2) = D2 at hne HW3
  generalize w4 xs 2 = N at HW2 hN hS HS2 HW3
  obtain ⟨E, hE⟩ : ∃ E, 10 + N = E := ⟨_, rfl⟩
  rw [hE] at HS2 HW3
  have hEi : (10 : Int) + (N : Int) = (E : Int) := by omega
  have hE1 : (E : Int) ≤ (c : Int) := by omega
  have hE2 : (E : Int) ≤ (xs.length : Int) := by omega
  have hE3 : ¬ c - E = 0 := by omega
  have hE6 : E < c := by omega
  have hE7 : (E : Int) < (c : Int) := by omega
  have HE : Hid _ := hE
  clear hE
  clear hx hb heq hbad
  go_enter Try.func33, Try.ntmps33
  go_wp2_with (first | (go_at_call 43; refine Calls.mono HM.out ?_; rintro e w1 ⟨rfl, hb1⟩; have HB1 : Hid _ := hb1; have HX1 : Hid (Bys w1 (some ⟨b, o, none⟩) xs) := HX.out.below hb1; clear hb1) | fail)
  go_region_held3 (fun _ => True) (trivial)
    (first
      | (go_at_call 28; refine (HS.out (Bys.drew HX1.out)).mono ?_; rintro e w2 ⟨rfl, hb⟩; have HB2 : Hid _ := trans2 HB1.out (below_of_drew hb); have HX2 : Hid (Bys w2 (some ⟨b, o, none⟩) xs) := Bys.below (Bys.drew HX1.out) hb; clear hb)
      | (go_at_call 44; refine (HW.out HX2.out).mono ?_; rintro e w3 ⟨rfl, hb⟩; have HB3 : Hid _ := trans2 HB2.out hb; have HX3 : Hid (Bys w3 (some ⟨b, o, none⟩) xs) := Bys.below HX2.out hb; clear hb))
  go_wp2_with (first
      | (go_at_call 44; refine (HW2.out HX3.out).mono ?_; rintro e w4 ⟨rfl, hb⟩; have HB4 : Hid _ := trans2 HB3.out hb; have HX4 : Hid (Bys w4 (some ⟨b, o, none⟩) xs) := Bys.below HX3.out hb; clear hb)
      | fail)
  go_region_held3 (fun _ => True) (trivial)
    (first
      | (go_at_call 28; refine (HS2.out (Bys.drew HX4.out)).mono ?_; rintro e w5 ⟨rfl, hb⟩; have HB5 : Hid _ := trans2 HB4.out (below_of_drew hb); have HX5 : Hid (Bys w5 (some ⟨b, o, none⟩) xs) := Bys.below (Bys.drew HX4.out) hb; clear hb)
      | (go_at_call 44; refine (HW3.out HX5.out).mono ?_; rintro e w6 ⟨rfl, hb⟩; have HB6 : Hid _ := trans2 HB5.out hb; have HX6 : Hid (Bys w6 (some ⟨b, o, none⟩) xs) := Bys.below HX5.out hb; clear hb))
  go_wp2
  go_ret2
  exact ⟨rfl, HB6.out⟩
set_option maxHeartbeats 3200000 in
set_option maxRecDepth 100000 in
theorem first_good (b o c : Nat) (xs : List Int) (w : World) (h10 : 10 ≤ xs.length) (hc : xs.length ≤ c) (hcm : c ≤ maxLen) (hx : Bys w (some ⟨b, o, none⟩) xs) (hb : Byt xs) (hm : xs.length ≤ 1000000) (hmk : mkB xs = true) (heq : crc (xs.take 6) = w4 xs 6) (hN : w4 xs 2 ≤ 262144) (hS : 14 + w4 xs 2 ≤ xs.length) (hok : crc (xs.take (10 + w4 xs 2)) = w4 xs (10 + w4 xs 2)) :
    Calls Try.prog 33 #[.slice (some ⟨b, o, none⟩) xs.length c] w fun e w' => e = .returned (.tuple #[.slice (some ⟨b, o + 10, none⟩) (w4 xs 2) (c - 10), .int .i64 0]) ∧ Below w.heap.size w w' := by
  have HM : Hid _ := mark_any b o c xs w (by omega) hc hcm (cells_of hx) hb
  rw [hmk] at HM
  have HX : Hid (Bys w (some ⟨b, o, none⟩) xs) := hx
  have HY : Hid (Byt xs) := hb
  unfold maxLen at hcm
  have hsl : (6 : Int) ≤ (c : Int) := by omega
  have hsl2 : (6 : Int) ≤ (xs.length : Int) := by omega
  have HS : Hid _ := @sum_front b o c xs 6 (by omega) hb hm
  have HW : Hid _ := @word_at b o (c - 6) xs 6 (by omega) hb
  have HW2 : Hid _ := @word_at b o (c - 2) xs 2 (by omega) hb
  have HS2 : Hid _ := @sum_front b o c xs (10 + w4 xs 2) (by omega) hb hm
  have HW3 : Hid _ := @word_at b o (c - (10 + w4 xs 2)) xs (10 + w4 xs 2) (by omega) hb
  rw [heq] at HS
  generalize w4 xs 6 = C2 at HS HW heq
  rw [hok] at HS2
  generalize w4 xs (10 + w4 xs 2) = D2 at HS2 HW3 hok
  generalize w4 xs 2 = N at HW2 hN hS HS2 HW3 hok ⊢
  obtain ⟨E, hE⟩ : ∃ E, 10 + N = E := ⟨_, rfl⟩
  rw [hE] at HS2 HW3
  have hEi : (10 : Int) + (N : Int) = (E : Int) := by omega
  have hE1 : (E : Int) ≤ (c : Int) := by omega
  have hE2 : (E : Int) ≤ (xs.length : Int) := by omega
  have hE3 : ¬ c - E = 0 := by omega
  have hE6 : E < c := by omega
  have hE7 : (E : Int) < (c : Int) := by omega
  have HE : Hid _ := hE
  clear hE
  have hE4 : ¬ c - 10 = 0 := by omega
  have hE5 : (10 : Int) ≤ (c : Int) := by omega
  clear hx hb heq hok
  go_enter Try.func33, Try.ntmps33
  go_wp2_with (first | (go_at_call 43; refine Calls.mono HM.out ?_; rintro e w1 ⟨rfl, hb1⟩; have HB1 : Hid _ := hb1; have HX1 : Hid (Bys w1 (some ⟨b, o, none⟩) xs) := HX.out.below hb1; clear hb1) | fail)
  go_region_held3 (fun _ => True) (trivial)
    (first
      | (go_at_call 28; refine (HS.out (Bys.drew HX1.out)).mono ?_; rintro e w2 ⟨rfl, hb⟩; have HB2 : Hid _ := trans2 HB1.out (below_of_drew hb); have HX2 : Hid (Bys w2 (some ⟨b, o, none⟩) xs) := Bys.below (Bys.drew HX1.out) hb; clear hb)
      | (go_at_call 44; refine (HW.out HX2.out).mono ?_; rintro e w3 ⟨rfl, hb⟩; have HB3 : Hid _ := trans2 HB2.out hb; have HX3 : Hid (Bys w3 (some ⟨b, o, none⟩) xs) := Bys.below HX2.out hb; clear hb))
  go_wp2_with (first
      | (go_at_call 44; refine (HW2.out HX3.out).mono ?_; rintro e w4 ⟨rfl, hb⟩; have HB4 : Hid _ := trans2 HB3.out hb; have HX4 : Hid (Bys w4 (some ⟨b, o, none⟩) xs) := Bys.below HX3.out hb; clear hb)
      | fail)
  go_region_held3 (fun _ => True) (trivial)
    (first
      | (go_at_call 28; refine (HS2.out (Bys.drew HX4.out)).mono ?_; rintro e w5 ⟨rfl, hb⟩; have HB5 : Hid _ := trans2 HB4.out (below_of_drew hb); have HX5 : Hid (Bys w5 (some ⟨b, o, none⟩) xs) := Bys.below (Bys.drew HX4.out) hb; clear hb)
      | (go_at_call 44; refine (HW3.out HX5.out).mono ?_; rintro e w6 ⟨rfl, hb⟩; have HB6 : Hid _ := trans2 HB5.out hb; have HX6 : Hid (Bys w6 (some ⟨b, o, none⟩) xs) := Bys.below HX5.out hb; clear hb))
  go_wp2
  go_ret2
  have hEN : E - 10 = N := by have := HE.out; omega
  exact ⟨by rw [hEN]; rfl, HB6.out⟩
end Go.Proofs.Ytdjibjmhjofedac
