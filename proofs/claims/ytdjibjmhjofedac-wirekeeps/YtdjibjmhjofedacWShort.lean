/-
  firstBody of fewer than ten bytes.
-/
import Derived.Test.YtdjibjmhjofedacWStreamP
namespace Go.Proofs.Ytdjibjmhjofedac
open Go.RowKit
set_option linter.unusedVariables false

set_option maxHeartbeats 3200000 in
set_option maxRecDepth 100000 in
theorem mark_zero (b o c : Nat) (w : World) (hcm : c ≤ maxLen) :
    Calls Try.prog 43 #[.slice (some ⟨b, o, none⟩) 0 c] w fun e w' => e = .returned (.bool true) ∧ ∃ m, w' = w.drewN m := by
  unfold maxLen at hcm
  have hconv := take_conv (w := w) (b := b) (o := o) (xs := []) (n := 0) (c := c) (fun j z hz => by simp at hz) (by simp)
  rw [show (([] : List Int).take 0) = [] from rfl] at hconv
  have hS : (strOfNums []).toList.isEmpty = true := by rw [ByteArray.toList_eq, strOfNums_data]; rfl
  generalize strOfNums [] = S at hconv hS
  go_enter Try.func43, Try.ntmps43
  go_wp2
  go_quiet (fail)
  go_wp2
  go_ret
  exact ⟨by rfl, nq, rfl⟩

set_option maxHeartbeats 3200000 in
set_option maxRecDepth 100000 in
theorem mark_one (b o c : Nat) (x : Int) (w : World) (hc : 1 ≤ c) (hcm : c ≤ maxLen) (hs : w.cell? ⟨b, o, none⟩ = some (.int .u8 x)) :
    Calls Try.prog 43 #[.slice (some ⟨b, o, none⟩) 1 c] w fun e w' => e = .returned (.bool ((strOfNums [x]).toList == (⟨#[197]⟩ : ByteArray).toList)) ∧ ∃ m, w' = w.drewN m := by
  unfold maxLen at hcm
  have hconv := take_conv (w := w) (b := b) (o := o) (xs := [x]) (n := 1) (c := c) (fun j z hz => by
    match j, hz with
    | 0, hz => cases hz; exact hs
    | j + 1, hz => simp at hz) (by simp)
  rw [show ([x] : List Int).take 1 = [x] from rfl] at hconv
  generalize strOfNums [x] = S at hconv ⊢
  have hc2 : (1 : Int) ≤ (c : Int) := by omega
  go_enter Try.func43, Try.ntmps43
  go_wp2
  go_quiet (fail)
  go_wp2
  go_ret
  exact ⟨by rw [show ({ data := #[197, 58] } : ByteArray).extract 0 1 = ⟨#[197]⟩ by rfl]; rfl, nq, rfl⟩

theorem str_one {x : Int} (hx : 0 ≤ x ∧ x < 256) : ((strOfNums [x]).toList == (⟨#[197]⟩ : ByteArray).toList) = decide (x = 197) := by
  rw [ByteArray.toList_eq, ByteArray.toList_eq, strOfNums_data]
  have h1 : (UInt8.ofNat x.toNat == 197) = decide (x = 197) := by
    rw [Bool.eq_iff_iff]
    constructor
    · intro h
      have h' : UInt8.ofNat x.toNat = 197 := by simpa using h
      have := congrArg UInt8.toNat h'
      rw [UInt8.toNat_ofNat'] at this
      have h2 : (197 : UInt8).toNat = 197 := rfl
      simp
      omega
    · intro h
      have h' : x = 197 := by simpa using h
      subst h'
      rfl
  simp only [List.map_cons, List.map_nil]
  show ((UInt8.ofNat x.toNat == 197) && true) = _
  rw [h1]
  simp

/-- beginsMark of any bytes. -/
theorem mark_all (b o c : Nat) (xs : List Int) (w : World) (hc : xs.length ≤ c) (hcm : c ≤ maxLen) (hs : ∀ (j : Nat) (z : Int), xs[j]? = some z → w.cell? ⟨b, o + j, none⟩ = some (.int .u8 z)) (hb : Byt xs) :
    Calls Try.prog 43 #[.slice (some ⟨b, o, none⟩) xs.length c] w fun e w' => e = .returned (.bool (mkB xs)) ∧ Below w.heap.size w w' := by
  match xs, hc, hs, hb with
  | [], _, _, _ =>
    refine (mark_zero b o c w hcm).mono ?_
    rintro e w' ⟨rfl, m, rfl⟩
    exact ⟨rfl, below_drewN (Below.refl _ _) m⟩
  | [x], hc, hs, hb =>
    refine (mark_one b o c x w hc hcm (hs 0 x rfl)).mono ?_
    rintro e w' ⟨rfl, m, rfl⟩
    exact ⟨by rw [str_one hb.cons.1]; rfl, below_drewN (Below.refl _ _) m⟩
  | x :: y :: r, hc, hs, hb => exact mark_any b o c (x :: y :: r) w (by simp) hc hcm hs hb

set_option maxHeartbeats 3200000 in
set_option maxRecDepth 100000 in
theorem first_less (b o c : Nat) (xs : List Int) (w : World) (h10 : xs.length < 10) (hc : xs.length ≤ c) (hcm : c ≤ maxLen) (hx : ∀ (j : Nat) (z : Int), xs[j]? = some z → w.cell? ⟨b, o + j, none⟩ = some (.int .u8 z)) (hb : Byt xs) :
    Calls Try.prog 33 #[.slice (some ⟨b, o, none⟩) xs.length c] w fun e w' => e = .returned (.tuple #[.slice none 0 0, .int .i64 (fcode xs)]) ∧ Below w.heap.size w w' := by
  have HM : Hid _ := mark_all b o c xs w hc hcm hx hb
  have hlt : (xs.length : Int) < 10 := by omega
  have HF : Hid (fcode xs = if mkB xs = false then 22 else 21) := by
    show fcode xs = _
    unfold fcode
    split
    · rfl
    · first | rfl | rw [if_pos h10]
  generalize fcode xs = fc at HF ⊢
  generalize xs.length = n at hlt hc HM ⊢
  clear hx hb h10
  cases hmk : mkB xs
  · rw [hmk] at HM
    go_enter Try.func33, Try.ntmps33
    go_wp2_with (first | (go_at_call 43; refine Calls.mono HM.out ?_; rintro e w1 ⟨rfl, hb1⟩; have HB1 : Hid _ := hb1; clear hb1) | fail)
    go_ret2
    exact ⟨by rw [HF.out, hmk]; rfl, HB1.out⟩
  · rw [hmk] at HM
    go_enter Try.func33, Try.ntmps33
    go_wp2_with (first | (go_at_call 43; refine Calls.mono HM.out ?_; rintro e w1 ⟨rfl, hb1⟩; have HB1 : Hid _ := hb1; clear hb1) | fail)
    go_ret2
    exact ⟨by rw [HF.out, hmk]; rfl, HB1.out⟩

/-- firstBody of any bytes. -/
theorem first_all (b o c : Nat) (xs : List Int) (w : World) (hc : xs.length ≤ c) (hcm : c ≤ maxLen) (hlt : b < w.heap.size) (hx : ∀ (j : Nat) (z : Int), xs[j]? = some z → w.cell? ⟨b, o + j, none⟩ = some (.int .u8 z)) (hb : Byt xs) (hm : xs.length ≤ 1000000) :
    Calls Try.prog 33 #[.slice (some ⟨b, o, none⟩) xs.length c] w fun e w' => e = .returned (.tuple #[(if fcode xs = 0 then .slice (some ⟨b, o + 10, none⟩) (w4 xs 2) (c - 10) else .slice none 0 0), .int .i64 (fcode xs)]) ∧ Below w.heap.size w w' := by
  by_cases h10 : xs.length < 10
  · refine (first_less b o c xs w h10 hc hcm hx hb).mono ?_
    rintro e w' ⟨rfl, hb1⟩
    refine ⟨?_, hb1⟩
    rw [if_neg]
    intro h
    have := (fcode_ok h).2.1
    omega
  · have hy : Bys w (some ⟨b, o, none⟩) xs := .inr ⟨b, o, rfl, hlt, hx⟩
    by_cases h0 : fcode xs = 0
    · rw [if_pos h0, h0]
      exact first_ok b o c xs w hc hcm hy hb hm h0
    · rw [if_neg h0]
      exact first_err b o c xs w (by omega) hc hcm hy hb hm h0
end Go.Proofs.Ytdjibjmhjofedac
