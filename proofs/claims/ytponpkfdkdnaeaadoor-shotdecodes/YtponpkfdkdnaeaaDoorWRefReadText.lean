/-
  The document's answer for ReadText.
-/
import Derived.Test.YtponpkfdkdnaeaaDoorWReadText
import Derived.Test.YtponpkfdkdnaeaaDoorWRefRead
namespace Go.Proofs.YtponpkfdkdnaeaaDoor
open Go.RowKit

set_option maxHeartbeats 3200000 in
set_option maxRecDepth 100000 in
theorem refReadText_any (a : Option Addr) (c : Nat) (xs : List Int) (at' : Int) (w : World) (hx : Bys w a xs) (hb : Byt xs) (hm : xs.length ≤ 1000000) (hc : xs.length ≤ c) (hcm : c ≤ maxLen) :
    Calls Tryd.prog 23 #[.slice a xs.length c, .int .i64 at'] w fun e w' => e = .returned (.tuple #[.string (rtAny at' xs).1, .int .i64 (rtAny at' xs).2.1, .int .i64 (rtAny at' xs).2.2]) ∧ w' = w := by
  unfold maxLen at hcm
  have HR : Hid _ := refRead_any a c xs at' w hx hb hm
  obtain ⟨n, b, e, he⟩ : ∃ n b e, rdAny at' xs = (n, b, e) := ⟨_, _, _, rfl⟩
  have HT : Hid (rtAny at' xs = if e ≠ 0 then (ByteArray.empty, 0, e) else if 262144 < n then (ByteArray.empty, 0, 2) else if xs.length - b < n then (ByteArray.empty, 0, 21) else (strOfNums ((xs.drop b.toNat).take n.toNat), b + n, 0)) := by
    show rtAny at' xs = _
    unfold rtAny
    rw [he]
  rw [he] at HR
  by_cases h0 : e = 0
  · subst h0
    have hok := rdAny_ok hb he
    obtain ⟨N, rfl⟩ := Int.eq_ofNat_of_zero_le hok.2.1
    obtain ⟨B, rfl⟩ := Int.eq_ofNat_of_zero_le (show 0 ≤ b by omega)
    simp only [ne_eq, not_true_eq_false, if_false, Int.toNat_natCast] at HT
    have hB : (B : Int) ≤ (xs.length : Int) := hok.2.2.2.2.1
    have hN : N ≤ 2147483647 := by omega
    have hat1 : 0 ≤ at' ∧ at' < (B : Int) := ⟨hok.1, hok.2.2.2.1⟩
    rcases hx with rfl | ⟨bb, o, rfl, h1, hs⟩
    · simp at hB; omega
    · have HS : Hid _ := hs
      clear hok he hs hb h1
      by_cases h2 : 262144 < N
      · have h2' : (262144 : Int) < (N : Int) := by omega
        have HX : Hid (rtAny at' xs = (ByteArray.empty, 0, 2)) := by have := HT.out; rw [if_pos h2'] at this; exact this
        rw [HX.out]
        clear HT HX
        go_enter Tryd.func23, Tryd.ntmps23
        go_wp2_with (first | (go_at_call 22; refine Calls.mono HR.out ?_; rintro e w1 ⟨rfl, rfl⟩) | fail)
        go_ret3
        exact ⟨rfl, rfl⟩
      · have h2' : ¬ (262144 : Int) < (N : Int) := by omega
        by_cases h3 : xs.length < B + N
        · have h3' : (xs.length : Int) - (B : Int) < (N : Int) := by omega
          have HX : Hid (rtAny at' xs = (ByteArray.empty, 0, 21)) := by have := HT.out; rw [if_neg h2', if_pos h3'] at this; exact this
          rw [HX.out]
          clear HT HX
          go_enter Tryd.func23, Tryd.ntmps23
          go_wp2_with (first | (go_at_call 22; refine Calls.mono HR.out ?_; rintro e w1 ⟨rfl, rfl⟩) | fail)
          go_ret3
          exact ⟨rfl, rfl⟩
        · have h3' : ¬ (xs.length : Int) - (B : Int) < (N : Int) := by omega
          have HX : Hid (rtAny at' xs = (strOfNums ((xs.drop B).take N), (B : Int) + (N : Int), 0)) := by have := HT.out; rw [if_neg h2', if_neg h3'] at this; exact this
          rw [HX.out]
          by_cases hBc : B < c
          · have hconv := bytes_conv (B := B) (N := N) (c := c - B) HS.out (by omega)
            generalize strOfNums ((xs.drop B).take N) = S at hconv ⊢
            have hle1 : (B : Int) + (N : Int) ≤ (c : Int) := by omega
            have hle2 : (B : Int) ≤ (B : Int) + (N : Int) := by omega
            have hne : ¬ (c : Int) - (B : Int) = 0 := by omega
            have hne' : ¬ c - B = 0 := by omega
            clear HT HX
            go_enter Tryd.func23, Tryd.ntmps23
            go_wp2_with (first | (go_at_call 22; refine Calls.mono HR.out ?_; rintro e w1 ⟨rfl, rfl⟩) | fail)
            go_ret3
            exact ⟨rfl, rfl⟩
          · obtain rfl : B = c := by omega
            obtain rfl : N = 0 := by omega
            have hconv := bytes_conv (B := 0) (N := 0) (c := 0) HS.out (by omega)
            rw [List.take_zero] at hconv
            rw [List.take_zero]
            rw [Nat.add_zero] at hconv
            generalize strOfNums [] = S at hconv ⊢
            clear HT HX
            go_enter Tryd.func23, Tryd.ntmps23
            go_wp2_with (first | (go_at_call 22; refine Calls.mono HR.out ?_; rintro e w1 ⟨rfl, rfl⟩) | fail)
            go_ret3
            exact ⟨by simp, rfl⟩
  · have hne : (e != 0) = true := by simpa using h0
    have HX : Hid (rtAny at' xs = (ByteArray.empty, 0, e)) := by have := HT.out; rw [if_pos h0] at this; exact this
    rw [HX.out]
    clear HT HX he hx hb
    go_enter Tryd.func23, Tryd.ntmps23
    go_wp2_with (first | (go_at_call 22; refine Calls.mono HR.out ?_; rintro e w1 ⟨rfl, rfl⟩) | fail)
    go_ret3
    exact ⟨rfl, rfl⟩
end Go.Proofs.YtponpkfdkdnaeaaDoor
