/-
  ReadText in the program.
-/
import Derived.Test.YtdjfeomdiljaeaaGreatDoorWRead
import Derived.Laws.BytesArg
namespace Go.Proofs.YtdjfeomdiljaeaaGreatDoor
open Go.RowKit

/-- What ReadText answers. -/
def rtAny (at' : Int) (xs : List Int) : ByteArray × Int × Int :=
  if (rdAny at' xs).2.2 ≠ 0 then (ByteArray.empty, 0, (rdAny at' xs).2.2) else
  if 262144 < (rdAny at' xs).1 then (ByteArray.empty, 0, 2) else
  if xs.length - (rdAny at' xs).2.1 < (rdAny at' xs).1 then (ByteArray.empty, 0, 21) else
  (strOfNums ((xs.drop (rdAny at' xs).2.1.toNat).take (rdAny at' xs).1.toNat), (rdAny at' xs).2.1 + (rdAny at' xs).1, 0)

theorem rdAny_ok {at' : Int} {xs : List Int} {n b : Int} (hb : Byt xs) (h : rdAny at' xs = (n, b, 0)) : 0 ≤ at' ∧ 0 ≤ n ∧ n ≤ 2147483647 ∧ at' < b ∧ b ≤ xs.length ∧ xs.drop at'.toNat = numL n.toNat ++ xs.drop b.toNat ∧ b = at' + (numL n.toNat).length := by
  unfold rdAny at h
  split at h
  · rename_i hat
    obtain ⟨y, l', e1, e2, e3, e4, e5⟩ := rd_only at' 5 0 0 _ n b (hb.drop _) h
    simp only [Nat.pow_zero, Nat.mul_one, Nat.zero_add] at e1 e5
    have hl : (xs.drop at'.toNat).length = (numL y).length + l'.length := by rw [e2, List.length_append]
    rw [List.length_drop] at hl
    have h1 := (numL_len (v := y) 5 (by omega) (by omega)).2
    have ey : n.toNat = y := by omega
    rw [ey]
    have eb : b.toNat = at'.toNat + (numL y).length := by omega
    refine ⟨hat.1, by omega, by omega, by omega, by omega, ?_, by omega⟩
    rw [e2, eb, ← List.drop_drop, e2, List.drop_left]
  · simp at h

theorem bytes_conv {w : World} {b o : Nat} {xs : List Int} {B N c : Nat} (hs : ∀ (j : Nat) (z : Int), xs[j]? = some z → w.cell? ⟨b, o + j, none⟩ = some (.int .u8 z)) (h : B + N ≤ xs.length) :
    (convert 25 9 (.slice (some ⟨b, o + B, none⟩) N c)).run Tryz.prog w = .ok (.string (strOfNums ((xs.drop B).take N))) w := by
  refine run_convert_bytes_arg _ 25 5 Tryz.underlying25 Tryz.underlying5 b (o + B) N c ((xs.drop B).take N) (by rw [List.length_take, List.length_drop]; omega) (fun i hi => ?_) 9 Tryz.underlying9
  have hx : xs[B + i]? = some (xs[B + i]'(by omega)) := List.getElem?_eq_getElem (by omega)
  rw [Nat.add_assoc, hs (B + i) _ hx, List.getD_eq_getElem?_getD, List.getElem?_take, if_pos hi, List.getElem?_drop, hx]
  rfl

set_option maxHeartbeats 3200000 in
set_option maxRecDepth 100000 in
theorem readText_any (a : Option Addr) (c : Nat) (xs : List Int) (at' : Int) (w : World) (hx : Bys w a xs) (hb : Byt xs) (hm : xs.length ≤ 1000000) (hc : xs.length ≤ c) (hcm : c ≤ maxLen) :
    Calls Tryz.prog 168 #[.slice a xs.length c, .int .i64 at'] w fun e w' => e = .returned (.tuple #[.string (rtAny at' xs).1, .int .i64 (rtAny at' xs).2.1, .int .i64 (rtAny at' xs).2.2]) ∧ w' = w := by
  unfold maxLen at hcm
  have HR : Hid _ := readNumber_any a c xs at' w hx hb hm
  obtain ⟨n, b, e, he⟩ : ∃ n b e, rdAny at' xs = (n, b, e) := ⟨_, _, _, rfl⟩
  have HT : Hid (rtAny at' xs = if e ≠ 0 then (ByteArray.empty, 0, e) else if 262144 < n then (ByteArray.empty, 0, 2) else if xs.length - b < n then (ByteArray.empty, 0, 21) else (strOfNums ((xs.drop b.toNat).take n.toNat), b + n, 0)) := by
    show rtAny at' xs = _
    unfold rtAny
    rw [he]
  rw [he] at HR
  by_cases h0 : e = 0
  · subst h0
    have hok := rdAny_ok hb he
    obtain ⟨N, rfl⟩ := Int.eq_ofNat_of_zero_le hok.2.1
    obtain ⟨B, rfl⟩ := Int.eq_ofNat_of_zero_le (show 0 ≤ b by omega)
    simp only [ne_eq, not_true_eq_false, if_false, Int.toNat_natCast] at HT
    have hB : (B : Int) ≤ (xs.length : Int) := hok.2.2.2.2.1
    have hN : N ≤ 2147483647 := by omega
    have hat1 : 0 ≤ at' ∧ at' < (B : Int) := ⟨hok.1, hok.2.2.2.1⟩
    rcases hx with rfl | ⟨bb, o, rfl, h1, hs⟩
    · simp at hB; omega
    · have HS : Hid _ := hs
      clear hok he hs hb h1
      by_cases h2 : 262144 < N
      · have h2' : (262144 : Int) < (N : Int) := by omega
        have HX : Hid (rtAny at' xs = (ByteArray.empty, 0, 2)) := by have := HT.out; rw [if_pos h2'] at this; exact this
        rw [HX.out]
        clear HT HX
        go_enter Tryz.func168, Tryz.ntmps168
        go_wp2_with (first | (go_at_call 104; refine Calls.mono HR.out ?_; rintro e w1 ⟨rfl, rfl⟩) | fail)
        go_ret3
        exact ⟨rfl, rfl⟩
      · have h2' : ¬ (262144 : Int) < (N : Int) := by omega
        by_cases h3 : xs.length < B + N
        · have h3' : (xs.length : Int) - (B : Int) < (N : Int) := by omega
          have HX : Hid (rtAny at' xs = (ByteArray.empty, 0, 21)) := by have := HT.out; rw [if_neg h2', if_pos h3'] at this; exact this
          rw [HX.out]
          clear HT HX
          go_enter Tryz.func168, Tryz.ntmps168
          go_wp2_with (first | (go_at_call 104; refine Calls.mono HR.out ?_; rintro e w1 ⟨rfl, rfl⟩) | fail)
          go_ret3
          exact ⟨rfl, rfl⟩
        · have h3' : ¬ (xs.length : Int) - (B : Int) < (N : Int) := by omega
          have HX : Hid (rtAny at' xs = (strOfNums ((xs.drop B).take N), (B : Int) + (N : Int), 0)) := by have := HT.out; rw [if_neg h2', if_neg h3'] at this; exact this
          rw [HX.out]
          by_cases hBc : B < c
          · have hconv := bytes_conv (B := B) (N := N) (c := c - B) HS.out (by omega)
            generalize strOfNums ((xs.drop B).take N) = S at hconv ⊢
            have hle1 : (B : Int) + (N : Int) ≤ (c : Int) := by omega
            have hle2 : (B : Int) ≤ (B : Int) + (N : Int) := by omega
            have hne : ¬ (c : Int) - (B : Int) = 0 := by omega
            have hne' : ¬ c - B = 0 := by omega
            clear HT HX
            go_enter Tryz.func168, Tryz.ntmps168
            go_wp2_with (first | (go_at_call 104; refine Calls.mono HR.out ?_; rintro e w1 ⟨rfl, rfl⟩) | fail)
            go_ret3
            exact ⟨rfl, rfl⟩
          · obtain rfl : B = c := by omega
            obtain rfl : N = 0 := by omega
            have hconv := bytes_conv (B := 0) (N := 0) (c := 0) HS.out (by omega)
            rw [List.take_zero] at hconv
            rw [List.take_zero]
            rw [Nat.add_zero] at hconv
            generalize strOfNums [] = S at hconv ⊢
            clear HT HX
            go_enter Tryz.func168, Tryz.ntmps168
            go_wp2_with (first | (go_at_call 104; refine Calls.mono HR.out ?_; rintro e w1 ⟨rfl, rfl⟩) | fail)
            go_ret3
            exact ⟨by simp, rfl⟩
  · have hne : (e != 0) = true := by simpa using h0
    have HX : Hid (rtAny at' xs = (ByteArray.empty, 0, e)) := by have := HT.out; rw [if_pos h0] at this; exact this
    rw [HX.out]
    clear HT HX he hx hb
    go_enter Tryz.func168, Tryz.ntmps168
    go_wp2_with (first | (go_at_call 104; refine Calls.mono HR.out ?_; rintro e w1 ⟨rfl, rfl⟩) | fail)
    go_ret3
    exact ⟨rfl, rfl⟩
end Go.Proofs.YtdjfeomdiljaeaaGreatDoor
