/-
  The document's answer for Sum.
-/
import Derived.Test.YtdjibjmhjofedacWBits
namespace Go.Proofs.Ytdjibjmhjofedac
open Go.RowKit

theorem turned_any (r : Nat) (hr : r < 4294967296) (w : World) :
    Calls Try.prog 46 #[.int .i64 r] w fun e w' => e = .returned (.int .i64 (turn1 r)) ∧ w' = w := by
  by_cases h : r % 2 = 1
  · have e : turn1 r = r / 2 ^^^ 3988292384 := by unfold turn1; rw [if_pos h]
    have hx : bits .xor .i64 ((r : Int) / 2) 3988292384 = ((r / 2 ^^^ 3988292384 : Nat) : Int) := by
      have := i64_xor_nat (r / 2) 3988292384 (by omega) (by omega)
      rw [← this]
      rfl
    rw [e]
    generalize r / 2 ^^^ 3988292384 = C at hx ⊢
    have h1 : ((r : Int) % 2 == 1) = true := by simp; omega
    clear e h
    go_enter Try.func46, Try.ntmps46
    go_wp2
    go_ret
    exact ⟨rfl, rfl⟩
  · have e : turn1 r = r / 2 := by unfold turn1; rw [if_neg h]
    rw [e]
    have h1 : ((r : Int) % 2 == 1) = false := by simp; omega
    clear e h
    go_enter Try.func46, Try.ntmps46
    go_wp2
    go_ret
    exact ⟨by simp, rfl⟩

/-- So many steps. -/
def turns : Nat → Nat → Nat
  | 0, r => r
  | n + 1, r => turns n (turn1 r)
theorem turns_step (n r : Nat) : turns (n + 1) r = turn1 (turns n r) := by
  induction n generalizing r with
  | zero => rfl
  | succ n ih => exact ih (turn1 r)
theorem turns_lt {n r : Nat} (h : r < 4294967296) : turns n r < 4294967296 := by
  induction n with
  | zero => exact h
  | succ n ih => rw [turns_step]; exact turn1_lt ih

theorem step_any (r : Nat) (hr : r < 4294967296) (x : Int) (hx : 0 ≤ x ∧ x < 256) (w : World) :
    Calls Try.prog 45 #[.int .i64 r, .int .u8 x] w fun e w' => e = .returned (.int .i64 (step8 r x.toNat)) ∧ w' = w := by
  have hin : bits .xor .i64 (r : Int) x = ((r ^^^ x.toNat : Nat) : Int) := by
    have := i64_xor_nat r x.toNat (by omega) (by omega)
    rw [← this]
    congr 1
    omega
  have hl : r ^^^ x.toNat < 4294967296 := xor_lt32 hr (by omega)
  have e : step8 r x.toNat = turns 8 (r ^^^ x.toNat) := rfl
  have HE : Hid _ := e
  obtain ⟨y, hy⟩ : ∃ y, step8 r x.toNat = y := ⟨_, rfl⟩
  rw [hy]
  rw [hy] at HE
  generalize r ^^^ x.toNat = R at hin hl HE
  clear e hy
  go_enter Try.func45, Try.ntmps45
  go_wp2
  go_loop [0, 5] (fun a i => ∃ k : Nat, a = .int .i64 (turns k R) ∧ i = .int .i64 k ∧ k ≤ 8) (fun _ i => 8 - (intOf i).toNat)
  case atStart => exact ⟨0, rfl, rfl, by omega⟩
  case round =>
    obtain ⟨k, rfl, rfl, hk⟩ := hrel
    by_cases hlt : k < 8
    · have hT := turns_lt (n := k) hl
      have hst := turns_step k R
      generalize turns k R = A at hT hst ⊢
      have HST : Hid _ := hst
      clear hst
      go_wp2_with (first | (go_at_call 46; refine (turned_any A hT _).mono ?_; rintro e w' ⟨rfl, rfl⟩))
      exact ⟨⟨k + 1, by rw [HST.out], by go_num, by omega⟩, by simp [intOf]; omega⟩
    · obtain rfl : k = 8 := by omega
      rw [← HE.out]
      go_wp2
      go_ret
      exact ⟨rfl, rfl⟩

theorem regs_next {r : Nat} {xs : List Int} {k : Nat} {x : Int} (hx : xs[k]? = some x) : regs r (xs.take (k + 1)) = step8 (regs r (xs.take k)) x.toNat := by
  rw [List.take_add_one, hx, regs_append]
  rfl

/-- Sum of any bytes. -/
theorem refSum_any (a : Option Addr) (c : Nat) (xs : List Int) (w : World) (hx : Bys w a xs) (hb : Byt xs) (hm : xs.length ≤ maxLen) :
    Calls Try.prog 38 #[.slice a xs.length c] w fun e w' => e = .returned (.int .i64 (crc xs)) ∧ w' = w := by
  unfold maxLen at hm
  rcases hx with rfl | ⟨b, o, rfl, h1, hs⟩
  · have hnot : bits .xor .i64 4294967295 4294967295 = 0 := i64_xor_nat 4294967295 4294967295 (by omega) (by omega)
    have e0 : crc [] = 0 := by rfl
    have HE : Hid _ := e0
    clear e0 hb
    go_enter Try.func38, Try.ntmps38
    go_wp2
    refine wp_loop_rounds 1 ?_
    rw [rounds_succ]
    go_wp2
    go_ret
    exact ⟨by rw [HE.out]; rfl, rfl⟩
  · have HS : Hid _ := hs
    have HY : Hid (Byt xs) := hb
    clear hs hb h1
    go_enter Try.func38, Try.ntmps38
    go_wp2
    go_loop [3, 4] (fun r i => ∃ k : Nat, r = .int .i64 (regs 4294967295 (xs.take k)) ∧ i = .int .i64 k ∧ k ≤ xs.length) (fun _ i => xs.length - (intOf i).toNat)
    case atStart => exact ⟨0, rfl, rfl, by omega⟩
    case round =>
      obtain ⟨k, rfl, rfl, hk⟩ := hrel
      by_cases hlt : k < xs.length
      · obtain ⟨x, hx⟩ : ∃ x, xs[k]? = some x := ⟨xs[k], List.getElem?_eq_getElem hlt⟩
        have hc := HS.out k x hx
        have hxb := Byt.at HY.out hx
        have hreg : regs 4294967295 (xs.take k) < 4294967296 := regs_lt (by omega) (Byt.take HY.out k)
        have hst := regs_next (r := 4294967295) hx
        generalize regs 4294967295 (xs.take k) = R at hreg hst ⊢
        have HST : Hid _ := hst
        clear hst hx
        go_wp2_with (first | (go_at_call 45; refine (step_any R hreg x hxb _).mono ?_; rintro e w' ⟨rfl, rfl⟩))
        exact ⟨⟨k + 1, by rw [HST.out], by go_num, by omega⟩, by simp [intOf]; omega⟩
      · obtain rfl : k = xs.length := by omega
        have hreg : regs 4294967295 (xs.take xs.length) < 4294967296 := regs_lt (by omega) (Byt.take HY.out _)
        have hst : crc xs = regs 4294967295 (xs.take xs.length) ^^^ 4294967295 := by rw [List.take_length]; rfl
        generalize regs 4294967295 (xs.take xs.length) = R at hreg hst ⊢
        have hnot : bits .xor .i64 (R : Int) 4294967295 = ((R ^^^ 4294967295 : Nat) : Int) := i64_xor_nat R 4294967295 (by omega) (by omega)
        generalize R ^^^ 4294967295 = C at hst hnot
        have HST : Hid _ := hst
        clear hst HS HY
        go_wp2
        go_ret
        refine ⟨?_, rfl⟩
        rw [HST.out]
        rfl
end Go.Proofs.Ytdjibjmhjofedac
