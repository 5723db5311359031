/-
  stain.
-/
import Derived.Test.YtdjibjmhjofedacWFinds1
namespace Go.Proofs.Ytdjibjmhjofedac
open Go.RowKit
set_option linter.unusedVariables false

/-- The k-th mark of the n-th list. -/
def stainV (n k : Nat) : Int := (((n % 241 * 53 + k % 241 * (k % 241) * 7 + k % 241 * 29 + 5) % 241 : Nat) : Int)
theorem stain_byt (n k : Nat) : 0 ≤ stainV n k ∧ stainV n k < 256 := by
  unfold stainV
  omega

theorem stain_eq (n k : Nat) : (wrap64 (wrap64 (wrap64 ((n : Int) % 241 * 53 + wrap64 (wrap64 ((k : Int) % 241 * ((k : Int) % 241)) * 7)) + (k : Int) % 241 * 29) + 5)).tmod 241 % 256 = stainV n k := by
  obtain ⟨x, hx⟩ : ∃ x, x = n % 241 := ⟨_, rfl⟩
  obtain ⟨y, hy⟩ : ∃ y, y = k % 241 := ⟨_, rfl⟩
  have hx2 : x < 241 := by omega
  have hy2 : y < 241 := by omega
  obtain ⟨q, hq⟩ : ∃ q, q = y * y := ⟨_, rfl⟩
  have hq2 : q ≤ 57600 := by rw [hq]; exact Nat.mul_le_mul (show y ≤ 240 by omega) (show y ≤ 240 by omega)
  have wr : ∀ z : Nat, z ≤ 1000000 → wrap64 (z : Int) = z := fun z hz => by
    first
      | (unfold wrap64; omega)
      | (rw [← IntKind.wrap_i64]; exact wraps_i64 _ (by omega) (by omega))
  unfold stainV
  rw [← hx, ← hy, ← hq, show (n : Int) % 241 = (x : Int) by omega, show (k : Int) % 241 = (y : Int) by omega, show (y : Int) * (y : Int) = ((q : Nat) : Int) by rw [hq]; push_cast; rfl]
  rw [wr q (by omega), show (q : Int) * 7 = ((q * 7 : Nat) : Int) by omega, wr (q * 7) (by omega), show (x : Int) * 53 + ((q * 7 : Nat) : Int) = ((x * 53 + q * 7 : Nat) : Int) by omega, wr _ (by omega), show ((x * 53 + q * 7 : Nat) : Int) + (y : Int) * 29 = ((x * 53 + q * 7 + y * 29 : Nat) : Int) by omega, wr _ (by omega), show ((x * 53 + q * 7 + y * 29 : Nat) : Int) + 5 = ((x * 53 + q * 7 + y * 29 + 5 : Nat) : Int) by omega, wr _ (by omega), Int.tmod_eq_emod_of_nonneg (by omega)]
  omega

set_option maxHeartbeats 3200000 in
set_option maxRecDepth 100000 in
theorem stain_any (n k : Nat) (w : World) (hn : n ≤ 1000000) (hk : k ≤ 1000000) :
    Calls Try.prog 35 #[.int .i64 n, .int .i64 k] w fun e w' => e = .returned (.int .u8 (stainV n k)) ∧ w' = w := by
  go_enter Try.func35, Try.ntmps35
  go_wp2
  go_ret
  exact ⟨by rw [stain_eq]; rfl, rfl⟩
end Go.Proofs.Ytdjibjmhjofedac
