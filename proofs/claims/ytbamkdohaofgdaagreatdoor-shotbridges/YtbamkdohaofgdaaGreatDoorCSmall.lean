import Derived.Test.YtbamkdohaofgdaaGreatDoorLine
import Derived.Test.YtbamkdohaofgdaaGreatDoorSTurned
namespace Go.Proofs.YtbamkdohaofgdaaGreatDoor
open Go.RowKit
set_option maxHeartbeats 3200000
end Go.Proofs.YtbamkdohaofgdaaGreatDoor
namespace Go.Proofs.YtbamkdohaofgdaaGreatDoor
open Go.RowKit
set_option linter.unusedVariables false
set_option linter.unusedSimpArgs false

def isNum (v : Int) : Bool := decide (0 ≤ v ∧ v ≤ 2147483647)
theorem isNumber_any (v : Int) (w : World) : Calls Tryz.prog 24 #[.int .i64 v] w fun e w' => e = .returned (.bool (isNum v)) ∧ w' = w := by
  unfold isNum
  by_cases h0 : 0 ≤ v
  · by_cases h1 : v ≤ 2147483647
    · have hd : decide (0 ≤ v ∧ v ≤ 2147483647) = true := by simp [h0, h1]
      rw [hd]
      go_enter Tryz.func24, Tryz.ntmps24
      go_wp2_with fail
      go_ret
      exact ⟨rfl, rfl⟩
    · have hd : decide (0 ≤ v ∧ v ≤ 2147483647) = false := by simp [h1]
      rw [hd]
      go_enter Tryz.func24, Tryz.ntmps24
      go_wp2_with fail
      go_ret
      exact ⟨rfl, rfl⟩
  · have hd : decide (0 ≤ v ∧ v ≤ 2147483647) = false := by simp [h0]
    rw [hd]
    go_enter Tryz.func24, Tryz.ntmps24
    go_wp2_with fail
    go_ret
    exact ⟨rfl, rfl⟩
def fitB (d : ByteArray) (v : Int) : Bool := decide (d.size ≤ 64) && isNum v
set_option maxHeartbeats 1600000 in
theorem fits_any (d : ByteArray) (v : Int) (w : World) : Calls Tryz.prog 42 #[.string d, .int .i64 v] w fun e w' => e = .returned (.bool (fitB d v)) ∧ w' = w := by
  unfold fitB
  by_cases h : d.size ≤ 64
  · have h' : (d.size : Int) ≤ 64 := by omega
    have hd : decide (d.size ≤ 64) = true := by simp [h]
    rw [hd, Bool.true_and]
    go_enter Tryz.func42, Tryz.ntmps42
    go_wp2_with (first | (go_at_call 24; refine (isNumber_any _ _).mono ?_; rintro e w1 ⟨rfl, rfl⟩) | fail)
    go_ret
    exact ⟨rfl, rfl⟩
  · have h' : ¬ (d.size : Int) ≤ 64 := by omega
    have hd : decide (d.size ≤ 64) = false := by simp [h]
    rw [hd, Bool.false_and]
    go_enter Tryz.func42, Tryz.ntmps42
    go_wp2_with fail
    go_ret
    exact ⟨rfl, rfl⟩
set_option maxHeartbeats 1600000 in
theorem isFor_any (st : Int) (p : ByteArray) (k : Int) (a : Option Addr) (n c : Nat) (at' : ByteArray) (w : World) (hg : Ground w) : Calls Tryz.prog 30 #[.agg #[.int .i64 st, .string p, .int .i64 k, .slice a n c], .string at'] w fun e w' => e = .returned (.bool (covers k p 1 at')) ∧ Below w.heap.size w w' := by
  have HB : Hid (Below w.heap.size w (w.alloc (.cells #[.int .i64 st, .string p, .int .i64 k, .slice a n c] 24))) := (Below.refl _ _).alloc (Nat.le_refl _) _
  have HC : Hid _ := covers_any k 1 p at' _ (hg.below HB.out)
  go_enter Tryz.func30, Tryz.ntmps30
  go_wp2_with fail
  refine Calls.mono HC.out ?_
  rintro e w1 ⟨rfl, hb⟩
  go_wp2_with fail
  go_ret
  exact ⟨rfl, trans2 HB.out hb⟩
set_option maxHeartbeats 1600000 in
theorem cmp_any (s : SeenT) (at' : ByteArray) (hs : s.p.size ≤ maxLen) (ha : at'.size ≤ maxLen) (w : World) : Calls Tryz.prog 68 #[.agg #[.string s.p, .string s.d, .int .i64 s.v], .string at'] w fun e w' => e = .returned (.int .i64 (O s.p at')) ∧ Below w.heap.size w w' := by
  have HB : Hid (Below w.heap.size w (w.alloc (.cells #[.string s.p, .string s.d, .int .i64 s.v] 52))) := (Below.refl _ _).alloc (Nat.le_refl _) _
  have HC : Hid _ := order_O s.p at' hs ha (w.alloc (.cells #[.string s.p, .string s.d, .int .i64 s.v] 52))
  go_enter Tryz.func68, Tryz.ntmps68
  go_wp2_with fail
  refine Calls.mono HC.out ?_
  rintro e w1 ⟨rfl, m, rfl⟩
  go_wp2_with fail
  go_ret
  exact ⟨rfl, below_drewN HB.out m⟩
end Go.Proofs.YtbamkdohaofgdaaGreatDoor
