/-
  shot: small functions that Check asks.
-/
import Derived.Test.YtponpkfdkdnaeaaDoorSTurned
import Derived.Test.YtponpkfdkdnaeaaDoorRefOrder
namespace Go.Proofs.YtponpkfdkdnaeaaDoor
open Go.RowKit
set_option linter.unusedVariables false
set_option linter.unusedSimpArgs false

def isNum (v : Int) : Bool := decide (0 ≤ v ∧ v ≤ 2147483647)
theorem isNumber_any (v : Int) (w : World) : Calls Tryd.prog 19 #[.int .i64 v] w fun e w' => e = .returned (.bool (isNum v)) ∧ w' = w := by
  unfold isNum
  by_cases h0 : 0 ≤ v
  · by_cases h1 : v ≤ 2147483647
    · have hd : decide (0 ≤ v ∧ v ≤ 2147483647) = true := by simp [h0, h1]
      rw [hd]
      go_enter Tryd.func19, Tryd.ntmps19
      go_wp2_with fail
      go_ret
      exact ⟨rfl, rfl⟩
    · have hd : decide (0 ≤ v ∧ v ≤ 2147483647) = false := by simp [h1]
      rw [hd]
      go_enter Tryd.func19, Tryd.ntmps19
      go_wp2_with fail
      go_ret
      exact ⟨rfl, rfl⟩
  · have hd : decide (0 ≤ v ∧ v ≤ 2147483647) = false := by simp [h0]
    rw [hd]
    go_enter Tryd.func19, Tryd.ntmps19
    go_wp2_with fail
    go_ret
    exact ⟨rfl, rfl⟩
def fitB (d : ByteArray) (v : Int) : Bool := decide (d.size ≤ 64) && isNum v
set_option maxHeartbeats 1600000 in
theorem fits_any (d : ByteArray) (v : Int) (w : World) : Calls Tryd.prog 33 #[.string d, .int .i64 v] w fun e w' => e = .returned (.bool (fitB d v)) ∧ w' = w := by
  unfold fitB
  by_cases h : d.size ≤ 64
  · have h' : (d.size : Int) ≤ 64 := by omega
    have hd : decide (d.size ≤ 64) = true := by simp [h]
    rw [hd, Bool.true_and]
    go_enter Tryd.func33, Tryd.ntmps33
    go_wp2_with (first | (go_at_call 19; refine (isNumber_any _ _).mono ?_; rintro e w1 ⟨rfl, rfl⟩) | fail)
    go_ret
    exact ⟨rfl, rfl⟩
  · have h' : ¬ (d.size : Int) ≤ 64 := by omega
    have hd : decide (d.size ≤ 64) = false := by simp [h]
    rw [hd, Bool.false_and]
    go_enter Tryd.func33, Tryd.ntmps33
    go_wp2_with fail
    go_ret
    exact ⟨rfl, rfl⟩
set_option maxHeartbeats 1600000 in
theorem isFor_any (st : Int) (p : ByteArray) (k : Int) (a : Option Addr) (n c : Nat) (at' : ByteArray) (w : World) (hg : Ground w) : Calls Tryd.prog 20 #[.agg #[.int .i64 st, .string p, .int .i64 k, .slice a n c], .string at'] w fun e w' => e = .returned (.bool (covers k p 1 at')) ∧ Below w.heap.size w w' := by
  have HB : Hid (Below w.heap.size w (w.alloc (.cells #[.int .i64 st, .string p, .int .i64 k, .slice a n c] 25))) := (Below.refl _ _).alloc (Nat.le_refl _) _
  have HC : Hid _ := covers_any k 1 p at' _ (hg.below HB.out)
  go_enter Tryd.func20, Tryd.ntmps20
  go_wp2_with fail
  refine Calls.mono HC.out ?_
  rintro e w1 ⟨rfl, hb⟩
  go_wp2_with fail
  go_ret
  exact ⟨rfl, trans2 HB.out hb⟩
set_option maxHeartbeats 1600000 in
theorem cmp_any (s : SeenT) (at' : ByteArray) (hs : s.p.size ≤ maxLen) (ha : at'.size ≤ maxLen) (w : World) : Calls Tryd.prog 57 #[.agg #[.string s.p, .string s.d, .int .i64 s.v], .string at'] w fun e w' => e = .returned (.int .i64 (O s.p at')) ∧ Below w.heap.size w w' := by
  have HB : Hid (Below w.heap.size w (w.alloc (.cells #[.string s.p, .string s.d, .int .i64 s.v] 47))) := (Below.refl _ _).alloc (Nat.le_refl _) _
  have HC : Hid _ := order_O s.p at' hs ha (w.alloc (.cells #[.string s.p, .string s.d, .int .i64 s.v] 47))
  go_enter Tryd.func57, Tryd.ntmps57
  go_wp2_with fail
  refine Calls.mono HC.out ?_
  rintro e w1 ⟨rfl, m, rfl⟩
  go_wp2_with fail
  go_ret
  exact ⟨rfl, below_drewN HB.out m⟩
end Go.Proofs.YtponpkfdkdnaeaaDoor
