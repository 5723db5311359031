/-
  pairs of numbers that are the same.
-/
import Derived.Test.YtblhenblibdjoaaDoorKnown
namespace Go.Proofs.YtblhenblibdjoaaDoor
open Go.RowKit

/-- Each pair of the row holds one number twice. -/
def Twice (w : World) (b n : Nat) : Prop := ∀ k : Nat, k < n → ∃ z : Int, w.cell? ⟨b, k * 2, none⟩ = some (.int .i64 z) ∧ w.cell? ⟨b, k * 2 + 1, none⟩ = some (.int .i64 z)

theorem cellsPair : Tryd.prog.cellsOf 49 = 2 := by kernel_rfl

theorem pairs_any (b n c : Nat) (hn : n ≤ 1000) (w : World) (h : Twice w b n) :
    Calls Tryd.prog 33 #[.slice (some ⟨b, 0, none⟩) n c] w fun e w' => e = .returned (.bool true) ∧ ∃ m, w' = w.drewN m := by
  have HT : Hid _ := h
  clear h
  have c2 := cellsPair
  go_enter Tryd.func33, Tryd.ntmps33
  go_wp2
  go_loopw [3] (fun i wr => ∃ k m : Nat, i = .int .i64 k ∧ wr = w.drewN m ∧ k ≤ n) (fun i _ => n - (intOf i).toNat)
  case atStart => exact ⟨0, 0, rfl, rfl, by omega⟩
  case round =>
    obtain ⟨k, m, rfl, rfl, hk⟩ := hrel
    by_cases hlt : k < n
    · obtain ⟨z, h1, h2⟩ := HT.out k hlt
      have hlt' : (k : Int) < (n : Int) := by omega
      go_wp2
      go_quiet (fail)
      go_wp2
      go_roundw
      case rel => exact ⟨k + 1, m + nq, by go_num, rfl, by omega⟩
      case measure => simp [intOf]; omega
    · obtain rfl : k = n := by omega
      go_wp2
      go_ret
      exact ⟨rfl, m, rfl⟩
end Go.Proofs.YtblhenblibdjoaaDoor
