/-
  mark by a contract.
-/
import Derived.Test.YtblhenblibdjoabDoorKnown
namespace Go.Proofs.YtblhenblibdjoabDoor
open Go.RowKit

def markL (j k : Nat) : List Int := [97 + (j : Int) % 26, 97 + (j : Int) / 26 % 26, 97 + (j : Int) / 676 % 26, 65 + (k : Int) % 26, 65 + (k : Int) / 26 % 26]
/-- The text of a mark. -/
def markB (j k : Nat) : ByteArray := strOfNums (markL j k)

theorem conv_five (w : World) (a b c d e : Int) : (convert 55 9 (.slice (some ⟨w.heap.size, 0, none⟩) 5 5)).run Tryd.prog (w.alloc (.cells #[.int .u8 a, .int .u8 b, .int .u8 c, .int .u8 d, .int .u8 e] 5)) = .ok (.string (strOfNums [a, b, c, d, e])) (w.alloc (.cells #[.int .u8 a, .int .u8 b, .int .u8 c, .int .u8 d, .int .u8 e] 5)) := by
  refine run_convert_bytes_arg _ 55 5 Tryd.underlying55 Tryd.underlying5 w.heap.size 0 5 5 [a, b, c, d, e] rfl (fun i hi => ?_) 9 Tryd.underlying9
  rcases (show i = 0 ∨ i = 1 ∨ i = 2 ∨ i = 3 ∨ i = 4 by omega) with rfl | rfl | rfl | rfl | rfl <;> simp

set_option maxRecDepth 100000 in
theorem mark_any (j k : Nat) (hj : j ≤ 100000) (hk : k ≤ 100000) (w : World) :
    Calls Tryd.prog 22 #[.int .i64 j, .int .i64 k] w fun e w' => e = .returned (.string (markB j k)) ∧ Below w.heap.size w w' := by
  obtain ⟨m, hm⟩ : ∃ m, markB j k = m := ⟨_, rfl⟩
  have hconv := conv_five w (97 + (j : Int) % 26) (97 + (j : Int) / 26 % 26) (97 + (j : Int) / 676 % 26) (65 + (k : Int) % 26) (65 + (k : Int) / 26 % 26)
  rw [show strOfNums [97 + (j : Int) % 26, 97 + (j : Int) / 26 % 26, 97 + (j : Int) / 676 % 26, 65 + (k : Int) % 26, 65 + (k : Int) / 26 % 26] = m from hm] at hconv
  rw [hm]
  clear hm
  go_enter Tryd.func22, Tryd.ntmps22
  go_wp2
  go_ret
  exact ⟨rfl, (Below.refl _ _).alloc (Nat.le_refl _) _⟩
end Go.Proofs.YtblhenblibdjoabDoor
