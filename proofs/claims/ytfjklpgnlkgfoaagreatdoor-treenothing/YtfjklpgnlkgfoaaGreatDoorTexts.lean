/-
  texts of the same list twice.
-/
import Derived.Test.YtfjklpgnlkgfoaaGreatDoorLists
namespace Go.Proofs.YtfjklpgnlkgfoaaGreatDoor
open Go.RowKit

theorem texts_same (a a' : Option Addr) (c c' : Nat) (xs : List ByteArray) (w : World) (hl : Lst w a xs) (hl' : Lst w a' xs) (hm : xs.length ≤ 9223372036854775807) :
    Calls Tryz.prog 28 #[.slice a xs.length c, .slice a' xs.length c'] w fun e w' => e = .returned (.bool true) ∧ ∃ m, w' = w.drewN m := by
  rcases hl with rfl | ⟨b, o, rfl, hb, hs⟩
  · go_enter Tryz.func28, Tryz.ntmps28
    go_wp2
    refine wp_loop_rounds 1 ?_
    rw [rounds_succ]
    go_wp2
    go_ret
    exact ⟨rfl, 0, rfl⟩
  · rcases hl' with rfl | ⟨b', o', rfl, hb', hs'⟩
    · go_enter Tryz.func28, Tryz.ntmps28
      go_wp2
      refine wp_loop_rounds 1 ?_
      rw [rounds_succ]
      go_wp2
      go_ret
      exact ⟨rfl, 0, rfl⟩
    · have HS : Hid (Strs w b o xs) := hs
      have HS' : Hid (Strs w b' o' xs) := hs'
      clear hs hs' hb hb'
      go_enter Tryz.func28, Tryz.ntmps28
      go_wp2
      go_loopw [5] (fun i wr => ∃ k m : Nat, i = .int .i64 k ∧ wr = w.drewN m ∧ k ≤ xs.length) (fun i _ => xs.length - (intOf i).toNat)
      case atStart => exact ⟨0, 0, rfl, rfl, by omega⟩
      case round =>
        obtain ⟨k, m, rfl, rfl, hk⟩ := hrel
        by_cases hlt : k < xs.length
        · obtain ⟨x, hx⟩ : ∃ x, xs[k]? = some x := ⟨xs[k], List.getElem?_eq_getElem hlt⟩
          have hc := HS.out k x hx
          have hc' := HS'.out k x hx
          have hlt' : (k : Int) < (xs.length : Int) := by omega
          clear hx
          go_wp2
          go_quiet (fail)
          go_wp2
          go_roundw
          case rel => exact ⟨k + 1, m + nq, by go_num, rfl, by omega⟩
          case measure => simp [intOf]; omega
        · obtain rfl : k = xs.length := by omega
          go_wp2
          go_ret
          exact ⟨rfl, m, rfl⟩
end Go.Proofs.YtfjklpgnlkgfoaaGreatDoor
