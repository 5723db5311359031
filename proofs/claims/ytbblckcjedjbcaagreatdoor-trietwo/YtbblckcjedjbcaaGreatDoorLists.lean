/-
  areNames; Parse of a text.
-/
import Derived.Test.YtbblckcjedjbcaaGreatDoorNames
namespace Go.Proofs.YtbblckcjedjbcaaGreatDoor
open Go.RowKit

/-- The cells from ⟨b, o⟩ on hold these strings. -/
def Strs (w : World) (b o : Nat) (xs : List ByteArray) : Prop := ∀ (j : Nat) (x : ByteArray), xs[j]? = some x → w.cell? ⟨b, o + j, none⟩ = some (.string x)

/-- A slice of strings: no string, or these from an address on. -/
def Lst (w : World) (a : Option Addr) (xs : List ByteArray) : Prop := xs = [] ∨ ∃ b o, a = some ⟨b, o, none⟩ ∧ b < w.heap.size ∧ Strs w b o xs

theorem Lst.below {w w' : World} {a : Option Addr} {xs : List ByteArray} (h : Lst w a xs) (hb : Below w.heap.size w w') : Lst w' a xs := by
  rcases h with h | ⟨b, o, ha, hlt, hs⟩
  · exact .inl h
  · refine .inr ⟨b, o, ha, Nat.lt_of_lt_of_le hlt hb.size, fun j x hx => ?_⟩
    rw [hb.cell (p := ⟨b, o + j, none⟩) hlt]
    exact hs j x hx

theorem all_bad {xs : List ByteArray} {k : Nat} {x : ByteArray} (hx : xs[k]? = some x) (h : isNm x = false) : xs.all isNm = false := by
  rw [List.all_eq_false]
  exact ⟨x, List.mem_of_getElem? hx, by simp [h]⟩
theorem all_step {xs : List ByteArray} {k : Nat} {x : ByteArray} (hx : xs[k]? = some x) (h : isNm x = true) (ha : (xs.take k).all isNm = true) : (xs.take (k + 1)).all isNm = true := by
  rw [List.take_add_one, hx, List.all_append, ha]
  simp [h]

theorem areNames_any (a : Option Addr) (c : Nat) (xs : List ByteArray) (w : World) (hg : Ground w) (hl : Lst w a xs) (hm : xs.length ≤ 9223372036854775807) :
    Calls Tryz.prog 60 #[.slice a xs.length c] w fun e w' => e = .returned (.bool (xs.all isNm)) ∧ w' = w := by
  rcases hl with rfl | ⟨b, o, rfl, hb, hs⟩
  · clear hg
    go_enter Tryz.func60, Tryz.ntmps60
    go_wp2
    refine wp_loop_rounds 1 ?_
    rw [rounds_succ]
    go_wp2
    go_ret
    exact ⟨rfl, rfl⟩
  · have HG : Hid (Ground w) := hg
    have HS : Hid (Strs w b o xs) := hs
    clear hg hs hb
    go_enter Tryz.func60, Tryz.ntmps60
    go_wp2
    go_loop [7] (fun i => ∃ k : Nat, i = .int .i64 k ∧ k ≤ xs.length ∧ (xs.take k).all isNm = true) (fun i => xs.length - (intOf i).toNat)
    case atStart => exact ⟨0, rfl, by omega, rfl⟩
    case round =>
      obtain ⟨k, rfl, hk, ha⟩ := hrel
      have HA : Hid _ := ha
      clear ha
      by_cases hlt : k < xs.length
      · obtain ⟨x, hx⟩ : ∃ x, xs[k]? = some x := ⟨xs[k], List.getElem?_eq_getElem hlt⟩
        have hc := HS.out k x hx
        have HX : Hid (xs[k]? = some x) := hx
        clear hx
        go_wp2_with (first | (go_at_call 84; refine (isName_any _ _ HG.out).mono ?_; rintro e w' ⟨rfl, rfl⟩))
        · have hn : isNm x = false := by simpa using (show (!isNm x) = true by assumption)
          go_ret
          exact ⟨by rw [all_bad HX.out hn]; rfl, rfl⟩
        · have hn : isNm x = true := by simpa using (show (!isNm x) = false by assumption)
          go_round
          case rel => exact ⟨k + 1, by go_num, by omega, all_step HX.out hn HA.out⟩
          case measure => simp [intOf]; omega
      · obtain rfl : k = xs.length := by omega
        have e : xs.all isNm = true := by have := HA.out; rwa [List.take_length] at this
        have HE : Hid _ := e
        clear e
        go_wp2
        go_ret
        exact ⟨by rw [HE.out]; rfl, rfl⟩
end Go.Proofs.YtbblckcjedjbcaaGreatDoor
