/-
  heraldlaw5: sameBytes.
-/
import Derived.Test.YtponpkfdkdnaeaaDoorWMem
namespace Go.Proofs.YtponpkfdkdnaeaaDoor
open Go.RowKit
set_option linter.unusedVariables false
set_option linter.unusedSimpArgs false
theorem same_partB {xs ys : List Int} {k : Nat} {x y : Int} (hx : xs[k]? = some x) (hy : ys[k]? = some y) (h : x ≠ y) : xs ≠ ys := by
  intro e
  subst e
  rw [hx] at hy
  exact h (Option.some.inj hy)
theorem same_stepB {xs ys : List Int} {k : Nat} {x : Int} (hx : xs[k]? = some x) (hy : ys[k]? = some x) (h : xs.take k = ys.take k) : xs.take (k + 1) = ys.take (k + 1) := by
  rw [List.take_add_one, List.take_add_one, hx, hy, h]

theorem sameBytes_any (a b : Option Addr) (c d : Nat) (xs ys : List Int) (w : World) (hx : Bys w a xs) (hy : Bys w b ys) (hm : xs.length ≤ maxLen) :
    Calls Tryd.prog 8 #[.slice a xs.length c, .slice b ys.length d] w fun e w' => e = .returned (.bool (decide (xs = ys))) ∧ ∃ m, w' = w.drewN m := by
  unfold maxLen at hm
  by_cases hl : xs.length = ys.length
  · rcases hx with rfl | ⟨b1, o1, rfl, h1, hs1⟩
    · have : ys = [] := List.eq_nil_of_length_eq_zero hl.symm
      subst this
      go_enter Tryd.func8, Tryd.ntmps8
      go_wp2
      refine wp_loop_rounds 1 ?_
      rw [rounds_succ]
      go_wp2
      go_ret
      exact ⟨rfl, 0, rfl⟩
    · rcases hy with rfl | ⟨b2, o2, rfl, h2, hs2⟩
      · have : xs = [] := List.eq_nil_of_length_eq_zero hl
        subst this
        go_enter Tryd.func8, Tryd.ntmps8
        go_wp2
        refine wp_loop_rounds 1 ?_
        rw [rounds_succ]
        go_wp2
        go_ret
        exact ⟨rfl, 0, rfl⟩
      · obtain ⟨r, hr⟩ : ∃ r, decide (xs = ys) = r := ⟨_, rfl⟩
        rw [hr]
        have HR : Hid _ := hr
        have HS1 : Hid _ := hs1
        have HS2 : Hid _ := hs2
        clear hs1 hs2 h1 h2 hr
        go_enter Tryd.func8, Tryd.ntmps8
        go_wp2
        go_loopw [5] (fun i wr => ∃ k m : Nat, i = .int .i64 k ∧ wr = w.drewN m ∧ k ≤ xs.length ∧ xs.take k = ys.take k) (fun i _ => xs.length - (intOf i).toNat)
        case atStart => exact ⟨0, 0, rfl, rfl, by omega, rfl⟩
        case round =>
          obtain ⟨k, m, rfl, rfl, hk, ha⟩ := hrel
          have HA : Hid _ := ha
          clear ha
          by_cases hlt : k < xs.length
          · obtain ⟨x, hx⟩ : ∃ x, xs[k]? = some x := ⟨xs[k], List.getElem?_eq_getElem hlt⟩
            obtain ⟨y, hy⟩ : ∃ y, ys[k]? = some y := ⟨ys[k]'(by omega), List.getElem?_eq_getElem (by omega)⟩
            have hc1 := HS1.out k x hx
            have hc2 := HS2.out k y hy
            have HX : Hid (xs[k]? = some x) := hx
            have HY : Hid (ys[k]? = some y) := hy
            clear hx hy
            have hlt' : (k : Int) < (xs.length : Int) := by omega
            have hlt2 : (k : Int) < (ys.length : Int) := by omega
            by_cases he : x = y
            · subst he
              go_wp2
              go_quiet (fail)
              go_wp2
              go_roundw
              case rel => exact ⟨k + 1, m + nq, by go_num, rfl, by omega, same_stepB HX.out HY.out HA.out⟩
              case measure => simp [intOf]; omega
            · have he' : (x != y) = true := by simpa using he
              go_wp2
              go_quiet (fail)
              go_wp2
              go_ret
              refine ⟨?_, m + nq, by simp⟩
              rw [← HR.out, decide_eq_false (same_partB HX.out HY.out he)]
              rfl
          · obtain rfl : k = xs.length := by omega
            have e : r = true := by
              have := HA.out
              rw [List.take_length, hl, List.take_length] at this
              rw [← HR.out, decide_eq_true this]
            subst e
            clear HR HS1 HS2 HA
            go_wp2
            go_ret
            exact ⟨rfl, m, rfl⟩
  · have hne : decide (xs = ys) = false := decide_eq_false (fun e => hl (by rw [e]))
    rw [hne]
    clear hx hy hne
    have hl' : ((xs.length : Int) != (ys.length : Int)) = true := by simp; omega
    go_enter Tryd.func8, Tryd.ntmps8
    go_wp2
    go_ret
    exact ⟨rfl, 0, rfl⟩
end Go.Proofs.YtponpkfdkdnaeaaDoor
