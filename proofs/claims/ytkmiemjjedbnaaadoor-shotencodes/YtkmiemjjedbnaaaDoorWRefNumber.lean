/-
  The document's answer for Number.
-/
import Derived.Test.YtkmiemjjedbnaaaDoorWNumber
namespace Go.Proofs.YtkmiemjjedbnaaaDoor
open Go.RowKit

set_option maxHeartbeats 1600000 in
set_option maxRecDepth 100000 in
theorem refNumber_good (v : Nat) (w : World) (hv : v < 2147483648) :
    Calls Tryd.prog 48 #[.int .i64 v] w fun e w' => ∃ a c, e = .returned (.tuple #[.slice a (numL v).length c, .int .i64 0]) ∧ w'.ownsRow w.heap.size 5 1 (.slice a (numL v).length c) (numL v).length (bv (numL v)) ∧ Below w.heap.size w w' := by
  obtain ⟨i0, hi, hz0, hz1, hz2⟩ := info_parts Tryd.info5
  obtain ⟨T, hT⟩ : ∃ T, numL v = T := ⟨_, rfl⟩
  rw [hT]
  have HT : Hid _ := hT
  clear hT
  have h0 : ¬ (v : Int) < 0 := by omega
  have h1 : ¬ (2147483647 : Int) < (v : Int) := by omega
  go_enter Tryd.func48, Tryd.ntmps48
  go_wp2
  clear h0 h1
  go_loopw [0, 4] (fun x u wr => ∃ (y : Nat) (done : List Int), x = .int .i64 y ∧ y ≤ v ∧ done.length ≤ v - y ∧ wr.ownsRow w.heap.size 5 1 u done.length (bv done) ∧ Below w.heap.size w wr ∧ Hid (done ++ numL y = T))
    (fun x _ _ => (intOf x).toNat)
  case atStart => exact ⟨v, [], rfl, by omega, by simp, World.ownsRow_nil _ _ _ _, Below.refl _ _, HT.out⟩
  case round =>
    obtain ⟨y, done, rfl, hy, hdl, hown, hbel, HG⟩ := hrel
    by_cases hlt : y < 128
    · have HX : Hid (done ++ [(y : Int)] = T) := by have := HG.out; rw [numL_small hlt] at this; exact this
      clear HG HT
      have hy256 : (y : Int) % 256 = y := by omega
      go_wp2_with (first
        | (at_builtin; refine wpList_append_own _ rfl _ _ 34 rfl w.heap.size 5 i0 (.int .u8 0) 1 1 Tryd.underlying34 hi hz0 hz1 hz2 rfl (by decide) _ _ _ rfl (hown.alloc _) ⟨wr.heap.size, 0, none⟩ 1 1 [.int .u8 y] rfl rfl (cell_one_new _ _ _) (fun x hx => by simp at hx; subst hx; rfl) (by unfold maxLen; omega) (by omega) (by have := hbel.size; simp; omega) ?_; intro v' w1 hown' hgrow _)
        | go_in)
      have R := rel_appI hown hbel (Nat.le_refl _) hown' hgrow
      rw [HX.out] at R
      obtain ⟨a, c, rfl, _⟩ := bys_of_owns R.1
      go_ret2
      exact ⟨a, c, rfl, R.1, R.2⟩
    · have HX : Hid ((done ++ [((y % 128 + 128 : Nat) : Int)]) ++ numL (y / 128) = T) := by have := HG.out; rw [numL_big hlt] at this; rw [List.append_assoc]; exact this
      clear HG HT
      go_wp2_with (first
        | (at_builtin; refine wpList_append_own _ rfl _ _ 34 rfl w.heap.size 5 i0 (.int .u8 0) 1 1 Tryd.underlying34 hi hz0 hz1 hz2 rfl (by decide) _ _ _ rfl (hown.alloc _) ⟨wr.heap.size, 0, none⟩ 1 1 [.int .u8 ((y : Int) % 128 + 128)] rfl rfl (cell_one_new _ _ _) (fun x hx => by simp at hx; subst hx; rfl) (by unfold maxLen; omega) (by omega) (by have := hbel.size; simp; omega) ?_; intro v' w1 hown' hgrow _)
        | go_in)
      have R := rel_appI hown hbel (Nat.le_refl _) hown' hgrow
      go_roundw
      case rel => exact ⟨y / 128, done ++ [((y % 128 + 128 : Nat) : Int)], by go_num, by omega, by simp; omega, R.1, R.2, HX.out⟩
      case measure => simp [intOf]; omega

theorem refNumber_any (v : Int) (w : World) (hv : -9223372036854775808 ≤ v ∧ v ≤ 9223372036854775807) :
    Calls Tryd.prog 48 #[.int .i64 v] w fun e w' => ∃ a c zs, e = .returned (.tuple #[.slice a zs.length c, .int .i64 (if 0 ≤ v ∧ v ≤ 2147483647 then 0 else 3)]) ∧
      zs = (if 0 ≤ v ∧ v ≤ 2147483647 then numL v.toNat else []) ∧ w'.ownsRow w.heap.size 5 1 (.slice a zs.length c) zs.length (bv zs) ∧ Below w.heap.size w w' := by
  by_cases h : 0 ≤ v ∧ v ≤ 2147483647
  · rw [if_pos h, if_pos h]
    obtain ⟨n, rfl⟩ := Int.eq_ofNat_of_zero_le h.1
    rw [Int.toNat_natCast]
    refine (refNumber_good n w (by omega)).mono ?_
    rintro e w1 ⟨a, c, rfl, ho, hb⟩
    exact ⟨a, c, _, rfl, rfl, ho, hb⟩
  · rw [if_neg h, if_neg h]
    by_cases h0 : v < 0
    · go_enter Tryd.func48, Tryd.ntmps48
      go_wp2
      go_ret2
      exact ⟨none, 0, [], rfl, rfl, World.ownsRow_nil _ _ _ _, Below.refl _ _⟩
    · have h1 : (2147483647 : Int) < v := by omega
      go_enter Tryd.func48, Tryd.ntmps48
      go_wp2
      go_ret2
      exact ⟨none, 0, [], rfl, rfl, World.ownsRow_nil _ _ _ _, Below.refl _ _⟩
end Go.Proofs.YtkmiemjjedbnaaaDoor
