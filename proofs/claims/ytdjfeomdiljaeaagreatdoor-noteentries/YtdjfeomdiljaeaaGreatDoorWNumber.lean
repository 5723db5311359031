/-
  Number, in the program and in the document's answer.
-/
import Derived.Test.YtdjfeomdiljaeaaGreatDoorWMem
import Derived.Laws.BitsAllLaws
import Derived.Laws.BitsLemmas
namespace Go.Proofs.YtdjfeomdiljaeaaGreatDoor
open Go.RowKit

theorem Tryz.info5 : (Tryz.prog.info? 5).map (fun i => (i.zero, i.size, i.bytes)) = some (some (.int .u8 0), 1, 1) := by kernel_rfl

theorem cell_one_new (w : World) (v : Value) (e : TypeId) : ∀ j u, [v][j]? = some u → (w.alloc (.cells #[v] e)).cell? ((⟨w.heap.size, 0, none⟩ : Addr).add j) = some u := by
  intro j u h
  cases j with
  | zero =>
    have : v = u := by simpa using h
    subst this
    rw [addr_add, cell_of_row (w.alloc (.cells #[v] e)) w.heap.size 0 #[v] e (0, 0) (heap_alloc_new w _)]
    rfl
  | succ j => simp at h

theorem or128 (v : Nat) : bits .or .u8 ((v : Int) % 256) 128 = ((v % 128 + 128 : Nat) : Int) := by
  have h := u8_or ((v : Int) % 256) 128 (by omega) (by omega) (by omega) (by omega)
  rw [h]
  have e : ((v : Int) % 256).toNat = v % 256 := by omega
  rw [e]
  have : ∀ x : Fin 256, x.val ||| 128 = x.val % 128 + 128 := by decide +kernel
  have := this ⟨v % 256, by omega⟩
  simp only at this
  rw [show (128 : Int).toNat = 128 by rfl, this]
  omega

/-- One byte more. -/
theorem rel_appI {base n : Nat} {w wr w1 : World} {u v' : Value} {o : Obj} {done : List Int} {x : Int} (hown : wr.ownsRow base 5 1 u n (bv done)) (hbel : Below base w wr) (hB : base ≤ w.heap.size)
    (hown' : w1.ownsRow base 5 1 v' (n + 1) (bv done ++ [.int .u8 x])) (hgrow : (wr.alloc o).grownBy w1 u.ownBlock) :
    w1.ownsRow base 5 1 v' (done ++ [x]).length (bv (done ++ [x])) ∧ Below base w w1 := by
  have hn : n = done.length := by have := hown.1; rw [bv_len] at this; omega
  subst hn
  exact ⟨by simpa [bv] using hown', (hbel.alloc (by have := hbel.size; omega) o).grown hgrow (by have := hbel.size; simp; omega) (fun j hj => (hown.lt j hj).1)⟩

set_option maxHeartbeats 1600000 in
set_option maxRecDepth 100000 in
theorem appNum_any (base : Nat) (rv : Value) (xs : List Int) (v : Nat) (w : World) (hown : w.ownsRow base 5 1 rv xs.length (bv xs)) (hv : v < 2147483648) (hn : xs.length ≤ 1000000) (hB : base ≤ w.heap.size) :
    Calls Tryz.prog 165 #[rv, .int .i64 v] w fun e w' => ∃ v', e = .returned v' ∧ w'.ownsRow base 5 1 v' (xs ++ numL v).length (bv (xs ++ numL v)) ∧ Below base w w' := by
  obtain ⟨i0, hi, hz0, hz1, hz2⟩ := info_parts Tryz.info5
  obtain ⟨T, hT⟩ : ∃ T, xs ++ numL v = T := ⟨_, rfl⟩
  rw [hT]
  have HT : Hid _ := hT
  clear hT
  go_enter Tryz.func165, Tryz.ntmps165
  go_wp2
  go_loopw [0, 1] (fun u x wr => ∃ (y : Nat) (done : List Int), x = .int .i64 y ∧ y ≤ v ∧ done.length ≤ xs.length + (v - y) ∧ wr.ownsRow base 5 1 u done.length (bv done) ∧ Below base w wr ∧ Hid (done ++ numL y = T))
    (fun _ x _ => (intOf x).toNat)
  case atStart => exact ⟨v, xs, rfl, by omega, by omega, hown, Below.refl _ _, HT.out⟩
  case round =>
    obtain ⟨y, done, rfl, hy, hdl, hown, hbel, HG⟩ := hrel
    by_cases hlt : y < 128
    · have HX : Hid (done ++ [(y : Int)] = T) := by have := HG.out; rw [numL_small hlt] at this; exact this
      clear HG HT
      have hy256 : (y : Int) % 256 = y := by omega
      go_wp2_with (first
        | (at_builtin; refine wpList_append_own _ rfl _ _ 25 rfl base 5 i0 (.int .u8 0) 1 1 Tryz.underlying25 hi hz0 hz1 hz2 rfl (by decide) _ _ _ rfl (hown.alloc _) ⟨wr.heap.size, 0, none⟩ 1 1 [.int .u8 y] rfl rfl (cell_one_new _ _ _) (fun x hx => by simp at hx; subst hx; rfl) (by unfold maxLen; omega) (by omega) (by have := hbel.size; simp; omega) ?_; intro v' w1 hown' hgrow _)
        | go_in)
      have R := rel_appI hown hbel hB hown' hgrow
      rw [HX.out] at R
      go_ret
      exact ⟨v', rfl, R.1, R.2⟩
    · have HX : Hid ((done ++ [((y % 128 + 128 : Nat) : Int)]) ++ numL (y / 128) = T) := by have := HG.out; rw [numL_big hlt] at this; rw [List.append_assoc]; exact this
      clear HG HT
      have hor := or128 y
      obtain ⟨z, hz⟩ : ∃ z : Int, ((y % 128 + 128 : Nat) : Int) = z := ⟨_, rfl⟩
      rw [hz] at hor HX
      clear hz
      go_wp2_with (first
        | (at_builtin; refine wpList_append_own _ rfl _ _ 25 rfl base 5 i0 (.int .u8 0) 1 1 Tryz.underlying25 hi hz0 hz1 hz2 rfl (by decide) _ _ _ rfl (hown.alloc _) ⟨wr.heap.size, 0, none⟩ 1 1 [.int .u8 z] rfl rfl (cell_one_new _ _ _) (fun x hx => by simp at hx; subst hx; rfl) (by unfold maxLen; omega) (by omega) (by have := hbel.size; simp; omega) ?_; intro v' w1 hown' hgrow _)
        | go_in)
      have R := rel_appI hown hbel hB hown' hgrow
      go_roundw
      case rel => exact ⟨y / 128, done ++ [z], by go_num, by omega, by simp; omega, R.1, R.2, HX.out⟩
      case measure => simp [intOf]; omega

/-- What Number answers. -/
theorem number_any (v : Int) (w : World) (hv : -9223372036854775808 ≤ v ∧ v ≤ 9223372036854775807) :
    Calls Tryz.prog 96 #[.int .i64 v] w fun e w' => ∃ a c zs, e = .returned (.tuple #[.slice a zs.length c, .int .i64 (if 0 ≤ v ∧ v ≤ 2147483647 then 0 else 3)]) ∧
      zs = (if 0 ≤ v ∧ v ≤ 2147483647 then numL v.toNat else []) ∧ w'.ownsRow w.heap.size 5 1 (.slice a zs.length c) zs.length (bv zs) ∧ Below w.heap.size w w' := by
  by_cases h : 0 ≤ v ∧ v ≤ 2147483647
  · rw [if_pos h, if_pos h]
    obtain ⟨n, rfl⟩ := Int.eq_ofNat_of_zero_le h.1
    rw [Int.toNat_natCast]
    have h0 : ¬ (n : Int) < 0 := by omega
    have h1 : ¬ (2147483647 : Int) < (n : Int) := by omega
    go_enter Tryz.func96, Tryz.ntmps96
    go_wp2_with (first | (go_at_call 165; refine (appNum_any w.heap.size (.slice none 0 0) [] n w (World.ownsRow_nil _ _ _ _) (by omega) (by simp) (Nat.le_refl _)).mono ?_; rintro e w1 ⟨v1, rfl, ho, hb⟩) | go_in)
    rw [List.nil_append] at ho
    obtain ⟨a, c, rfl, _⟩ := bys_of_owns ho
    go_ret2
    exact ⟨a, c, numL n, rfl, rfl, ho, hb⟩
  · rw [if_neg h, if_neg h]
    by_cases h0 : v < 0
    · go_enter Tryz.func96, Tryz.ntmps96
      go_wp2
      go_ret2
      exact ⟨none, 0, [], rfl, rfl, World.ownsRow_nil _ _ _ _, Below.refl _ _⟩
    · have h1 : (2147483647 : Int) < v := by omega
      go_enter Tryz.func96, Tryz.ntmps96
      go_wp2
      go_ret2
      exact ⟨none, 0, [], rfl, rfl, World.ownsRow_nil _ _ _ _, Below.refl _ _⟩
end Go.Proofs.YtdjfeomdiljaeaaGreatDoor
