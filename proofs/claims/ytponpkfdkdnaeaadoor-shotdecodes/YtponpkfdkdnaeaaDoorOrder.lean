/-
  Order by a contract.
-/
import Derived.Test.YtponpkfdkdnaeaaDoorRows
import Derived.WalkKit
import Derived.ProofKit
import Derived.BigQuiet
import Derived.Deep.QuietTactic
namespace Go.Proofs.YtponpkfdkdnaeaaDoor
open Go.RowKit

/-- A byte's weight in the order: the slash ahead of all. -/
def rk (c : UInt8) : Int := if c.toNat = 47 then -1 else (c.toNat : Int)

/-- -1, 0, 1 of two numbers. -/
def sg (x y : Int) : Int := if x < y then -1 else if y < x then 1 else 0

theorem rank_any (c : UInt8) (w : World) :
    Calls Tryd.prog 45 #[.int .u8 (c.toNat : Int)] w fun e w' => e = .returned (.int .i64 (rk c)) ∧ w' = w := by
  unfold rk
  by_cases h : c.toNat = 47
  · rw [if_pos h]
    go_enter Tryd.func45, Tryd.ntmps45
    go_wp2
    go_ret
    exact ⟨rfl, rfl⟩
  · rw [if_neg h]
    have h1 : ((c.toNat : Int) == 47) = false := by simp; omega
    have h2 : (c.toNat : Int) < 256 := by have := c.toNat_lt; omega
    go_enter Tryd.func45, Tryd.ntmps45
    go_wp2
    go_ret
    exact ⟨rfl, rfl⟩

theorem isNaN_any (x : Int) (w : World) :
    Calls Tryd.prog 53 #[.int .i64 x] w fun e w' => e = .returned (.bool false) ∧ w' = w := by
  go_enter Tryd.func53, Tryd.ntmps53
  go_wp2
  go_ret
  exact ⟨rfl, rfl⟩

theorem compare_any (x y : Int) (w : World) :
    Calls Tryd.prog 44 #[.int .i64 x, .int .i64 y] w fun e w' => e = .returned (.int .i64 (sg x y)) ∧ w' = w := by
  unfold sg
  by_cases h : x < y
  · rw [if_pos h]
    go_enter Tryd.func44, Tryd.ntmps44
    go_wp2
    go_ret
    exact ⟨rfl, rfl⟩
  · rw [if_neg h]
    by_cases h' : y < x
    · rw [if_pos h']
      go_enter Tryd.func44, Tryd.ntmps44
      go_wp2
      go_ret
      exact ⟨rfl, rfl⟩
    · rw [if_neg h']
      go_enter Tryd.func44, Tryd.ntmps44
      go_wp2
      go_ret
      exact ⟨rfl, rfl⟩

/-- The order from place i on. -/
def ordF (a b : ByteArray) : Nat → Nat → Int
  | 0, _ => 0
  | n + 1, i => if i < a.size ∧ i < b.size then
      (if (a.get! i).toNat = (b.get! i).toNat then ordF a b n (i + 1) else sg (rk (a.get! i)) (rk (b.get! i)))
    else sg (a.size : Int) (b.size : Int)

theorem ordF_go (a b : ByteArray) (n i : Nat) (h1 : i < a.size) (h2 : i < b.size) (e : (a.get! i).toNat = (b.get! i).toNat) : ordF a b (n + 1) i = ordF a b n (i + 1) := by
  show (if _ then _ else _) = _
  rw [if_pos ⟨h1, h2⟩, if_pos e]
theorem ordF_part (a b : ByteArray) (n i : Nat) (h1 : i < a.size) (h2 : i < b.size) (e : ¬ (a.get! i).toNat = (b.get! i).toNat) : ordF a b (n + 1) i = sg (rk (a.get! i)) (rk (b.get! i)) := by
  show (if _ then _ else _) = _
  rw [if_pos ⟨h1, h2⟩, if_neg e]
theorem ordF_end (a b : ByteArray) (n i : Nat) (h : ¬ (i < a.size ∧ i < b.size)) : ordF a b (n + 1) i = sg (a.size : Int) (b.size : Int) := by
  show (if _ then _ else _) = _
  rw [if_neg h]

theorem get!_at (a : ByteArray) (i : Nat) (h : i < a.size) : a.get! i = a[i] := by
  simp [ByteArray.get!, getElem!_pos, h]
  rfl

theorem same_byte (a b : ByteArray) (k : Nat) (h1 : k < a.size) (h2 : k < b.size) (h : ((a[k].toNat : Int) != (b[k].toNat : Int)) = false) : (a.get! k).toNat = (b.get! k).toNat := by
  rw [get!_at a k h1, get!_at b k h2]
  have h3 : (a[k].toNat : Int) = (b[k].toNat : Int) := by simpa using h
  omega
theorem other_byte (a b : ByteArray) (k : Nat) (h1 : k < a.size) (h2 : k < b.size) (h : ((a[k].toNat : Int) != (b[k].toNat : Int)) = true) : ¬ (a.get! k).toNat = (b.get! k).toNat := by
  rw [get!_at a k h1, get!_at b k h2]
  intro e
  simp [e] at h

theorem order_any (a b : ByteArray) (ha : a.size ≤ maxLen) (hb : b.size ≤ maxLen) (w : World) :
    Calls Tryd.prog 34 #[.string a, .string b] w fun e w' => e = .returned (.int .i64 (ordF a b (min a.size b.size + 1) 0)) ∧ ∃ m, w' = w.drewN m := by
  unfold maxLen at ha hb
  go_enter Tryd.func34, Tryd.ntmps34
  go_wp2
  all_goals (
    go_loopw [11] (fun i wr => ∃ k m : Nat, i = .int .i64 k ∧ wr = w.drewN m ∧ k ≤ min a.size b.size ∧ ordF a b (min a.size b.size + 1 - k) k = ordF a b (min a.size b.size + 1) 0)
      (fun i _ => min a.size b.size - (intOf i).toNat)
    case atStart => exact ⟨0, 0, rfl, rfl, by omega, by simp⟩
    case round =>
      obtain ⟨k, m, rfl, rfl, hk, hO⟩ := hrel
      have HO : Hid (ordF a b (min a.size b.size + 1 - k) k = ordF a b (min a.size b.size + 1) 0) := hO
      clear hO
      by_cases hlt : k < min a.size b.size
      · have g1 : (k : Int) < (a.size : Int) := by omega
        have g2 : (k : Int) < (b.size : Int) := by omega
        have g3 : k < a.size := by omega
        have g4 : k < b.size := by omega
        go_wp2
        go_quiet (fail)
        go_wp2
        · have hne : ((a[k].toNat : Int) != (b[k].toNat : Int)) = true := by assumption
          go_quiet (first | (go_at_call 45; refine (rank_any _ _).mono fun _ _ h => ⟨h.1, _, h.2⟩) | (go_at_call 44; refine (compare_any _ _ _).mono fun _ _ h => ⟨h.1, _, h.2⟩))
          go_wp2
          go_ret
          refine ⟨?_, _, by rw [World.drewN_drewN, World.drewN_drewN]⟩
          rw [← HO.out, show min a.size b.size + 1 - k = (min a.size b.size - k) + 1 by omega, ordF_part a b _ k g3 g4 (other_byte a b k g3 g4 hne), get!_at a k g3, get!_at b k g4]
          rfl
        · have heq : ((a[k].toNat : Int) != (b[k].toNat : Int)) = false := by assumption
          go_roundw
          case rel => exact ⟨k + 1, m + nq, by go_num, rfl, by omega, by rw [← HO.out, show min a.size b.size + 1 - k = (min a.size b.size - k) + 1 by omega, ordF_go a b _ k g3 g4 (same_byte a b k g3 g4 heq)]; congr 1; omega⟩
          case measure => simp [intOf]; omega
      · first | (have g5 : ¬ k < b.size := by omega) | (have g5 : ¬ k < a.size := by omega)
        go_wp2_with (first | (go_at_call 44; refine (compare_any _ _ _).mono ?_; rintro e w' ⟨rfl, rfl⟩) | go_in)
        go_ret
        refine ⟨?_, _, rfl⟩
        rw [← HO.out, show min a.size b.size + 1 - k = (min a.size b.size - k) + 1 by omega, ordF_end a b _ k (by omega)]
        rfl)


theorem sg_lt {x y : Int} (h : x < y) : sg x y = -1 := by rw [sg, if_pos h]
theorem sg_gt {x y : Int} (h : y < x) : sg x y = 1 := by rw [sg, if_neg (by omega), if_pos h]
theorem sg_eq {x y : Int} (h : x = y) : sg x y = 0 := by rw [sg, if_neg (by omega), if_neg (by omega)]

theorem rk_inj {x y : UInt8} (h : rk x = rk y) : x.toNat = y.toNat := by
  unfold rk at h
  split at h <;> split at h <;> omega

end Go.Proofs.YtponpkfdkdnaeaaDoor
