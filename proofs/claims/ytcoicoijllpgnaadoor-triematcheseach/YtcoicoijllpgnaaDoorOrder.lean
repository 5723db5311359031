/-
  Order by a contract.
-/
import Derived.Test.YtcoicoijllpgnaaDoorRows
import Derived.WalkKit
import Derived.ProofKit
import Derived.BigQuiet
import Derived.Deep.QuietTactic
namespace Go.Proofs.YtcoicoijllpgnaaDoor
open Go.RowKit

/-- A byte's weight in the order: the slash ahead of all. -/
def rk (c : UInt8) : Int := if c.toNat = 47 then -1 else (c.toNat : Int)

/-- -1, 0, 1 of two numbers. -/
def sg (x y : Int) : Int := if x < y then -1 else if y < x then 1 else 0

theorem isNaN_any (x : Int) (w : World) :
    Calls Tryd.prog 55 #[.int .i64 x] w fun e w' => e = .returned (.bool false) ∧ w' = w := by
  go_enter Tryd.func55, Tryd.ntmps55
  go_wp2
  go_ret
  exact ⟨rfl, rfl⟩

theorem compare_any (x y : Int) (w : World) :
    Calls Tryd.prog 34 #[.int .i64 x, .int .i64 y] w fun e w' => e = .returned (.int .i64 (sg x y)) ∧ w' = w := by
  unfold sg
  by_cases h : x < y
  · rw [if_pos h]
    go_enter Tryd.func34, Tryd.ntmps34
    go_wp2
    go_ret
    exact ⟨rfl, rfl⟩
  · rw [if_neg h]
    by_cases h' : y < x
    · rw [if_pos h']
      go_enter Tryd.func34, Tryd.ntmps34
      go_wp2
      go_ret
      exact ⟨rfl, rfl⟩
    · rw [if_neg h']
      go_enter Tryd.func34, Tryd.ntmps34
      go_wp2
      go_ret
      exact ⟨rfl, rfl⟩

/-- The order from place i on. -/
def ordF (a b : ByteArray) : Nat → Nat → Int
  | 0, _ => 0
  | n + 1, i => if i < a.size ∧ i < b.size then
      (if (a.get! i).toNat = (b.get! i).toNat then ordF a b n (i + 1) else sg (rk (a.get! i)) (rk (b.get! i)))
    else sg (a.size : Int) (b.size : Int)

theorem ordF_go (a b : ByteArray) (n i : Nat) (h1 : i < a.size) (h2 : i < b.size) (e : (a.get! i).toNat = (b.get! i).toNat) : ordF a b (n + 1) i = ordF a b n (i + 1) := by
  show (if _ then _ else _) = _
  rw [if_pos ⟨h1, h2⟩, if_pos e]
theorem ordF_part (a b : ByteArray) (n i : Nat) (h1 : i < a.size) (h2 : i < b.size) (e : ¬ (a.get! i).toNat = (b.get! i).toNat) : ordF a b (n + 1) i = sg (rk (a.get! i)) (rk (b.get! i)) := by
  show (if _ then _ else _) = _
  rw [if_pos ⟨h1, h2⟩, if_neg e]
theorem ordF_end (a b : ByteArray) (n i : Nat) (h : ¬ (i < a.size ∧ i < b.size)) : ordF a b (n + 1) i = sg (a.size : Int) (b.size : Int) := by
  show (if _ then _ else _) = _
  rw [if_neg h]

theorem get!_at (a : ByteArray) (i : Nat) (h : i < a.size) : a.get! i = a[i] := by
  simp [ByteArray.get!, getElem!_pos, h]
  rfl

theorem same_byte (a b : ByteArray) (k : Nat) (h1 : k < a.size) (h2 : k < b.size) (h : ((a[k].toNat : Int) != (b[k].toNat : Int)) = false) : (a.get! k).toNat = (b.get! k).toNat := by
  rw [get!_at a k h1, get!_at b k h2]
  have h3 : (a[k].toNat : Int) = (b[k].toNat : Int) := by simpa using h
  omega
theorem other_byte (a b : ByteArray) (k : Nat) (h1 : k < a.size) (h2 : k < b.size) (h : ((a[k].toNat : Int) != (b[k].toNat : Int)) = true) : ¬ (a.get! k).toNat = (b.get! k).toNat := by
  rw [get!_at a k h1, get!_at b k h2]
  intro e
  simp [e] at h

theorem sg_lt {x y : Int} (h : x < y) : sg x y = -1 := by rw [sg, if_pos h]
theorem sg_gt {x y : Int} (h : y < x) : sg x y = 1 := by rw [sg, if_neg (by omega), if_pos h]
theorem sg_eq {x y : Int} (h : x = y) : sg x y = 0 := by rw [sg, if_neg (by omega), if_neg (by omega)]

theorem rk_inj {x y : UInt8} (h : rk x = rk y) : x.toNat = y.toNat := by
  unfold rk at h
  split at h <;> split at h <;> omega

end Go.Proofs.YtcoicoijllpgnaaDoor
