import Derived.Test.YtbblckcjedjbcaaGreatDoorRows
import Derived.WalkKit
import Derived.ProofKit
import Derived.BigQuiet
import Derived.Deep.QuietTactic
namespace Go.Proofs.YtbblckcjedjbcaaGreatDoor
open Go.RowKit

/-- A byte's weight in the order: the slash ahead of all. -/
def rk (c : UInt8) : Int := if c.toNat = 47 then -1 else (c.toNat : Int)

/-- -1, 0, 1 of two numbers. -/
def sg (x y : Int) : Int := if x < y then -1 else if y < x then 1 else 0

theorem rank_any (c : UInt8) (w : World) :
    Calls Tryz.prog 29 #[.int .u8 (c.toNat : Int)] w fun e w' => e = .returned (.int .i64 (rk c)) ∧ w' = w := by
  unfold rk
  by_cases h : c.toNat = 47
  · rw [if_pos h]
    go_enter Tryz.func29, Tryz.ntmps29
    go_wp2
    go_ret
    exact ⟨rfl, rfl⟩
  · rw [if_neg h]
    have h1 : ((c.toNat : Int) == 47) = false := by simp; omega
    have h2 : (c.toNat : Int) < 256 := by have := c.toNat_lt; omega
    go_enter Tryz.func29, Tryz.ntmps29
    go_wp2
    go_ret
    exact ⟨rfl, rfl⟩

theorem isNaN_any (x : Int) (w : World) :
    Calls Tryz.prog 57 #[.int .i64 x] w fun e w' => e = .returned (.bool false) ∧ w' = w := by
  go_enter Tryz.func57, Tryz.ntmps57
  go_wp2
  go_ret
  exact ⟨rfl, rfl⟩

theorem compare_any (x y : Int) (w : World) :
    Calls Tryz.prog 28 #[.int .i64 x, .int .i64 y] w fun e w' => e = .returned (.int .i64 (sg x y)) ∧ w' = w := by
  unfold sg
  by_cases h : x < y
  · rw [if_pos h]
    go_enter Tryz.func28, Tryz.ntmps28
    go_wp2
    go_ret
    exact ⟨rfl, rfl⟩
  · rw [if_neg h]
    by_cases h' : y < x
    · rw [if_pos h']
      go_enter Tryz.func28, Tryz.ntmps28
      go_wp2
      go_ret
      exact ⟨rfl, rfl⟩
    · rw [if_neg h']
      go_enter Tryz.func28, Tryz.ntmps28
      go_wp2
      go_ret
      exact ⟨rfl, rfl⟩

/-- The order from place i on. -/
def ordF (a b : ByteArray) : Nat → Nat → Int
  | 0, _ => 0
  | n + 1, i => if i < a.size ∧ i < b.size then
      (if (a.get! i).toNat = (b.get! i).toNat then ordF a b n (i + 1) else sg (rk (a.get! i)) (rk (b.get! i)))
    else sg (a.size : Int) (b.size : Int)

theorem ordF_go (a b : ByteArray) (n i : Nat) (h1 : i < a.size) (h2 : i < b.size) (e : (a.get! i).toNat = (b.get! i).toNat) : ordF a b (n + 1) i = ordF a b n (i + 1) := by
  show (if _ then _ else _) = _
  rw [if_pos ⟨h1, h2⟩, if_pos e]
theorem ordF_part (a b : ByteArray) (n i : Nat) (h1 : i < a.size) (h2 : i < b.size) (e : ¬ (a.get! i).toNat = (b.get! i).toNat) : ordF a b (n + 1) i = sg (rk (a.get! i)) (rk (b.get! i)) := by
  show (if _ then _ else _) = _
  rw [if_pos ⟨h1, h2⟩, if_neg e]
theorem ordF_end (a b : ByteArray) (n i : Nat) (h : ¬ (i < a.size ∧ i < b.size)) : ordF a b (n + 1) i = sg (a.size : Int) (b.size : Int) := by
  show (if _ then _ else _) = _
  rw [if_neg h]

theorem get!_at (a : ByteArray) (i : Nat) (h : i < a.size) : a.get! i = a[i] := by
  simp [ByteArray.get!, getElem!_pos, h]
  rfl

theorem same_byte (a b : ByteArray) (k : Nat) (h1 : k < a.size) (h2 : k < b.size) (h : ((a[k].toNat : Int) != (b[k].toNat : Int)) = false) : (a.get! k).toNat = (b.get! k).toNat := by
  rw [get!_at a k h1, get!_at b k h2]
  have h3 : (a[k].toNat : Int) = (b[k].toNat : Int) := by simpa using h
  omega
theorem other_byte (a b : ByteArray) (k : Nat) (h1 : k < a.size) (h2 : k < b.size) (h : ((a[k].toNat : Int) != (b[k].toNat : Int)) = true) : ¬ (a.get! k).toNat = (b.get! k).toNat := by
  rw [get!_at a k h1, get!_at b k h2]
  intro e
  simp [e] at h

theorem order_any (a b : ByteArray) (ha : a.size ≤ maxLen) (hb : b.size ≤ maxLen) (w : World) :
    Calls Tryz.prog 12 #[.string a, .string b] w fun e w' => e = .returned (.int .i64 (ordF a b (min a.size b.size + 1) 0)) ∧ ∃ m, w' = w.drewN m := by
  unfold maxLen at ha hb
  go_enter Tryz.func12, Tryz.ntmps12
  go_wp2
  all_goals (
    go_loopw [11] (fun i wr => ∃ k m : Nat, i = .int .i64 k ∧ wr = w.drewN m ∧ k ≤ min a.size b.size ∧ ordF a b (min a.size b.size + 1 - k) k = ordF a b (min a.size b.size + 1) 0)
      (fun i _ => min a.size b.size - (intOf i).toNat)
    case atStart => exact ⟨0, 0, rfl, rfl, by omega, by simp⟩
    case round =>
      obtain ⟨k, m, rfl, rfl, hk, hO⟩ := hrel
      have HO : Hid (ordF a b (min a.size b.size + 1 - k) k = ordF a b (min a.size b.size + 1) 0) := hO
      clear hO
      by_cases hlt : k < min a.size b.size
      · have g1 : (k : Int) < (a.size : Int) := by omega
        have g2 : (k : Int) < (b.size : Int) := by omega
        have g3 : k < a.size := by omega
        have g4 : k < b.size := by omega
        go_wp2
        go_quiet (fail)
        go_wp2
        · have hne : ((a[k].toNat : Int) != (b[k].toNat : Int)) = true := by assumption
          go_quiet (first | (go_at_call 29; refine (rank_any _ _).mono fun _ _ h => ⟨h.1, _, h.2⟩) | (go_at_call 28; refine (compare_any _ _ _).mono fun _ _ h => ⟨h.1, _, h.2⟩))
          go_wp2
          go_ret
          refine ⟨?_, _, by rw [World.drewN_drewN, World.drewN_drewN]⟩
          rw [← HO.out, show min a.size b.size + 1 - k = (min a.size b.size - k) + 1 by omega, ordF_part a b _ k g3 g4 (other_byte a b k g3 g4 hne), get!_at a k g3, get!_at b k g4]
          rfl
        · have heq : ((a[k].toNat : Int) != (b[k].toNat : Int)) = false := by assumption
          go_roundw
          case rel => exact ⟨k + 1, m + nq, by go_num, rfl, by omega, by rw [← HO.out, show min a.size b.size + 1 - k = (min a.size b.size - k) + 1 by omega, ordF_go a b _ k g3 g4 (same_byte a b k g3 g4 heq)]; congr 1; omega⟩
          case measure => simp [intOf]; omega
      · first | (have g5 : ¬ k < b.size := by omega) | (have g5 : ¬ k < a.size := by omega)
        go_wp2_with (first | (go_at_call 28; refine (compare_any _ _ _).mono ?_; rintro e w' ⟨rfl, rfl⟩) | go_in)
        go_ret
        refine ⟨?_, _, rfl⟩
        rw [← HO.out, show min a.size b.size + 1 - k = (min a.size b.size - k) + 1 by omega, ordF_end a b _ k (by omega)]
        rfl)


theorem sg_lt {x y : Int} (h : x < y) : sg x y = -1 := by rw [sg, if_pos h]
theorem sg_gt {x y : Int} (h : y < x) : sg x y = 1 := by rw [sg, if_neg (by omega), if_pos h]
theorem sg_eq {x y : Int} (h : x = y) : sg x y = 0 := by rw [sg, if_neg (by omega), if_neg (by omega)]

theorem rk_inj {x y : UInt8} (h : rk x = rk y) : x.toNat = y.toNat := by
  unfold rk at h
  split at h <;> split at h <;> omega

end Go.Proofs.YtbblckcjedjbcaaGreatDoor
namespace Go.Proofs.YtbblckcjedjbcaaGreatDoor

/-- The order of two lists of bytes. -/
def ordL : List UInt8 → List UInt8 → Int
  | [], [] => 0
  | [], _ :: _ => -1
  | _ :: _, [] => 1
  | x :: xs, y :: ys => if x.toNat = y.toNat then ordL xs ys else sg (rk x) (rk y)

theorem drop_at (a : ByteArray) (i : Nat) (h : i < a.size) : a.data.toList.drop i = a.get! i :: a.data.toList.drop (i + 1) := by
  rw [get!_at a i h]
  have h' : i < a.data.toList.length := by simpa using h
  rw [List.drop_eq_getElem_cons h']
  rfl

theorem ordF_list (a b : ByteArray) : ∀ (n i : Nat), i ≤ a.size → i ≤ b.size → min a.size b.size < n + i → ordF a b n i = ordL (a.data.toList.drop i) (b.data.toList.drop i)
  | 0, i, h1, h2, h => by omega
  | n + 1, i, h1, h2, h => by
    by_cases g : i < a.size ∧ i < b.size
    · rw [drop_at a i g.1, drop_at b i g.2]
      by_cases e : (a.get! i).toNat = (b.get! i).toNat
      · rw [ordF_go a b n i g.1 g.2 e, ordL, if_pos e]
        exact ordF_list a b n (i + 1) (by omega) (by omega) (by omega)
      · rw [ordF_part a b n i g.1 g.2 e, ordL, if_neg e]
    · rw [ordF_end a b n i g]
      by_cases ga : i < a.size
      · have hb : i = b.size := by omega
        have e2 : b.data.toList.drop i = [] := List.drop_eq_nil_of_le (by subst hb; exact Nat.le_refl _)
        rw [e2, drop_at a i ga]
        exact sg_gt (by omega)
      · have ha : i = a.size := by omega
        have e1 : a.data.toList.drop i = [] := List.drop_eq_nil_of_le (by subst ha; exact Nat.le_refl _)
        rw [e1]
        by_cases gb : i < b.size
        · rw [drop_at b i gb]
          exact sg_lt (by omega)
        · have hb : i = b.size := by omega
          have e2 : b.data.toList.drop i = [] := List.drop_eq_nil_of_le (by subst hb; exact Nat.le_refl _)
          rw [e2]
          exact sg_eq (by omega)

/-- The order of two texts. -/
def O (a b : ByteArray) : Int := ordF a b (min a.size b.size + 1) 0
theorem O_list (a b : ByteArray) : O a b = ordL a.data.toList b.data.toList := by
  have h := ordF_list a b (min a.size b.size + 1) 0 (Nat.zero_le _) (Nat.zero_le _) (by omega)
  unfold O
  simpa using h

theorem rk_ne {x y : UInt8} (h : ¬ x.toNat = y.toNat) : ¬ rk x = rk y := fun e => h (rk_inj e)

theorem sg_anti (x y : Int) : sg y x = - sg x y := by
  rcases Int.lt_trichotomy x y with h | h | h
  · rw [sg_lt h, sg_gt h]; rfl
  · rw [sg_eq h, sg_eq h.symm]; rfl
  · rw [sg_gt h, sg_lt h]

theorem sg_range (x y : Int) : sg x y = -1 ∨ sg x y = 0 ∨ sg x y = 1 := by
  rcases Int.lt_trichotomy x y with h | h | h
  · exact .inl (sg_lt h)
  · exact .inr (.inl (sg_eq h))
  · exact .inr (.inr (sg_gt h))

theorem ordL_anti : ∀ (s t : List UInt8), ordL t s = - ordL s t
  | [], [] => rfl
  | [], _ :: _ => rfl
  | _ :: _, [] => rfl
  | x :: xs, y :: ys => by
    rw [ordL, ordL]
    by_cases e : x.toNat = y.toNat
    · rw [if_pos e, if_pos e.symm]; exact ordL_anti xs ys
    · rw [if_neg e, if_neg (fun h => e h.symm)]; exact sg_anti _ _

theorem ordL_range : ∀ (s t : List UInt8), ordL s t = -1 ∨ ordL s t = 0 ∨ ordL s t = 1
  | [], [] => .inr (.inl rfl)
  | [], _ :: _ => .inl rfl
  | _ :: _, [] => .inr (.inr rfl)
  | x :: xs, y :: ys => by
    rw [ordL]
    by_cases e : x.toNat = y.toNat
    · rw [if_pos e]; exact ordL_range xs ys
    · rw [if_neg e]; exact sg_range _ _

theorem sg_zero {x y : Int} (h : sg x y = 0) : x = y := by
  rcases Int.lt_trichotomy x y with g | g | g
  · rw [sg_lt g] at h; cases h
  · exact g
  · rw [sg_gt g] at h; cases h

theorem sg_minus {x y : Int} (h : sg x y = -1) : x < y := by
  rcases Int.lt_trichotomy x y with g | g | g
  · exact g
  · rw [sg_eq g] at h; cases h
  · rw [sg_gt g] at h; cases h

theorem ordL_self : ∀ (s : List UInt8), ordL s s = 0
  | [] => rfl
  | x :: xs => by rw [ordL, if_pos rfl]; exact ordL_self xs

theorem ordL_zero : ∀ (s t : List UInt8), ordL s t = 0 → s = t
  | [], [], _ => rfl
  | [], _ :: _, h => by cases h
  | _ :: _, [], h => by cases h
  | x :: xs, y :: ys, h => by
    rw [ordL] at h
    by_cases e : x.toNat = y.toNat
    · rw [if_pos e] at h
      rw [ordL_zero xs ys h, UInt8.toNat_inj.mp e]
    · rw [if_neg e] at h
      exact absurd (sg_zero h) (rk_ne e)

theorem ordL_trans : ∀ (s t u : List UInt8), ordL s t = -1 → ordL t u = -1 → ordL s u = -1
  | [], [], _, h, _ => by cases h
  | [], _ :: _, [], _, h => by cases h
  | [], _ :: _, _ :: _, _, _ => rfl
  | _ :: _, [], _, h, _ => by cases h
  | _ :: _, _ :: _, [], _, h => by cases h
  | x :: xs, y :: ys, z :: zs, h, g => by
    rw [ordL] at h g ⊢
    by_cases e : x.toNat = y.toNat
    · rw [if_pos e] at h
      by_cases f : y.toNat = z.toNat
      · rw [if_pos f] at g
        rw [if_pos (e.trans f)]
        exact ordL_trans xs ys zs h g
      · rw [if_neg f] at g
        rw [if_neg (by omega), UInt8.toNat_inj.mp e]
        exact g
    · rw [if_neg e] at h
      by_cases f : y.toNat = z.toNat
      · rw [if_neg (by omega), ← UInt8.toNat_inj.mp f]
        exact h
      · rw [if_neg f] at g
        have h1 := sg_minus h
        have h2 := sg_minus g
        have h3 : ¬ x.toNat = z.toNat := fun e3 => by rw [UInt8.toNat_inj.mp e3] at h1; omega
        rw [if_neg h3]
        exact sg_lt (by omega)

theorem O_anti (a b : ByteArray) : O b a = - O a b := by rw [O_list, O_list]; exact ordL_anti _ _
theorem O_range (a b : ByteArray) : O a b = -1 ∨ O a b = 0 ∨ O a b = 1 := by rw [O_list]; exact ordL_range _ _
theorem O_self (a : ByteArray) : O a a = 0 := by rw [O_list]; exact ordL_self _
theorem O_zero {a b : ByteArray} (h : O a b = 0) : a = b := by
  rw [O_list] at h
  have := ordL_zero _ _ h
  cases a; cases b
  simp only at this
  rw [Array.toList_inj.mp this]
theorem O_trans {a b c : ByteArray} (h : O a b = -1) (g : O b c = -1) : O a c = -1 := by
  rw [O_list] at h g ⊢
  exact ordL_trans _ _ _ h g

theorem order_O (a b : ByteArray) (ha : a.size ≤ maxLen) (hb : b.size ≤ maxLen) (w : World) :
    Calls Tryz.prog 12 #[.string a, .string b] w fun e w' => e = .returned (.int .i64 (O a b)) ∧ ∃ m, w' = w.drewN m := order_any a b ha hb w

/-- What the three orders of three texts may be. -/
theorem O_three (a b c : ByteArray) :
    (O a b = 0 ∧ a = b ∧ O b c = O a c) ∨ (O a b = -1 ∧ a ≠ b ∧ (O b c = 0 ∨ O b c = -1) ∧ O a c = -1) ∨ (O a b = 1 ∧ a ≠ b ∧ (O b c = 0 ∨ O b c = 1) ∧ O a c = 1) ∨
    (O a b = -1 ∧ a ≠ b ∧ O b c = 1) ∨ (O a b = 1 ∧ a ≠ b ∧ O b c = -1) := by
  rcases O_range a b with h | h | h
  · have hne : a ≠ b := fun e => by rw [e, O_self] at h; cases h
    rcases O_range b c with g | g | g
    · exact .inr (.inl ⟨h, hne, .inr g, O_trans h g⟩)
    · exact .inr (.inl ⟨h, hne, .inl g, by rw [← O_zero g]; exact h⟩)
    · exact .inr (.inr (.inr (.inl ⟨h, hne, g⟩)))
  · have e := O_zero h
    exact .inl ⟨h, e, by rw [e]⟩
  · have hne : a ≠ b := fun e => by rw [e, O_self] at h; cases h
    rcases O_range b c with g | g | g
    · exact .inr (.inr (.inr (.inr ⟨h, hne, g⟩)))
    · exact .inr (.inr (.inl ⟨h, hne, .inl g, by rw [← O_zero g]; exact h⟩))
    · have h1 : O b a = -1 := by rw [O_anti a b, h]
      have h2 : O c b = -1 := by rw [O_anti b c, g]
      have h3 : O c a = -1 := O_trans h2 h1
      exact .inr (.inr (.inl ⟨h, hne, .inr g, by rw [O_anti c a, h3]; rfl⟩))
end Go.Proofs.YtbblckcjedjbcaaGreatDoor
