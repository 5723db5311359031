/-
  heraldref1's Order.
-/
import Derived.Test.YtponpkfdkdnaeaaDoorLine
namespace Go.Proofs.YtponpkfdkdnaeaaDoor
open Go.RowKit
set_option maxHeartbeats 3200000
theorem weight_any (c : UInt8) (w : World) :
    Calls Tryd.prog 38 #[.int .u8 (c.toNat : Int)] w fun e w' => e = .returned (.int .i64 (rk c)) ∧ w' = w := by
  unfold rk
  by_cases h : c.toNat = 47
  · rw [if_pos h]
    go_enter Tryd.func38, Tryd.ntmps38
    go_wp2
    go_ret
    exact ⟨rfl, rfl⟩
  · rw [if_neg h]
    have h1 : ((c.toNat : Int) == 47) = false := by simp; omega
    have h2 : (c.toNat : Int) < 256 := by have := c.toNat_lt; omega
    go_enter Tryd.func38, Tryd.ntmps38
    go_wp2
    go_ret
    exact ⟨rfl, rfl⟩
theorem ref_any (a b : ByteArray) (ha : a.size ≤ maxLen) (hb : b.size ≤ maxLen) (w : World) :
    Calls Tryd.prog 27 #[.string a, .string b] w fun e w' => e = .returned (.int .i64 (ordF a b (min a.size b.size + 1) 0)) ∧ w' = w := by
  unfold maxLen at ha hb
  go_enter Tryd.func27, Tryd.ntmps27
  go_wp2
  go_loop [5] (fun i => ∃ k : Nat, i = .int .i64 k ∧ k ≤ min a.size b.size ∧ ordF a b (min a.size b.size + 1 - k) k = ordF a b (min a.size b.size + 1) 0)
      (fun i => min a.size b.size - (intOf i).toNat)
  case atStart => exact ⟨0, rfl, by omega, by simp⟩
  case round =>
      obtain ⟨k, rfl, hk, hO⟩ := hrel
      have HO : Hid (ordF a b (min a.size b.size + 1 - k) k = ordF a b (min a.size b.size + 1) 0) := hO
      clear hO
      by_cases g3 : k < a.size
      · by_cases g4 : k < b.size
        · rcases Int.lt_trichotomy (rk a[k]) (rk b[k]) with hc | hc | hc
          · go_wp2_with (first | (go_at_call 38; refine (weight_any _ _).mono ?_; rintro e w' ⟨rfl, rfl⟩) | go_in)
            go_ret
            refine ⟨?_, rfl⟩
            rw [← HO.out, show min a.size b.size + 1 - k = (min a.size b.size - k) + 1 by omega, ordF_part a b _ k g3 g4 (by rw [get!_at a k g3, get!_at b k g4]; intro h; unfold rk at hc; rw [h] at hc; omega), get!_at a k g3, get!_at b k g4, sg, if_pos hc]
            rfl
          · go_wp2_with (first | (go_at_call 38; refine (weight_any _ _).mono ?_; rintro e w' ⟨rfl, rfl⟩) | go_in)
            go_round
            case rel => exact ⟨k + 1, by go_num, by omega, by rw [← HO.out, show min a.size b.size + 1 - k = (min a.size b.size - k) + 1 by omega, ordF_go a b _ k g3 g4 (by rw [get!_at a k g3, get!_at b k g4]; exact rk_inj hc)]; congr 1; omega⟩
            case measure => simp [intOf]; omega
          · go_wp2_with (first | (go_at_call 38; refine (weight_any _ _).mono ?_; rintro e w' ⟨rfl, rfl⟩) | go_in)
            go_ret
            refine ⟨?_, rfl⟩
            rw [← HO.out, show min a.size b.size + 1 - k = (min a.size b.size - k) + 1 by omega, ordF_part a b _ k g3 g4 (by rw [get!_at a k g3, get!_at b k g4]; intro h; unfold rk at hc; rw [h] at hc; omega), get!_at a k g3, get!_at b k g4, sg, if_neg (by omega), if_pos hc]
            rfl
        · go_wp2
          all_goals (
            go_ret
            refine ⟨?_, rfl⟩
            rw [← HO.out, show min a.size b.size + 1 - k = (min a.size b.size - k) + 1 by omega, ordF_end a b _ k (by omega)]
            first
              | rw [sg_lt (by omega)]; rfl
              | rw [sg_gt (by omega)]; rfl
              | rw [sg_eq (by omega)]; rfl)
      · go_wp2
        all_goals (
          go_ret
          refine ⟨?_, rfl⟩
          rw [← HO.out, show min a.size b.size + 1 - k = (min a.size b.size - k) + 1 by omega, ordF_end a b _ k (by omega)]
          first
            | rw [sg_lt (by omega)]; rfl
            | rw [sg_gt (by omega)]; rfl
            | rw [sg_eq (by omega)]; rfl)
end Go.Proofs.YtponpkfdkdnaeaaDoor
