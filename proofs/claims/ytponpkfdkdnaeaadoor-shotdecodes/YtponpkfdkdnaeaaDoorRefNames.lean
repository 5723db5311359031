/-
  heraldref1.NameOf by a contract.
-/
import Derived.Test.YtponpkfdkdnaeaaDoorNames
namespace Go.Proofs.YtponpkfdkdnaeaaDoor
open Go.RowKit

theorem nameB_of {c : UInt8} {n : Nat} (h : c.toNat = n) : nameB c = (decide (97 ≤ n ∧ n ≤ 122) || decide (65 ≤ n ∧ n ≤ 90) || decide (48 ≤ n ∧ n ≤ 57) || decide (n = 95) || decide (n = 45) || decide (n = 46)) := by
  subst h; rfl

set_option maxHeartbeats 1600000 in
theorem nameOf_long (s : ByteArray) (w : World) (h1 : (1 : Int) ≤ (s.size : Int)) (h2 : (s.size : Int) ≤ 16) (h3 : (s.toList == [46]) = false) (h4 : (s.toList == [46, 46]) = false) :
    Calls Tryd.prog 49 #[.string s] w fun e w' => e = .returned (.bool (isNm s)) ∧ w' = w := by
  have h0 : ¬ (s.size : Int) < 1 := by omega
  have h1' : s.toList.isEmpty = false := by
    rw [ByteArray.toList_eq]
    cases hl : s.data.toList with
    | nil => have : s.size = 0 := by simpa using congrArg List.length hl
             omega
    | cons b l => rfl
  have h2' : decide ((16 : Int) < (s.size : Int)) = false := by simpa using h2
  have h3' : ¬ s.toList = [46] := by simpa using h3
  have HH : Hid (((s.toList.isEmpty = false ∧ (s.size : Int) ≤ 16) ∧ (s.toList == [46]) = false) ∧ (s.toList == [46, 46]) = false) := ⟨⟨⟨h1', h2⟩, h3⟩, h4⟩
  have h16 : s.size ≤ 16 := by omega
  have h00 : decide ((s.size : Int) < 1) = false := by simpa using h1
  clear h1'
  go_enter Tryd.func49, Tryd.ntmps49
  go_wp2
  clear h1 h2 h3 h4 h0 h2' h3' h00
  go_loop [3] (fun i => ∃ k : Nat, i = .int .i64 k ∧ k ≤ s.size ∧ (s.data.toList.take k).all nameB = true) (fun i => s.size - (intOf i).toNat)
  case atStart => exact ⟨0, rfl, by omega, rfl⟩
  case round =>
    obtain ⟨k, rfl, hk, ha⟩ := hrel
    have HA : Hid _ := ha
    clear ha
    by_cases hlt : k < s.size
    · obtain ⟨n, hn⟩ : ∃ n : Nat, s[k].toNat = n := ⟨_, rfl⟩
      have HB : Hid _ := nameB_of hn
      have hn2 : n < 256 := by have := s[k].toNat_lt; omega
      rcases (show n < 45 ∨ n = 45 ∨ n = 46 ∨ n = 47 ∨ (48 ≤ n ∧ n ≤ 57) ∨ (58 ≤ n ∧ n ≤ 64) ∨ (65 ≤ n ∧ n ≤ 90) ∨ (91 ≤ n ∧ n ≤ 94) ∨ n = 95 ∨ n = 96 ∨ (97 ≤ n ∧ n ≤ 122) ∨ 123 ≤ n by omega)
        with hc | hc | hc | hc | hc | hc | hc | hc | hc | hc | hc | hc
      · have e1 : ((n : Int) != 95) = true := by simp; omega
        have e2 : ((n : Int) != 45) = true := by simp; omega
        have e3 : ((n : Int) != 46) = true := by simp; omega
        have hb : nameB s[k] = false := by rw [HB.out]; simp; omega
        have HBB : Hid _ := hb
        clear hb
        go_wp2
        go_ret
        exact ⟨by rw [nm_bad k hlt HBB.out]; rfl, rfl⟩
      · subst hc
        have hb : nameB s[k] = true := by rw [HB.out]; rfl
        have HBB : Hid _ := hb
        clear hb
        go_wp2
        go_round
        case rel => exact ⟨k + 1, by go_num, by omega, nm_step k hlt HBB.out HA.out⟩
        case measure => simp [intOf]; omega
      · subst hc
        have hb : nameB s[k] = true := by rw [HB.out]; rfl
        have HBB : Hid _ := hb
        clear hb
        go_wp2
        go_round
        case rel => exact ⟨k + 1, by go_num, by omega, nm_step k hlt HBB.out HA.out⟩
        case measure => simp [intOf]; omega
      · have e1 : ((n : Int) != 95) = true := by simp; omega
        have e2 : ((n : Int) != 45) = true := by simp; omega
        have e3 : ((n : Int) != 46) = true := by simp; omega
        have hb : nameB s[k] = false := by rw [HB.out]; simp; omega
        have HBB : Hid _ := hb
        clear hb
        go_wp2
        go_ret
        exact ⟨by rw [nm_bad k hlt HBB.out]; rfl, rfl⟩
      · have hb : nameB s[k] = true := by rw [HB.out]; simp; omega
        have HBB : Hid _ := hb
        clear hb
        go_wp2
        go_round
        case rel => exact ⟨k + 1, by go_num, by omega, nm_step k hlt HBB.out HA.out⟩
        case measure => simp [intOf]; omega
      · have e1 : ((n : Int) != 95) = true := by simp; omega
        have e2 : ((n : Int) != 45) = true := by simp; omega
        have e3 : ((n : Int) != 46) = true := by simp; omega
        have hb : nameB s[k] = false := by rw [HB.out]; simp; omega
        have HBB : Hid _ := hb
        clear hb
        go_wp2
        go_ret
        exact ⟨by rw [nm_bad k hlt HBB.out]; rfl, rfl⟩
      · have hb : nameB s[k] = true := by rw [HB.out]; simp; omega
        have HBB : Hid _ := hb
        clear hb
        go_wp2
        go_round
        case rel => exact ⟨k + 1, by go_num, by omega, nm_step k hlt HBB.out HA.out⟩
        case measure => simp [intOf]; omega
      · have e1 : ((n : Int) != 95) = true := by simp; omega
        have d1 : decide ((n : Int) ≤ 90) = false := by simp; omega
        have e2 : ((n : Int) != 45) = true := by simp; omega
        have e3 : ((n : Int) != 46) = true := by simp; omega
        have hb : nameB s[k] = false := by rw [HB.out]; simp; omega
        have HBB : Hid _ := hb
        clear hb
        go_wp2
        go_ret
        exact ⟨by rw [nm_bad k hlt HBB.out]; rfl, rfl⟩
      · subst hc
        have hb : nameB s[k] = true := by rw [HB.out]; rfl
        have HBB : Hid _ := hb
        clear hb
        go_wp2
        go_round
        case rel => exact ⟨k + 1, by go_num, by omega, nm_step k hlt HBB.out HA.out⟩
        case measure => simp [intOf]; omega
      · have e1 : ((n : Int) != 95) = true := by simp; omega
        have d1 : decide ((n : Int) ≤ 90) = false := by simp; omega
        have e2 : ((n : Int) != 45) = true := by simp; omega
        have e3 : ((n : Int) != 46) = true := by simp; omega
        have hb : nameB s[k] = false := by rw [HB.out]; simp; omega
        have HBB : Hid _ := hb
        clear hb
        go_wp2
        go_ret
        exact ⟨by rw [nm_bad k hlt HBB.out]; rfl, rfl⟩
      · have hb : nameB s[k] = true := by rw [HB.out]; simp; omega
        have HBB : Hid _ := hb
        clear hb
        go_wp2
        go_round
        case rel => exact ⟨k + 1, by go_num, by omega, nm_step k hlt HBB.out HA.out⟩
        case measure => simp [intOf]; omega
      · have e1 : ((n : Int) != 95) = true := by simp; omega
        have d1 : decide ((n : Int) ≤ 90) = false := by simp; omega
        have d2 : decide ((n : Int) ≤ 122) = false := by simp; omega
        have e2 : ((n : Int) != 45) = true := by simp; omega
        have e3 : ((n : Int) != 46) = true := by simp; omega
        have hb : nameB s[k] = false := by rw [HB.out]; simp; omega
        have HBB : Hid _ := hb
        clear hb
        go_wp2
        go_ret
        exact ⟨by rw [nm_bad k hlt HBB.out]; rfl, rfl⟩
    · obtain rfl : k = s.size := by omega
      go_wp2
      go_ret
      exact ⟨by rw [nm_good HH.out HA.out]; rfl, rfl⟩

theorem nm_out {s : ByteArray} (h : (((s.size : Int) < 1 ∨ (16 : Int) < (s.size : Int)) ∨ (s.toList == [46]) = true) ∨ (s.toList == [46, 46]) = true) : isNm s = false := by
  rw [ByteArray.toList_eq] at h
  rcases h with ((h | h) | h) | h
  · have : s.size = 0 := by omega
    simp [isNm, this]
  · exact nm_long h
  · simp [isNm, h]
  · simp [isNm, h]

theorem nameOf_any (s : ByteArray) (w : World) :
    Calls Tryd.prog 49 #[.string s] w fun e w' => e = .returned (.bool (isNm s)) ∧ w' = w := by
  by_cases hall : (1 : Int) ≤ (s.size : Int) ∧ (s.size : Int) ≤ 16 ∧ (s.toList == [46]) = false ∧ (s.toList == [46, 46]) = false
  · exact nameOf_long s w hall.1 hall.2.1 hall.2.2.1 hall.2.2.2
  have HN : Hid _ := hall
  clear hall
  go_enter Tryd.func49, Tryd.ntmps49
  go_wp2
  · have h : s.toList = [46] := by assumption
    go_ret
    exact ⟨by rw [nm_dot h]; rfl, rfl⟩
  · have h : (((s.size : Int) < 1 ∨ (16 : Int) < (s.size : Int)) ∨ (s.toList == [46]) = true) ∨ (s.toList == [46, 46]) = true := by assumption
    go_ret
    exact ⟨by rw [nm_out h]; rfl, rfl⟩
  · have h : (((1 : Int) ≤ (s.size : Int) ∧ (s.size : Int) ≤ 16) ∧ (s.toList == [46]) = false) ∧ (s.toList == [46, 46]) = false := by assumption
    exact absurd ⟨h.1.1.1, h.1.1.2, h.1.2, h.2⟩ HN.out
  · have h : (16 : Int) < (s.size : Int) := by assumption
    go_ret
    exact ⟨by rw [nm_long h]; rfl, rfl⟩
  · have h : (s.size : Int) < 1 := by assumption
    go_ret
    exact ⟨by rw [nm_out (.inl (.inl (.inl h)))]; rfl, rfl⟩
end Go.Proofs.YtponpkfdkdnaeaaDoor
