import Derived.Test.YtaieijbdknfcjaaGreatDoorLine
import Derived.Test.YtaieijbdknfcjaaGreatDoorSTurned
namespace Go.Proofs.YtaieijbdknfcjaaGreatDoor
open Go.RowKit
set_option maxHeartbeats 3200000
theorem weight_any (c : UInt8) (w : World) :
    Calls Tryz.prog 60 #[.int .u8 (c.toNat : Int)] w fun e w' => e = .returned (.int .i64 (rk c)) ∧ w' = w := by
  unfold rk
  by_cases h : c.toNat = 47
  · rw [if_pos h]
    go_enter Tryz.func60, Tryz.ntmps60
    go_wp2
    go_ret
    exact ⟨rfl, rfl⟩
  · rw [if_neg h]
    have h1 : ((c.toNat : Int) == 47) = false := by simp; omega
    have h2 : (c.toNat : Int) < 256 := by have := c.toNat_lt; omega
    go_enter Tryz.func60, Tryz.ntmps60
    go_wp2
    go_ret
    exact ⟨rfl, rfl⟩
theorem ref_any (a b : ByteArray) (ha : a.size ≤ maxLen) (hb : b.size ≤ maxLen) (w : World) :
    Calls Tryz.prog 42 #[.string a, .string b] w fun e w' => e = .returned (.int .i64 (ordF a b (min a.size b.size + 1) 0)) ∧ w' = w := by
  unfold maxLen at ha hb
  go_enter Tryz.func42, Tryz.ntmps42
  go_wp2
  go_loop [5] (fun i => ∃ k : Nat, i = .int .i64 k ∧ k ≤ min a.size b.size ∧ ordF a b (min a.size b.size + 1 - k) k = ordF a b (min a.size b.size + 1) 0)
      (fun i => min a.size b.size - (intOf i).toNat)
  case atStart => exact ⟨0, rfl, by omega, by simp⟩
  case round =>
      obtain ⟨k, rfl, hk, hO⟩ := hrel
      have HO : Hid (ordF a b (min a.size b.size + 1 - k) k = ordF a b (min a.size b.size + 1) 0) := hO
      clear hO
      by_cases g3 : k < a.size
      · by_cases g4 : k < b.size
        · rcases Int.lt_trichotomy (rk a[k]) (rk b[k]) with hc | hc | hc
          · go_wp2_with (first | (go_at_call 60; refine (weight_any _ _).mono ?_; rintro e w' ⟨rfl, rfl⟩) | go_in)
            go_ret
            refine ⟨?_, rfl⟩
            rw [← HO.out, show min a.size b.size + 1 - k = (min a.size b.size - k) + 1 by omega, ordF_part a b _ k g3 g4 (by rw [get!_at a k g3, get!_at b k g4]; intro h; unfold rk at hc; rw [h] at hc; omega), get!_at a k g3, get!_at b k g4, sg, if_pos hc]
            rfl
          · go_wp2_with (first | (go_at_call 60; refine (weight_any _ _).mono ?_; rintro e w' ⟨rfl, rfl⟩) | go_in)
            go_round
            case rel => exact ⟨k + 1, by go_num, by omega, by rw [← HO.out, show min a.size b.size + 1 - k = (min a.size b.size - k) + 1 by omega, ordF_go a b _ k g3 g4 (by rw [get!_at a k g3, get!_at b k g4]; exact rk_inj hc)]; congr 1; omega⟩
            case measure => simp [intOf]; omega
          · go_wp2_with (first | (go_at_call 60; refine (weight_any _ _).mono ?_; rintro e w' ⟨rfl, rfl⟩) | go_in)
            go_ret
            refine ⟨?_, rfl⟩
            rw [← HO.out, show min a.size b.size + 1 - k = (min a.size b.size - k) + 1 by omega, ordF_part a b _ k g3 g4 (by rw [get!_at a k g3, get!_at b k g4]; intro h; unfold rk at hc; rw [h] at hc; omega), get!_at a k g3, get!_at b k g4, sg, if_neg (by omega), if_pos hc]
            rfl
        · go_wp2
          all_goals (
            go_ret
            refine ⟨?_, rfl⟩
            rw [← HO.out, show min a.size b.size + 1 - k = (min a.size b.size - k) + 1 by omega, ordF_end a b _ k (by omega)]
            first
              | rw [sg_lt (by omega)]; rfl
              | rw [sg_gt (by omega)]; rfl
              | rw [sg_eq (by omega)]; rfl)
      · go_wp2
        all_goals (
          go_ret
          refine ⟨?_, rfl⟩
          rw [← HO.out, show min a.size b.size + 1 - k = (min a.size b.size - k) + 1 by omega, ordF_end a b _ k (by omega)]
          first
            | rw [sg_lt (by omega)]; rfl
            | rw [sg_gt (by omega)]; rfl
            | rw [sg_eq (by omega)]; rfl)
end Go.Proofs.YtaieijbdknfcjaaGreatDoor
namespace Go.Proofs.YtaieijbdknfcjaaGreatDoor
open Go.RowKit
set_option linter.unusedVariables false
set_option linter.unusedSimpArgs false

def isNum (v : Int) : Bool := decide (0 ≤ v ∧ v ≤ 2147483647)
theorem isNumber_any (v : Int) (w : World) : Calls Tryz.prog 26 #[.int .i64 v] w fun e w' => e = .returned (.bool (isNum v)) ∧ w' = w := by
  unfold isNum
  by_cases h0 : 0 ≤ v
  · by_cases h1 : v ≤ 2147483647
    · have hd : decide (0 ≤ v ∧ v ≤ 2147483647) = true := by simp [h0, h1]
      rw [hd]
      go_enter Tryz.func26, Tryz.ntmps26
      go_wp2_with fail
      go_ret
      exact ⟨rfl, rfl⟩
    · have hd : decide (0 ≤ v ∧ v ≤ 2147483647) = false := by simp [h1]
      rw [hd]
      go_enter Tryz.func26, Tryz.ntmps26
      go_wp2_with fail
      go_ret
      exact ⟨rfl, rfl⟩
  · have hd : decide (0 ≤ v ∧ v ≤ 2147483647) = false := by simp [h0]
    rw [hd]
    go_enter Tryz.func26, Tryz.ntmps26
    go_wp2_with fail
    go_ret
    exact ⟨rfl, rfl⟩
def fitB (d : ByteArray) (v : Int) : Bool := decide (d.size ≤ 64) && isNum v
set_option maxHeartbeats 1600000 in
theorem fits_any (d : ByteArray) (v : Int) (w : World) : Calls Tryz.prog 36 #[.string d, .int .i64 v] w fun e w' => e = .returned (.bool (fitB d v)) ∧ w' = w := by
  unfold fitB
  by_cases h : d.size ≤ 64
  · have h' : (d.size : Int) ≤ 64 := by omega
    have hd : decide (d.size ≤ 64) = true := by simp [h]
    rw [hd, Bool.true_and]
    go_enter Tryz.func36, Tryz.ntmps36
    go_wp2_with (first | (go_at_call 26; refine (isNumber_any _ _).mono ?_; rintro e w1 ⟨rfl, rfl⟩) | fail)
    go_ret
    exact ⟨rfl, rfl⟩
  · have h' : ¬ (d.size : Int) ≤ 64 := by omega
    have hd : decide (d.size ≤ 64) = false := by simp [h]
    rw [hd, Bool.false_and]
    go_enter Tryz.func36, Tryz.ntmps36
    go_wp2_with fail
    go_ret
    exact ⟨rfl, rfl⟩
set_option maxHeartbeats 1600000 in
theorem isFor_any (st : Int) (p : ByteArray) (k : Int) (a : Option Addr) (n c : Nat) (at' : ByteArray) (w : World) (hg : Ground w) : Calls Tryz.prog 27 #[.agg #[.int .i64 st, .string p, .int .i64 k, .slice a n c], .string at'] w fun e w' => e = .returned (.bool (covers k p 1 at')) ∧ Below w.heap.size w w' := by
  have HB : Hid (Below w.heap.size w (w.alloc (.cells #[.int .i64 st, .string p, .int .i64 k, .slice a n c] 24))) := (Below.refl _ _).alloc (Nat.le_refl _) _
  have HC : Hid _ := covers_any k 1 p at' _ (hg.below HB.out)
  go_enter Tryz.func27, Tryz.ntmps27
  go_wp2_with fail
  refine Calls.mono HC.out ?_
  rintro e w1 ⟨rfl, hb⟩
  go_wp2_with fail
  go_ret
  exact ⟨rfl, trans2 HB.out hb⟩
set_option maxHeartbeats 1600000 in
theorem cmp_any (s : SeenT) (at' : ByteArray) (hs : s.p.size ≤ maxLen) (ha : at'.size ≤ maxLen) (w : World) : Calls Tryz.prog 56 #[.agg #[.string s.p, .string s.d, .int .i64 s.v], .string at'] w fun e w' => e = .returned (.int .i64 (O s.p at')) ∧ Below w.heap.size w w' := by
  have HB : Hid (Below w.heap.size w (w.alloc (.cells #[.string s.p, .string s.d, .int .i64 s.v] 36))) := (Below.refl _ _).alloc (Nat.le_refl _) _
  have HC : Hid _ := order_O s.p at' hs ha (w.alloc (.cells #[.string s.p, .string s.d, .int .i64 s.v] 36))
  go_enter Tryz.func56, Tryz.ntmps56
  go_wp2_with fail
  refine Calls.mono HC.out ?_
  rintro e w1 ⟨rfl, m, rfl⟩
  go_wp2_with fail
  go_ret
  exact ⟨rfl, below_drewN HB.out m⟩
end Go.Proofs.YtaieijbdknfcjaaGreatDoor
namespace Go.Proofs.YtaieijbdknfcjaaGreatDoor
open Go.RowKit
set_option linter.unusedVariables false
set_option linter.unusedSimpArgs false

/-- In order, each once. -/
def Asc (l : List SeenT) : Prop := ∀ (i j : Nat) (x y : SeenT), i < j → l[i]? = some x → l[j]? = some y → O x.p y.p = -1
def hasP (l : List SeenT) (at' : ByteArray) : Bool := l.any fun s => decide (s.p = at')
theorem noneFrom (l : List SeenT) (at' : ByteArray) : ∀ (q : Nat) (x : SeenT), l.length ≤ q → l[q]? = some x → O x.p at' ≠ -1 := fun q x h hx => by
  rw [List.getElem?_eq_none h] at hx
  cases hx
theorem hasP_iff {l : List SeenT} {at' : ByteArray} : hasP l at' = true ↔ ∃ s ∈ l, s.p = at' := by
  unfold hasP
  rw [List.any_eq_true]
  simp
theorem hasP_none {l : List SeenT} {at' : ByteArray} (h : ∀ (q : Nat) (x : SeenT), q < l.length → l[q]? = some x → O x.p at' = -1) : hasP l at' = false := by
  rw [Bool.eq_false_iff]
  intro hp
  obtain ⟨s, hs, rfl⟩ := hasP_iff.1 hp
  obtain ⟨j, hj⟩ := List.getElem?_of_mem hs
  have := h j s (List.getElem?_eq_some_iff.1 hj).1 hj
  rw [O_self] at this
  omega
theorem hasP_at {l : List SeenT} {at' : ByteArray} {i : Nat} {x : SeenT} (ha : Asc l) (hx : l[i]? = some x) (h1 : ∀ (q : Nat) (x : SeenT), q < i → l[q]? = some x → O x.p at' = -1) (h2 : ∀ (q : Nat) (x : SeenT), i ≤ q → l[q]? = some x → O x.p at' ≠ -1) : hasP l at' = (O x.p at' == 0) := by
  by_cases h0 : O x.p at' = 0
  · rw [h0]
    exact hasP_iff.2 ⟨x, List.mem_of_getElem? hx, O_zero h0⟩
  · have : (O x.p at' == 0) = false := by simpa using h0
    rw [this, Bool.eq_false_iff]
    intro hp
    obtain ⟨s, hs, rfl⟩ := hasP_iff.1 hp
    obtain ⟨j, hj⟩ := List.getElem?_of_mem hs
    rcases Nat.lt_trichotomy j i with h | h | h
    · have := h1 j s h hj
      rw [O_self] at this
      omega
    · subst h
      rw [hx] at hj
      cases hj
      exact h0 (O_self _)
    · exact h2 i x (Nat.le_refl _) hx (ha i j x s h hx hj)
abbrev cmpV : Value := .func (.func 56) #[] #[]
set_option maxHeartbeats 3200000 in
set_option maxRecDepth 100000 in
theorem search_any (a : Option Addr) (c : Nat) (l : List SeenT) (at' : ByteArray) (w : World) (hs : Ss w a l) (hl : l.length ≤ 100000) (hok : ∀ s ∈ l, s.p.size ≤ maxLen) (ha : at'.size ≤ maxLen) (hasc : Asc l) :
    Calls Tryz.prog 55 #[.slice a l.length c, .string at', cmpV] w fun e w' => ∃ i : Nat, e = .returned (.tuple #[.int .i64 i, .bool (hasP l at')]) ∧ i ≤ l.length ∧ (∀ (q : Nat) (x : SeenT), q < i → l[q]? = some x → O x.p at' = -1) ∧ (∀ (q : Nat) (x : SeenT), i ≤ q → l[q]? = some x → O x.p at' ≠ -1) ∧ Below w.heap.size w w' := by
  have HS : Hid (Ss w a l) := hs
  have HK : Hid (∀ s ∈ l, s.p.size ≤ maxLen) := hok
  have HA : Hid (at'.size ≤ maxLen) := ha
  have HASC : Hid (Asc l) := hasc
  clear hs hok ha hasc
  go_enter Tryz.func55, Tryz.ntmps55
  go_wp2_with fail
  go_loopw [9, 10] (fun vi vj wr => ∃ i j : Nat, vi = .int .i64 i ∧ vj = .int .i64 j ∧ i ≤ j ∧ j ≤ l.length ∧ Hid (∀ (q : Nat) (x : SeenT), q < i → l[q]? = some x → O x.p at' = -1) ∧ Hid (∀ (q : Nat) (x : SeenT), j ≤ q → l[q]? = some x → O x.p at' ≠ -1) ∧ Hid (Below w.heap.size w wr)) (fun vi vj _ => (intOf vj).toNat - (intOf vi).toNat)
  case atStart => exact ⟨0, l.length, rfl, rfl, Nat.zero_le _, Nat.le_refl _, fun q x h _ => absurd h (Nat.not_lt_zero _), noneFrom l at', Below.refl _ _⟩
  case round =>
    obtain ⟨i, j, rfl, rfl, hij, hj, HI, HJ, HB⟩ := hrel
    by_cases hlt : i < j
    · have hlt' : (i : Int) < (j : Int) := by omega
      have hhl : (i + j) / 2 < l.length := by omega
      obtain ⟨x, hx⟩ : ∃ x, l[(i + j) / 2]? = some x := ⟨l[(i + j) / 2], List.getElem?_eq_getElem hhl⟩
      obtain ⟨b, o, rfl, hb, x0, x1, x2⟩ := (HS.out.below HB.out).at hx
      have HCM : Hid _ := cmp_any x at' (HK.out x (List.mem_of_getElem? hx)) HA.out wr
      have HX : Hid (l[(i + j) / 2]? = some x) := hx
      clear hx
      go_wp2_with fail
      refine Calls.mono HCM.out ?_
      obtain ⟨r, hr⟩ : ∃ r, O x.p at' = r := ⟨_, rfl⟩
      have HR : Hid (O x.p at' = r) := hr
      rintro e w1 ⟨he, hb1⟩
      rw [hr] at he
      subst he
      have HB1 : Hid (Below w.heap.size w w1) := trans2 HB.out hb1
      clear hb1 hr x0 x1 x2 hb
      by_cases hneg : r < 0
      · have h1 : r = -1 := by have := O_range x.p at'; rw [HR.out] at this; omega
        go_wp2_with fail
        go_roundw
        case rel =>
          refine ⟨(i + j) / 2 + 1, j, by go_num, rfl, by omega, hj, fun q y hq hy => ?_, HJ.out, HB1.out⟩
          by_cases he : q = (i + j) / 2
          · subst he
            rw [HX.out] at hy
            cases hy
            rw [HR.out, h1]
          · exact O_trans (HASC.out q _ y x (by omega) hy HX.out) (by rw [HR.out, h1])
        case measure => simp [intOf]; omega
      · go_wp2_with fail
        go_roundw
        case rel =>
          refine ⟨i, (i + j) / 2, rfl, by go_num, by omega, by omega, HI.out, fun q y hq hy h => ?_, HB1.out⟩
          by_cases he : q = (i + j) / 2
          · subst he
            rw [HX.out] at hy
            cases hy
            rw [HR.out] at h
            omega
          · have := O_trans (HASC.out _ q x y (by omega) HX.out hy) h
            rw [HR.out] at this
            omega
        case measure => simp [intOf]; omega
    · obtain rfl : i = j := by omega
      have hge : ¬ (i : Int) < (i : Int) := by omega
      by_cases hn : i < l.length
      · have hn' : (i : Int) < (l.length : Int) := by omega
        obtain ⟨x, hx⟩ : ∃ x, l[i]? = some x := ⟨l[i], List.getElem?_eq_getElem hn⟩
        obtain ⟨b, o, rfl, hb, x0, x1, x2⟩ := (HS.out.below HB.out).at hx
        have HCM : Hid _ := cmp_any x at' (HK.out x (List.mem_of_getElem? hx)) HA.out wr
        have HX : Hid (l[i]? = some x) := hx
        clear hx
        have HEQ : Hid (hasP l at' = (O x.p at' == 0)) := hasP_at HASC.out HX.out HI.out HJ.out
        go_wp2_with fail
        refine Calls.mono HCM.out ?_
        rintro e w1 ⟨rfl, hb1⟩
        have HB1 : Hid (Below w.heap.size w w1) := trans2 HB.out hb1
        clear hb1
        go_wp2_with fail
        go_ret2
        exact ⟨i, by rw [HEQ.out]; rfl, hj, HI.out, HJ.out, HB1.out⟩
      · have hn' : ¬ (i : Int) < (l.length : Int) := by omega
        have HEQ : Hid (hasP l at' = false) := hasP_none (fun q x hq hx => HI.out q x (by omega) hx)
        go_wp2_with fail
        go_ret2
        exact ⟨i, by rw [HEQ.out]; rfl, hj, HI.out, HJ.out, HB.out⟩
set_option maxHeartbeats 1600000 in
theorem find_any (a : Option Addr) (c : Nat) (l : List SeenT) (at' : ByteArray) (w : World) (hs : Ss w a l) (hl : l.length ≤ 100000) (hok : ∀ s ∈ l, s.p.size ≤ maxLen) (ha : at'.size ≤ maxLen) (hasc : Asc l) :
    Calls Tryz.prog 32 #[.slice a l.length c, .string at'] w fun e w' => ∃ i : Nat, e = .returned (.tuple #[.int .i64 i, .bool (hasP l at')]) ∧ i ≤ l.length ∧ (∀ (q : Nat) (x : SeenT), q < i → l[q]? = some x → O x.p at' = -1) ∧ (∀ (q : Nat) (x : SeenT), i ≤ q → l[q]? = some x → O x.p at' ≠ -1) ∧ Below w.heap.size w w' := by
  have HSE : Hid _ := search_any a c l at' w hs hl hok ha hasc
  clear hs hok ha hasc
  go_enter Tryz.func32, Tryz.ntmps32
  go_wp2_with fail
  refine Calls.mono HSE.out ?_
  rintro e w1 ⟨i, rfl, h1, h2, h3, hb⟩
  have H2 : Hid _ := h2
  have H3 : Hid _ := h3
  clear h2 h3
  go_wp2_with fail
  go_ret2
  exact ⟨i, rfl, h1, H2.out, H3.out, hb⟩
end Go.Proofs.YtaieijbdknfcjaaGreatDoor
