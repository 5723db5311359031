/-
  shot: find, by slices.BinarySearchFunc.
-/
import Derived.Test.YtbamkdohaofgdaaGreatDoorCSmall
namespace Go.Proofs.YtbamkdohaofgdaaGreatDoor
open Go.RowKit
set_option linter.unusedVariables false
set_option linter.unusedSimpArgs false

/-- In order, each once. -/
def Asc (l : List SeenT) : Prop := ∀ (i j : Nat) (x y : SeenT), i < j → l[i]? = some x → l[j]? = some y → O x.p y.p = -1
def hasP (l : List SeenT) (at' : ByteArray) : Bool := l.any fun s => decide (s.p = at')
theorem noneFrom (l : List SeenT) (at' : ByteArray) : ∀ (q : Nat) (x : SeenT), l.length ≤ q → l[q]? = some x → O x.p at' ≠ -1 := fun q x h hx => by
  rw [List.getElem?_eq_none h] at hx
  cases hx
theorem hasP_iff {l : List SeenT} {at' : ByteArray} : hasP l at' = true ↔ ∃ s ∈ l, s.p = at' := by
  unfold hasP
  rw [List.any_eq_true]
  simp
theorem hasP_none {l : List SeenT} {at' : ByteArray} (h : ∀ (q : Nat) (x : SeenT), q < l.length → l[q]? = some x → O x.p at' = -1) : hasP l at' = false := by
  rw [Bool.eq_false_iff]
  intro hp
  obtain ⟨s, hs, rfl⟩ := hasP_iff.1 hp
  obtain ⟨j, hj⟩ := List.getElem?_of_mem hs
  have := h j s (List.getElem?_eq_some_iff.1 hj).1 hj
  rw [O_self] at this
  omega
theorem hasP_at {l : List SeenT} {at' : ByteArray} {i : Nat} {x : SeenT} (ha : Asc l) (hx : l[i]? = some x) (h1 : ∀ (q : Nat) (x : SeenT), q < i → l[q]? = some x → O x.p at' = -1) (h2 : ∀ (q : Nat) (x : SeenT), i ≤ q → l[q]? = some x → O x.p at' ≠ -1) : hasP l at' = (O x.p at' == 0) := by
  by_cases h0 : O x.p at' = 0
  · rw [h0]
    exact hasP_iff.2 ⟨x, List.mem_of_getElem? hx, O_zero h0⟩
  · have : (O x.p at' == 0) = false := by simpa using h0
    rw [this, Bool.eq_false_iff]
    intro hp
    obtain ⟨s, hs, rfl⟩ := hasP_iff.1 hp
    obtain ⟨j, hj⟩ := List.getElem?_of_mem hs
    rcases Nat.lt_trichotomy j i with h | h | h
    · have := h1 j s h hj
      rw [O_self] at this
      omega
    · subst h
      rw [hx] at hj
      cases hj
      exact h0 (O_self _)
    · exact h2 i x (Nat.le_refl _) hx (ha i j x s h hx hj)
abbrev cmpV : Value := .func (.func 68) #[] #[]
set_option maxHeartbeats 3200000 in
set_option maxRecDepth 100000 in
theorem search_any (a : Option Addr) (c : Nat) (l : List SeenT) (at' : ByteArray) (w : World) (hs : Ss w a l) (hl : l.length ≤ 100000) (hok : ∀ s ∈ l, s.p.size ≤ maxLen) (ha : at'.size ≤ maxLen) (hasc : Asc l) :
    Calls Tryz.prog 67 #[.slice a l.length c, .string at', cmpV] w fun e w' => ∃ i : Nat, e = .returned (.tuple #[.int .i64 i, .bool (hasP l at')]) ∧ i ≤ l.length ∧ (∀ (q : Nat) (x : SeenT), q < i → l[q]? = some x → O x.p at' = -1) ∧ (∀ (q : Nat) (x : SeenT), i ≤ q → l[q]? = some x → O x.p at' ≠ -1) ∧ Below w.heap.size w w' := by
  have HS : Hid (Ss w a l) := hs
  have HK : Hid (∀ s ∈ l, s.p.size ≤ maxLen) := hok
  have HA : Hid (at'.size ≤ maxLen) := ha
  have HASC : Hid (Asc l) := hasc
  clear hs hok ha hasc
  go_enter Tryz.func67, Tryz.ntmps67
  go_wp2_with fail
  go_loopw [9, 10] (fun vi vj wr => ∃ i j : Nat, vi = .int .i64 i ∧ vj = .int .i64 j ∧ i ≤ j ∧ j ≤ l.length ∧ Hid (∀ (q : Nat) (x : SeenT), q < i → l[q]? = some x → O x.p at' = -1) ∧ Hid (∀ (q : Nat) (x : SeenT), j ≤ q → l[q]? = some x → O x.p at' ≠ -1) ∧ Hid (Below w.heap.size w wr)) (fun vi vj _ => (intOf vj).toNat - (intOf vi).toNat)
  case atStart => exact ⟨0, l.length, rfl, rfl, Nat.zero_le _, Nat.le_refl _, fun q x h _ => absurd h (Nat.not_lt_zero _), noneFrom l at', Below.refl _ _⟩
  case round =>
    obtain ⟨i, j, rfl, rfl, hij, hj, HI, HJ, HB⟩ := hrel
    by_cases hlt : i < j
    · have hlt' : (i : Int) < (j : Int) := by omega
      have hhl : (i + j) / 2 < l.length := by omega
      obtain ⟨x, hx⟩ : ∃ x, l[(i + j) / 2]? = some x := ⟨l[(i + j) / 2], List.getElem?_eq_getElem hhl⟩
      obtain ⟨b, o, rfl, hb, x0, x1, x2⟩ := (HS.out.below HB.out).at hx
      have HCM : Hid _ := cmp_any x at' (HK.out x (List.mem_of_getElem? hx)) HA.out wr
      have HX : Hid (l[(i + j) / 2]? = some x) := hx
      clear hx
      go_wp2_with fail
      refine Calls.mono HCM.out ?_
      obtain ⟨r, hr⟩ : ∃ r, O x.p at' = r := ⟨_, rfl⟩
      have HR : Hid (O x.p at' = r) := hr
      rintro e w1 ⟨he, hb1⟩
      rw [hr] at he
      subst he
      have HB1 : Hid (Below w.heap.size w w1) := trans2 HB.out hb1
      clear hb1 hr x0 x1 x2 hb
      by_cases hneg : r < 0
      · have h1 : r = -1 := by have := O_range x.p at'; rw [HR.out] at this; omega
        go_wp2_with fail
        go_roundw
        case rel =>
          refine ⟨(i + j) / 2 + 1, j, by go_num, rfl, by omega, hj, fun q y hq hy => ?_, HJ.out, HB1.out⟩
          by_cases he : q = (i + j) / 2
          · subst he
            rw [HX.out] at hy
            cases hy
            rw [HR.out, h1]
          · exact O_trans (HASC.out q _ y x (by omega) hy HX.out) (by rw [HR.out, h1])
        case measure => simp [intOf]; omega
      · go_wp2_with fail
        go_roundw
        case rel =>
          refine ⟨i, (i + j) / 2, rfl, by go_num, by omega, by omega, HI.out, fun q y hq hy h => ?_, HB1.out⟩
          by_cases he : q = (i + j) / 2
          · subst he
            rw [HX.out] at hy
            cases hy
            rw [HR.out] at h
            omega
          · have := O_trans (HASC.out _ q x y (by omega) HX.out hy) h
            rw [HR.out] at this
            omega
        case measure => simp [intOf]; omega
    · obtain rfl : i = j := by omega
      have hge : ¬ (i : Int) < (i : Int) := by omega
      by_cases hn : i < l.length
      · have hn' : (i : Int) < (l.length : Int) := by omega
        obtain ⟨x, hx⟩ : ∃ x, l[i]? = some x := ⟨l[i], List.getElem?_eq_getElem hn⟩
        obtain ⟨b, o, rfl, hb, x0, x1, x2⟩ := (HS.out.below HB.out).at hx
        have HCM : Hid _ := cmp_any x at' (HK.out x (List.mem_of_getElem? hx)) HA.out wr
        have HX : Hid (l[i]? = some x) := hx
        clear hx
        have HEQ : Hid (hasP l at' = (O x.p at' == 0)) := hasP_at HASC.out HX.out HI.out HJ.out
        go_wp2_with fail
        refine Calls.mono HCM.out ?_
        rintro e w1 ⟨rfl, hb1⟩
        have HB1 : Hid (Below w.heap.size w w1) := trans2 HB.out hb1
        clear hb1
        go_wp2_with fail
        go_ret2
        exact ⟨i, by rw [HEQ.out]; rfl, hj, HI.out, HJ.out, HB1.out⟩
      · have hn' : ¬ (i : Int) < (l.length : Int) := by omega
        have HEQ : Hid (hasP l at' = false) := hasP_none (fun q x hq hx => HI.out q x (by omega) hx)
        go_wp2_with fail
        go_ret2
        exact ⟨i, by rw [HEQ.out]; rfl, hj, HI.out, HJ.out, HB.out⟩
set_option maxHeartbeats 1600000 in
theorem find_any (a : Option Addr) (c : Nat) (l : List SeenT) (at' : ByteArray) (w : World) (hs : Ss w a l) (hl : l.length ≤ 100000) (hok : ∀ s ∈ l, s.p.size ≤ maxLen) (ha : at'.size ≤ maxLen) (hasc : Asc l) :
    Calls Tryz.prog 38 #[.slice a l.length c, .string at'] w fun e w' => ∃ i : Nat, e = .returned (.tuple #[.int .i64 i, .bool (hasP l at')]) ∧ i ≤ l.length ∧ (∀ (q : Nat) (x : SeenT), q < i → l[q]? = some x → O x.p at' = -1) ∧ (∀ (q : Nat) (x : SeenT), i ≤ q → l[q]? = some x → O x.p at' ≠ -1) ∧ Below w.heap.size w w' := by
  have HSE : Hid _ := search_any a c l at' w hs hl hok ha hasc
  clear hs hok ha hasc
  go_enter Tryz.func38, Tryz.ntmps38
  go_wp2_with fail
  refine Calls.mono HSE.out ?_
  rintro e w1 ⟨i, rfl, h1, h2, h3, hb⟩
  have H2 : Hid _ := h2
  have H3 : Hid _ := h3
  clear h2 h3
  go_wp2_with fail
  go_ret2
  exact ⟨i, rfl, h1, H2.out, H3.out, hb⟩
end Go.Proofs.YtbamkdohaofgdaaGreatDoor
