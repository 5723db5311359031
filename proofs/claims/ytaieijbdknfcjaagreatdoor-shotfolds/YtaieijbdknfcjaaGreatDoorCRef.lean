/-
  heraldref5: small functions.
-/
import Derived.Test.YtaieijbdknfcjaaGreatDoorCCheck
namespace Go.Proofs.YtaieijbdknfcjaaGreatDoor
open Go.RowKit
set_option linter.unusedVariables false
set_option linter.unusedSimpArgs false

theorem refParent_up (s : ByteArray) (w : World) :
    Calls Tryz.prog 61 #[.string s] w fun e w' => ∃ c : Int, e = .returned (.tuple #[.string (upP s), .int .i64 c]) ∧ Below w.heap.size w w' := by
  obtain ⟨⟨c, xs⟩, hp⟩ : ∃ q, parse s = q := ⟨_, rfl⟩
  by_cases hc : c = 0
  · subst hc
    by_cases hx : xs = []
    · subst hx
      exact (refParent_root hp w).mono (fun e w' h => ⟨47, by rw [h.1]; simp [upP, hp], h.2⟩)
    · obtain ⟨k, hk⟩ : ∃ k, xs.length = k + 1 := ⟨xs.length - 1, by have := List.length_pos_iff.2 hx; omega⟩
      exact (refParent_some hp k hk w).mono (fun e w' h => ⟨0, by rw [h.1]; simp [upP, hp, hx, hk], h.2⟩)
  · obtain rfl := parse_code hp hc
    exact (refParent_err hp hc w).mono (fun e w' h => ⟨c, by rw [h.1]; simp [upP, hp, hc], h.2⟩)
set_option maxHeartbeats 1600000 in
theorem above_any (s : ByteArray) (w : World) : Calls Tryz.prog 44 #[.string s] w fun e w' => e = .returned (.string (upP s)) ∧ Below w.heap.size w w' := by
  have HP : Hid _ := refParent_up s w
  go_enter Tryz.func44, Tryz.ntmps44
  go_wp2_with fail
  refine Calls.mono HP.out ?_
  rintro e w1 ⟨c, rfl, hb⟩
  have HB : Hid _ := hb
  clear hb
  go_wp2_with fail
  go_ret
  exact ⟨rfl, HB.out⟩
set_option maxHeartbeats 1600000 in
theorem holds_any (d : ByteArray) (v : Int) (w : World) : Calls Tryz.prog 41 #[.string d, .int .i64 v] w fun e w' => e = .returned (.bool (fitB d v)) ∧ w' = w := by
  unfold fitB isNum
  by_cases h : d.size ≤ 64
  · have h' : (d.size : Int) ≤ 64 := by omega
    rw [decide_eq_true h, Bool.true_and]
    by_cases h0 : 0 ≤ v
    · by_cases h1 : v ≤ 2147483647
      · rw [decide_eq_true (show 0 ≤ v ∧ v ≤ 2147483647 from ⟨h0, h1⟩)]
        go_enter Tryz.func41, Tryz.ntmps41
        go_wp2_with fail
        go_ret
        exact ⟨rfl, rfl⟩
      · rw [decide_eq_false (show ¬ (0 ≤ v ∧ v ≤ 2147483647) from fun h => h1 h.2)]
        go_enter Tryz.func41, Tryz.ntmps41
        go_wp2_with fail
        go_ret
        exact ⟨rfl, rfl⟩
    · rw [decide_eq_false (show ¬ (0 ≤ v ∧ v ≤ 2147483647) from fun h => h0 h.1)]
      go_enter Tryz.func41, Tryz.ntmps41
      go_wp2_with fail
      go_ret
      exact ⟨rfl, rfl⟩
  · have h' : ¬ (d.size : Int) ≤ 64 := by omega
    rw [decide_eq_false h, Bool.false_and]
    go_enter Tryz.func41, Tryz.ntmps41
    go_wp2_with fail
    go_ret
    exact ⟨rfl, rfl⟩
def belP (p x : ByteArray) : Bool := decide (Bel (parse p).2 (parse x).2)
theorem below_any (p x : ByteArray) (w : World) : Calls Tryz.prog 48 #[.string x, .string p] w fun e w' => e = .returned (.bool (belP p x)) ∧ Below w.heap.size w w' := by
  obtain ⟨⟨c1, xs⟩, hx⟩ : ∃ q, parse x = q := ⟨_, rfl⟩
  obtain ⟨⟨c2, ys⟩, hp⟩ : ∃ q, parse p = q := ⟨_, rfl⟩
  have := refBelow_any hx hp w
  unfold belP
  rw [hx, hp]
  exact this
def inB (k : Int) (p x : ByteArray) : Bool := decide (x = p) || (if k = 2 then decide (upP x = p) else decide (k = 3) && belP p x)
set_option maxHeartbeats 1600000 in
theorem in_any (k : Int) (p x : ByteArray) (w : World) : Calls Tryz.prog 40 #[.int .i64 k, .string p, .string x] w fun e w' => e = .returned (.bool (inB k p x)) ∧ Below w.heap.size w w' := by
  by_cases hx : x = p
  · subst hx
    have HM : Hid (inB k x x = true) := by show _ = _; simp [inB]
    go_enter Tryz.func40, Tryz.ntmps40
    go_wp2_with fail
    go_ret
    exact ⟨by rw [HM.out]; rfl, Below.refl _ _⟩
  · have hx' := list_ne hx
    by_cases h2 : k = 2
    · subst h2
      have HM : Hid (inB 2 p x = ((upP x).toList == p.toList)) := by show _ = _; rw [eqL]; simp [inB, hx]
      have HA : Hid _ := above_any x w
      go_enter Tryz.func40, Tryz.ntmps40
      go_wp2_with fail
      refine Calls.mono HA.out ?_
      rintro e w1 ⟨rfl, hb⟩
      have HB : Hid _ := hb
      clear hb
      go_wp2_with fail
      go_ret
      exact ⟨by rw [HM.out]; rfl, HB.out⟩
    · by_cases h3 : k = 3
      · subst h3
        have HM : Hid (inB 3 p x = belP p x) := by show _ = _; simp [inB, hx]
        have HA : Hid _ := below_any p x w
        go_enter Tryz.func40, Tryz.ntmps40
        go_wp2_with fail
        refine Calls.mono HA.out ?_
        rintro e w1 ⟨rfl, hb⟩
        have HB : Hid _ := hb
        clear hb
        go_wp2_with fail
        go_ret
        exact ⟨by rw [HM.out]; rfl, HB.out⟩
      · have HM : Hid (inB k p x = false) := by show _ = _; simp [inB, hx, h2, h3]
        go_enter Tryz.func40, Tryz.ntmps40
        go_wp2_with fail
        go_ret
        exact ⟨by rw [HM.out]; rfl, Below.refl _ _⟩
set_option maxHeartbeats 1600000 in
theorem refFind_any (a : Option Addr) (c : Nat) (l : List SeenT) (at' : ByteArray) (w : World) (hs : Ss w a l) (hl : l.length ≤ 100000) :
    Calls Tryz.prog 43 #[.slice a l.length c, .string at'] w fun e w' => ∃ r : Int, e = .returned (.int .i64 r) ∧ (0 ≤ r ↔ hasP l at' = true) ∧ Below w.heap.size w w' := by
  have HS : Hid (Ss w a l) := hs
  clear hs
  go_enter Tryz.func43, Tryz.ntmps43
  go_wp2_with fail
  go_loopw [5] (fun i wr => ∃ q : Nat, i = .int .i64 q ∧ q ≤ l.length ∧ Hid (∀ (j : Nat) (x : SeenT), j < q → l[j]? = some x → x.p ≠ at') ∧ Hid (Below w.heap.size w wr)) (fun i _ => l.length - (intOf i).toNat)
  case atStart => exact ⟨0, rfl, Nat.zero_le _, (fun j x h => absurd h (Nat.not_lt_zero _)), Below.refl _ _⟩
  case round =>
    obtain ⟨q, rfl, hq, HQ, HB⟩ := hrel
    by_cases hlt : q < l.length
    · have hlt' : (q : Int) < (l.length : Int) := by omega
      obtain ⟨n, hn⟩ : ∃ n, l[q]? = some n := ⟨l[q], List.getElem?_eq_getElem hlt⟩
      obtain ⟨b, o, rfl, hb, x0, x1, x2⟩ := (HS.out.below HB.out).at hn
      have HX : Hid (l[q]? = some n) := hn
      clear hn
      by_cases he : n.p = at'
      · have HP : Hid (hasP l at' = true) := hasP_iff.2 ⟨n, List.mem_of_getElem? HX.out, he⟩
        rw [he] at x0
        go_wp2_with fail
        go_ret
        exact ⟨(q : Int), rfl, ⟨fun _ => HP.out, fun _ => by omega⟩, HB.out⟩
      · have he' := list_ne he
        have HE : Hid (n.p ≠ at') := he
        go_wp2_with fail
        go_roundw
        case rel =>
          refine ⟨q + 1, by go_num, by omega, fun j x hj hx => ?_, HB.out⟩
          by_cases hjq : j = q
          · subst hjq
            rw [HX.out] at hx
            cases hx
            exact HE.out
          · exact HQ.out j x (by omega) hx
        case measure => simp [intOf]; omega
    · have hge : ¬ (q : Int) < (l.length : Int) := by omega
      have HP : Hid (hasP l at' = false) := by
        show _ = _
        rw [Bool.eq_false_iff]
        intro h
        obtain ⟨s, hs, hse⟩ := hasP_iff.1 h
        obtain ⟨j, hj⟩ := List.getElem?_of_mem hs
        exact HQ.out j s (by have := (List.getElem?_eq_some_iff.1 hj).1; omega) hj hse
      go_wp2_with fail
      go_ret
      exact ⟨-1, rfl, by rw [HP.out]; simp, HB.out⟩
end Go.Proofs.YtaieijbdknfcjaaGreatDoor
