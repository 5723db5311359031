/-
  the law's own begins.
-/
import Derived.Test.YtnmengoefpdaiaaRAllL
namespace Go.Proofs.Ytnmengoefpdaiaa
open Go.RowKit
set_option linter.unusedVariables false
set_option linter.unusedSimpArgs false

abbrev bR0 : RingT := newR 2 5 3
abbrev bR1 : RingT := bR0.app ⟨6, 3, 0, 0, 0, []⟩
abbrev bR2 : RingT := bR1.app ⟨7, 4, 0, 0, 0, []⟩
abbrev bR3 : RingT := { bR2 with hold := (6 : Int).toNat }
abbrev bR4 : RingT := bR3.app ⟨8, 4, 0, 0, 0, []⟩
theorem b_codes : newC 2 5 3 = 0 ∧ newC 0 (-1) 0 = 1 ∧ newC 65 0 (-1) = 1 ∧ bR0.may ⟨6, 3, 0, 0, 0, []⟩ = 0 ∧ bR1.may ⟨7, 4, 0, 0, 0, []⟩ = 0 ∧ bR2.may ⟨8, 4, 0, 0, 0, []⟩ = 62 ∧ bR2.free 6 = 0 ∧ bR3.may ⟨8, 4, 0, 0, 0, []⟩ = 0 ∧ bR4.floor = 6 ∧ bR4.of = 3 ∧ bR4.last = 8 ∧ bR4.top = 4 := by
  refine ⟨?_, ?_, ?_, ?_, ?_, ?_, ?_, ?_, ?_, ?_, ?_, ?_⟩ <;> decide
theorem e_small (s v k se rq : Int) : (⟨s, v, k, se, rq, []⟩ : EnT).Small := ⟨by show 0 * 56 ≤ 140737488355328; decide, fun o ho => by cases ho⟩
/-- An entry without ops is put behind the others. -/
theorem append_bare (b : Nat) (R R' : RingT) (s v : Int) (c : Int) (w0 w : World) (hb : Below w0.heap.size w0 w) (hlo : w0.heap.size ≤ b) (h : RingAt w b R) (hc : R.may ⟨s, v, 0, 0, 0, []⟩ = c) (hR : (if c = 0 then R.app ⟨s, v, 0, 0, 0, []⟩ else R) = R') :
    Calls Try.prog 15 #[.pointer (some ⟨b, 0, none⟩), .agg #[.int .i64 s, .int .i64 v, .int .i64 0, .int .i64 0, .int .i64 0, .slice none 0 0]] w fun e' w' => e' = .returned (.int .i64 c) ∧ RingAt w' b R' ∧ Below w0.heap.size w0 w' := by
  subst hc hR
  refine (append_any (some ⟨b, 0, none⟩) R ⟨s, v, 0, 0, 0, []⟩ none 0 0 w (.inr ⟨b, rfl, h⟩) rfl (.inl rfl) (fun _ _ h => by cases h) (e_small _ _ _ _ _)).mono ?_
  rintro e' w' ⟨rfl, hs⟩
  refine ⟨rfl, ?_, hb.trans (hs.chg.below hb.size (fun k _ e => by cases e; exact hlo))⟩
  rcases hs.rp with ⟨h0, _⟩ | ⟨b', h0, hr⟩
  · cases h0
  · cases h0
    exact hr
theorem hold_at (b : Nat) (R R' : RingT) (n : Int) (c : Int) (w0 w : World) (hb : Below w0.heap.size w0 w) (hlo : w0.heap.size ≤ b) (h : RingAt w b R) (hc : R.free n = c) (hR : (if c = 0 then { R with hold := n.toNat } else R) = R') :
    Calls Try.prog 19 #[.pointer (some ⟨b, 0, none⟩), .int .i64 n] w fun e' w' => e' = .returned (.int .i64 c) ∧ RingAt w' b R' ∧ Below w0.heap.size w0 w' := by
  subst hc hR
  refine (hold_any (some ⟨b, 0, none⟩) R n w (.inr ⟨b, rfl, h⟩)).mono ?_
  rintro e' w' ⟨rfl, hs⟩
  refine ⟨rfl, ?_, hb.trans (hs.chg.below hb.size (fun k _ e => by cases e; exact hlo))⟩
  rcases hs.rp with ⟨h0, _⟩ | ⟨b', h0, hr⟩
  · cases h0
  · cases h0
    exact hr
set_option maxHeartbeats 3200000 in
set_option maxRecDepth 100000 in
theorem begins_any (w : World) : Calls Try.prog 4 #[] w fun e w' => e = .returned (.bool true) ∧ Below w.heap.size w w' := by
  have HN0 : Hid _ := new_any 2 5 3 w
  have HN1 : Hid (∀ w', _) := fun w' => new_no 0 (-1) 0 w' (by decide)
  have HN2 : Hid (∀ w', _) := fun w' => new_no 65 0 (-1) w' (by decide)
  rw [b_codes.1] at HN0
  rw [b_codes.2.1] at HN1
  rw [b_codes.2.2.1] at HN2
  go_enter Try.func4, Try.ntmps4
  go_wp2_with fail
  refine Calls.mono HN0.out ?_
  rintro e w1 ⟨p, rfl, hb1, hk1⟩
  obtain ⟨b, rfl, hlo, hr1⟩ : ∃ b, p = some ⟨b, 0, none⟩ ∧ w.heap.size ≤ b ∧ RingAt w1 b bR0 := by
    rcases hk1 with ⟨h, _⟩ | ⟨_, h⟩
    · exact absurd rfl h
    · exact h
  have HR1 : Hid (RingAt w1 b bR0) := hr1
  have HB1 : Hid (Below w.heap.size w w1) := hb1
  have HLO : Hid (w.heap.size ≤ b) := hlo
  clear hk1 hr1 hb1 hlo HN0
  go_wp2_with fail
  refine Calls.mono (HN1.out _) ?_
  rintro e w1' ⟨rfl, rfl⟩
  go_wp2_with fail
  refine Calls.mono (HN2.out _) ?_
  rintro e w1' ⟨rfl, rfl⟩
  clear HN1 HN2
  go_wp2_with fail
  refine Calls.mono (append_bare b bR0 bR1 6 3 0 w _ HB1.out HLO.out HR1.out b_codes.2.2.2.1 rfl) ?_
  rintro e w2 ⟨rfl, hr, hb⟩
  have HR2 : Hid (RingAt w2 b bR1) := hr
  have HB2 : Hid (Below w.heap.size w w2) := hb
  clear hr hb HR1 HB1
  go_wp2_with fail
  refine Calls.mono (append_bare b bR1 bR2 7 4 0 w _ HB2.out HLO.out HR2.out b_codes.2.2.2.2.1 rfl) ?_
  rintro e w3 ⟨rfl, hr, hb⟩
  have HR3 : Hid (RingAt w3 b bR2) := hr
  have HB3 : Hid (Below w.heap.size w w3) := hb
  clear hr hb HR2 HB2
  go_wp2_with fail
  refine Calls.mono (append_bare b bR2 bR2 8 4 62 w _ HB3.out HLO.out HR3.out b_codes.2.2.2.2.2.1 rfl) ?_
  rintro e w4 ⟨rfl, hr, hb⟩
  have HR4 : Hid (RingAt w4 b bR2) := hr
  have HB4 : Hid (Below w.heap.size w w4) := hb
  clear hr hb HR3 HB3
  go_wp2_with fail
  refine Calls.mono (hold_at b bR2 bR3 6 0 w _ HB4.out HLO.out HR4.out b_codes.2.2.2.2.2.2.1 rfl) ?_
  rintro e w5 ⟨rfl, hr, hb⟩
  have HR5 : Hid (RingAt w5 b bR3) := hr
  have HB5 : Hid (Below w.heap.size w w5) := hb
  clear hr hb HR4 HB4
  go_wp2_with fail
  refine Calls.mono (append_bare b bR3 bR4 8 4 0 w _ HB5.out HLO.out HR5.out b_codes.2.2.2.2.2.2.2.1 rfl) ?_
  rintro e w6 ⟨rfl, hr, hb⟩
  have HR6 : Hid (RingAt w6 b bR4) := hr
  have HB6 : Hid (Below w.heap.size w w6) := hb
  clear hr hb HR5 HB5
  have HF : Hid _ := floor_any (some ⟨b, 0, none⟩) bR4 w6 (.inr ⟨b, rfl, HR6.out⟩)
  have HL : Hid (∀ w', Below w6.heap.size w6 w' → _) := fun w' hb => last_any (some ⟨b, 0, none⟩) bR4 w' (.inr ⟨b, rfl, HR6.out.below hb⟩)
  rw [b_codes.2.2.2.2.2.2.2.2.1, b_codes.2.2.2.2.2.2.2.2.2.1] at HF
  rw [b_codes.2.2.2.2.2.2.2.2.2.2.1, b_codes.2.2.2.2.2.2.2.2.2.2.2] at HL
  go_wp2_with fail
  refine Calls.mono HF.out ?_
  rintro e w7 ⟨rfl, hb7⟩
  have HL7 : Hid _ := HL.out w7 hb7
  have HB7 : Hid (Below w.heap.size w w7) := trans2 HB6.out hb7
  clear HL HF hb7
  go_wp2_with fail
  refine Calls.mono HL7.out ?_
  rintro e w8 ⟨rfl, hb8⟩
  have HB8 : Hid (Below w.heap.size w w8) := trans2 HB7.out hb8
  clear HL7 hb8
  go_wp2_with fail
  go_ret
  exact ⟨rfl, HB8.out⟩
end Go.Proofs.Ytnmengoefpdaiaa
