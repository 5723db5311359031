/-
  RingPlays: the walk.
-/
import Derived.Test.YtonppfnjeomcoaaRPlayG3
namespace Go.Proofs.Ytonppfnjeomcoaa
open Go.RowKit Classical
set_option linter.unusedVariables false
set_option linter.unusedSimpArgs false

def PlI (w : World) (b bx : Nat) (F : Nat) (O : Int) (q : Nat) (wr : World) : Prop := PlOk w b bx F O q wr
set_option maxHeartbeats 3200000 in
set_option maxRecDepth 100000 in
theorem plays_walk (room floor of : Int) (a : Option Addr) (c : Nat) (l : List PAct) (w : World) (h : Acts w a l) (hsm : ∀ x ∈ l, x.A.e.Small) (hl : l.length ≤ maxLen) :
    Calls Try.prog 8 #[.int .i64 room, .int .i64 floor, .int .i64 of, .slice a l.length c] w fun e' w' => e' = .returned (.bool true) ∧ Below w.heap.size w w' := by
  unfold maxLen at hl
  have HB : Hid _ := begins_any w
  have HAC : Hid (Acts w a l) := h
  have HSM : Hid (∀ x ∈ l, x.A.e.Small) := hsm
  have HN1 : Hid (∀ w', _) := fun w' => new_any room floor of w'
  have HN2 : Hid (∀ w' : World, w.heap.size ≤ w'.heap.size → _) := fun w' hw' => rNew w room floor of w' hw'
  obtain ⟨c1, hc1⟩ : ∃ x, newC room floor of = x := ⟨_, rfl⟩
  rw [hc1] at HN1 HN2
  clear h hsm hc1
  go_enter Try.func8, Try.ntmps8
  go_wp2_with fail
  refine Calls.mono HB.out ?_
  rintro e' w1 ⟨rfl, hb1⟩
  have HB1 : Hid (Below w.heap.size w w1) := hb1
  clear hb1 HB
  go_wp2_with fail
  refine Calls.mono (HN1.out _) ?_
  rintro e' w2 ⟨p1, rfl, hb2, hp1⟩
  have HB2 : Hid (Below w.heap.size w w2) := trans2 HB1.out hb2
  have HP1 : Hid _ := hp1
  clear hb2 hp1
  go_wp2_with fail
  refine Calls.mono (HN2.out _ HB2.out.size) ?_
  rintro e' w3 ⟨p2, rfl, hb3, hp2⟩
  have HB3 : Hid (Below w.heap.size w w3) := trans2 HB2.out hb3
  have hp1 := HP1.out
  by_cases hc1 : c1 = 0
  case neg =>
    have hp1' : p1 = none := by
      rcases hp1 with ⟨_, h⟩ | ⟨h, _⟩
      · exact h
      · exact absurd h hc1
    subst hp1'
    have hc1' : (c1 == 0) = false := by simpa using hc1
    clear hb3 hp1 hp2 HP1
    go_wp2_with fail
    go_ret
    exact ⟨rfl, HB3.out⟩
  subst hc1
  obtain ⟨b, hp, hlo1, hr1⟩ : ∃ b, p1 = some ⟨b, 0, none⟩ ∧ w1.heap.size ≤ b ∧ RingAt w2 b (newR room floor of) := by
    rcases hp1 with ⟨h, _⟩ | ⟨_, h⟩
    · exact absurd rfl h
    · exact h
  subst hp
  obtain ⟨bx, hpx, hrf⟩ : ∃ bx, p2 = some ⟨bx, 0, none⟩ ∧ RefAt w w3 bx (newR room floor of) floor.toNat of [] [] none 0 := by
    rcases hp2 with ⟨h, _⟩ | ⟨_, h⟩
    · exact absurd rfl h
    · exact h
  subst hpx
  have HLO : Hid (w.heap.size ≤ b) := Nat.le_trans HB1.out.size hlo1
  obtain ⟨F, hF⟩ : ∃ F, floor.toNat = F := ⟨_, rfl⟩
  rw [hF] at hrf
  have HI : Hid (PlI w b bx F of 0 w3) := ⟨_, [], [], none, 0, hr1.below hb3, hrf, Nat.le_refl _, HB3.out⟩
  clear hb3 hp1 hp2 hlo1 hr1 hrf HP1 HN1 HN2 hF
  obtain ⟨m, hm⟩ : ∃ m, l.length = m := ⟨_, rfl⟩
  rw [hm] at hl ⊢
  have HM : Hid (l.length = m) := hm
  clear hm
  go_wp2_with fail
  go_loopw [14] (fun i wr => ∃ q : Nat, i = .int .i64 q ∧ q ≤ m ∧ q ≤ 120 ∧ Hid (PlI w b bx F of q wr)) (fun i _ => m - (intOf i).toNat)
  case atStart => exact ⟨0, rfl, Nat.zero_le _, Nat.zero_le _, HI⟩
  case round =>
    obtain ⟨q, rfl, hq, hq120, HT⟩ := hrel
    obtain ⟨R, H, P, la, lc, hr, hf, hh, hb⟩ := HT.out
    have HR : Hid (RingAt wr b R) := hr
    have HF : Hid (RefAt w wr bx R F of H P la lc) := hf
    have HB : Hid (Below w.heap.size w wr) := hb
    have HHL : Hid (H.length ≤ q) := hh
    clear hr hf hh hb
    by_cases hlt : q < m ∧ q < 120
    · obtain ⟨hlt, h40⟩ := hlt
      have hlt' : (q : Int) < (m : Int) := by omega
      have h40' : (q : Int) < 120 := by omega
      obtain ⟨x, hx⟩ : ∃ x, l[q]? = some x := ⟨l[q]'(by rw [HM.out]; exact hlt), List.getElem?_eq_getElem _⟩
      obtain ⟨bb, oo, rfl, hbb, x0, x1, x2, x3, x4, x5, x6, x7, x8⟩ := (HAC.out.below HB.out).at hx
      have HXM : Hid (x ∈ l) := List.mem_of_getElem? hx
      have HPD : Hid _ := playedG (w0 := w) b bx x.A x.a x.c x.A.e.ops.length wr HR.out HF.out rfl (HAC.out.ops x HXM.out).2 (HAC.out.ops x HXM.out).1 HB.out HLO.out (HSM.out x HXM.out) (by have := HHL.out; omega)
      clear hx hbb
      go_wp2_with fail
      refine Calls.mono HPD.out ?_
      rintro e' w4 ⟨rfl, R4, H4, P4, la4, lc4, hr4, hf4, hh4, hb4⟩
      have HPL : Hid (RingAt w4 b R4 ∧ RefAt w w4 bx R4 F of H4 P4 la4 lc4 ∧ H4.length ≤ q + 1 ∧ Below w.heap.size w w4) := ⟨hr4, hf4, by have := HHL.out; omega, hb4⟩
      have HSD : Hid (∀ w', Below w4.heap.size w4 w' → _) := fun w' hb => standsG b bx w' (hr4.below hb) (hf4.below hb)
      clear x0 x1 x2 x3 x4 x5 x6 x7 x8 HPD hr4 hf4 hh4 hb4
      go_wp2_with fail
      refine Calls.mono (HSD.out _ (by first | exact Below.refl _ _ | exact below_drewN (Below.refl _ _) _ | exact below_drew (Below.refl _ _))) ?_
      rintro e' w5 ⟨rfl, hb5⟩
      have HI5 : Hid (PlI w b bx F of (q + 1) w5) := (by
        have hbb : Below w4.heap.size w4 w5 := (by first | exact hb5 | exact trans2 (below_drewN (Below.refl _ _) _) hb5 | exact trans2 (below_drew (Below.refl _ _)) hb5)
        exact ⟨R4, H4, P4, la4, lc4, HPL.out.1.below hbb, HPL.out.2.1.below hbb, HPL.out.2.2.1, trans2 HPL.out.2.2.2 hbb⟩)
      clear hb5
      go_wp2_with fail
      go_roundw
      case rel => exact ⟨q + 1, by go_num, by omega, by omega, HI5⟩
      case measure => simp [intOf]; omega
    · have hor : ¬ q < m ∨ (q < m ∧ ¬ q < 120) := by omega
      have HSD : Hid _ := standsG b bx wr HR.out HF.out
      rcases hor with h1 | ⟨h1, h2⟩
      · have h1' : ¬ (q : Int) < (m : Int) := by omega
        go_wp2_with fail
        refine Calls.mono HSD.out ?_
        rintro e' w5 ⟨rfl, hb5⟩
        have HB5 : Hid (Below w.heap.size w w5) := trans2 HB.out hb5
        clear hb5
        go_wp2_with fail
        go_ret
        exact ⟨rfl, HB5.out⟩
      · have h1' : (q : Int) < (m : Int) := by omega
        have h2' : ¬ (q : Int) < 120 := by omega
        go_wp2_with fail
        refine Calls.mono HSD.out ?_
        rintro e' w5 ⟨rfl, hb5⟩
        have HB5 : Hid (Below w.heap.size w w5) := trans2 HB.out hb5
        clear hb5
        go_wp2_with fail
        go_ret
        exact ⟨rfl, HB5.out⟩
end Go.Proofs.Ytonppfnjeomcoaa
