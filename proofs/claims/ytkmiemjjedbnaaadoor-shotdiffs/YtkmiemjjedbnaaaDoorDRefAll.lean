/-
  heraldref5: Diff, whatever the shots.
-/
import Derived.Test.YtkmiemjjedbnaaaDoorDRef
namespace Go.Proofs.YtkmiemjjedbnaaaDoor
open Go.RowKit Classical
set_option linter.unusedVariables false
set_option linter.unusedSimpArgs false

set_option maxHeartbeats 6400000 in
set_option maxRecDepth 100000 in
theorem refDiff_any (st : Int) (p : ByteArray) (k : Int) (a : Option Addr) (c n : Nat) (la : List SeenT) (st' : Int) (p' : ByteArray) (k' : Int) (b : Option Addr) (d m : Nat) (lb : List SeenT) (w : World) (hsa : Ss w a la) (hsb : Ss w b lb) (hna : la.length = n) (hnb : lb.length = m) (hla : n ≤ 1000) (hlb : m ≤ 1000) (oka : ∀ s ∈ la, s.p.size ≤ maxLen) (okb : ∀ s ∈ lb, s.p.size ≤ maxLen) :
    Calls Tryd.prog 13 #[.agg (shA st p k a n c), .agg (shA st' p' k' b m d)] w fun e w' => ∃ va vc code D, e = .returned (.tuple #[.slice va D.length vc, .int .i64 code]) ∧ DRes st p k la st' p' k' lb code D ∧ Hs w' va D ∧ Below w.heap.size w w' := by
  have hma : n ≤ maxLen := by unfold maxLen; omega
  have hmb : m ≤ maxLen := by unfold maxLen; omega
  have HCA : Hid (∀ w', Below w.heap.size w w' → Calls Tryd.prog 23 #[.agg (shA st p k a n c)] w' fun e w'' => e = .returned (.int .i64 (chk st p k la)) ∧ Below w'.heap.size w' w'') := fun w' hb => by
    subst hna
    rw [chk_eq]
    exact refCheck_any st p k a c la w' (hsa.below hb) oka hma
  have HCB : Hid (∀ w', Below w.heap.size w w' → Calls Tryd.prog 23 #[.agg (shA st' p' k' b m d)] w' fun e w'' => e = .returned (.int .i64 (chk st' p' k' lb)) ∧ Below w'.heap.size w' w'') := fun w' hb => by
    subst hnb
    rw [chk_eq]
    exact refCheck_any st' p' k' b d lb w' (hsb.below hb) okb hmb
  have H0 : Hid (TwoIn w _ (shA st p k a n c) (shA st' p' k' b m d)) := TwoIn.start w (shA st p k a n c) (shA st' p' k' b m d)
  have HSA : Hid (Ss w a la) := hsa
  have HSB : Hid (Ss w b lb) := hsb
  have HNA : Hid (la.length = n) := hna
  have HNB : Hid (lb.length = m) := hnb
  clear hsa hsb hna hnb oka okb hma hmb
  by_cases ga : Good st p k la
  · rw [chk_good ga] at HCA
    have HGA : Hid (Good st p k la) := ga
    have SA : Hid (Sized st p k la) := sized_of_good ga
    clear ga
    by_cases gb : Good st' p' k' lb
    · rw [chk_good gb] at HCB
      have HGB : Hid (Good st' p' k' lb) := gb
      have SB : Hid (Sized st' p' k' lb) := sized_of_good gb
      clear gb
      by_cases hp : p = p'
      · subst hp
        by_cases hk : k = k'
        · subst hk
          refine (refDiff_good st p k a c n la st' b d m lb w HSA.out HSB.out HNA.out HNB.out (by have := SA.out.len; rw [HNA.out] at this; exact this) (by have := SB.out.len; rw [HNB.out] at this; exact this) HCA HCB).mono ?_
          rintro e w1 ⟨va, vc, rfl, hh, hb⟩
          exact ⟨va, vc, 0, (goneL la lb).reverse ++ turnL la lb, rfl, ⟨fun h => absurd ⟨HGA.out, HGB.out⟩ h, fun _ _ h => absurd ⟨rfl, rfl⟩ h, fun _ _ _ _ => ⟨rfl, rfl⟩⟩, hh, hb⟩
        · have hkb : (k != k') = true := by simpa using hk
          have HK : Hid (¬ k = k') := hk
          clear hk
          go_enter Tryd.func13, Tryd.ntmps13
          go_wp2_with fail
          refine (HCA.out _ H0.out.low).mono ?_
          rintro e w1 ⟨rfl, hb1⟩
          have H1 : Hid (TwoIn w w1 (shA st p k a n c) (shA st' p k' b m d)) := H0.out.below hb1
          obtain ⟨a0, a1, a2, a3⟩ := cells_4 H1.out.pa
          obtain ⟨b0, b1, b2, b3⟩ := cells_4 H1.out.pb
          clear hb1
          go_wp2_with fail
          refine (HCB.out _ H1.out.low).mono ?_
          rintro e w2 ⟨rfl, hb2⟩
          have H2 : Hid (TwoIn w w2 (shA st p k a n c) (shA st' p k' b m d)) := H1.out.below hb2
          clear hb2 a0 a1 a2 a3 b0 b1 b2 b3
          obtain ⟨a0, a1, a2, a3⟩ := cells_4 H2.out.pa
          obtain ⟨b0, b1, b2, b3⟩ := cells_4 H2.out.pb
          go_wp2_with fail
          go_ret2
          exact ⟨none, 0, 1, [], rfl, ⟨fun h => absurd ⟨HGA.out, HGB.out⟩ h, fun _ _ _ => ⟨rfl, rfl⟩, fun _ _ _ h => absurd h HK.out⟩, .inl rfl, H2.out.low⟩
      · have hpb := list_ne hp
        have HP : Hid (¬ p = p') := hp
        clear hp
        go_enter Tryd.func13, Tryd.ntmps13
        go_wp2_with fail
        refine (HCA.out _ H0.out.low).mono ?_
        rintro e w1 ⟨rfl, hb1⟩
        have H1 : Hid (TwoIn w w1 (shA st p k a n c) (shA st' p' k' b m d)) := H0.out.below hb1
        obtain ⟨a0, a1, a2, a3⟩ := cells_4 H1.out.pa
        obtain ⟨b0, b1, b2, b3⟩ := cells_4 H1.out.pb
        clear hb1
        go_wp2_with fail
        refine (HCB.out _ H1.out.low).mono ?_
        rintro e w2 ⟨rfl, hb2⟩
        have H2 : Hid (TwoIn w w2 (shA st p k a n c) (shA st' p' k' b m d)) := H1.out.below hb2
        clear hb2 a0 a1 a2 a3 b0 b1 b2 b3
        obtain ⟨a0, a1, a2, a3⟩ := cells_4 H2.out.pa
        obtain ⟨b0, b1, b2, b3⟩ := cells_4 H2.out.pb
        go_wp2_with fail
        go_ret2
        exact ⟨none, 0, 1, [], rfl, ⟨fun h => absurd ⟨HGA.out, HGB.out⟩ h, fun _ _ _ => ⟨rfl, rfl⟩, fun _ _ h _ => absurd h HP.out⟩, .inl rfl, H2.out.low⟩
    · rw [chk_bad gb] at HCB
      have HGB : Hid (¬ Good st' p' k' lb) := gb
      clear gb
      go_enter Tryd.func13, Tryd.ntmps13
      go_wp2_with fail
      refine (HCA.out _ H0.out.low).mono ?_
      rintro e w1 ⟨rfl, hb1⟩
      have H1 : Hid (TwoIn w w1 (shA st p k a n c) (shA st' p' k' b m d)) := H0.out.below hb1
      obtain ⟨b0, b1, b2, b3⟩ := cells_4 H1.out.pb
      clear hb1
      go_wp2_with fail
      refine (HCB.out _ H1.out.low).mono ?_
      rintro e w2 ⟨rfl, hb2⟩
      have HB2 : Hid (Below w.heap.size w w2) := trans2 H1.out.low hb2
      clear hb2 b0 b1 b2 b3
      go_wp2_with fail
      go_ret2
      exact ⟨none, 0, 51, [], rfl, ⟨fun _ => ⟨rfl, rfl⟩, fun _ h => absurd h HGB.out, fun _ h => absurd h HGB.out⟩, .inl rfl, HB2.out⟩
  · rw [chk_bad ga] at HCA
    have HGA : Hid (¬ Good st p k la) := ga
    clear ga
    go_enter Tryd.func13, Tryd.ntmps13
    go_wp2_with fail
    refine (HCA.out _ H0.out.low).mono ?_
    rintro e w1 ⟨rfl, hb1⟩
    have HB1 : Hid (Below w.heap.size w w1) := trans2 H0.out.low hb1
    clear hb1
    go_wp2_with fail
    go_ret2
    exact ⟨none, 0, 51, [], rfl, ⟨fun _ => ⟨rfl, rfl⟩, fun h => absurd h HGA.out, fun h => absurd h HGA.out⟩, .inl rfl, HB1.out⟩
end Go.Proofs.YtkmiemjjedbnaaaDoor
