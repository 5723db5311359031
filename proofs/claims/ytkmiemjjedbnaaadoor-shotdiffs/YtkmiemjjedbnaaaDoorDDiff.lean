/-
  shot: Diff.
-/
import Derived.Test.YtkmiemjjedbnaaaDoorDSized
namespace Go.Proofs.YtkmiemjjedbnaaaDoor
open Go.RowKit Classical
set_option linter.unusedVariables false
set_option linter.unusedSimpArgs false

set_option maxHeartbeats 6400000 in
set_option maxRecDepth 100000 in
theorem diff_any (st : Int) (p : ByteArray) (k : Int) (a : Option Addr) (c n : Nat) (la : List SeenT) (st' : Int) (p' : ByteArray) (k' : Int) (b : Option Addr) (d m : Nat) (lb : List SeenT) (w : World) (hg : Ground w) (hsa : Ss w a la) (hsb : Ss w b lb) (hna : la.length = n) (hnb : lb.length = m) (hca : n ≤ c) (hcb : m ≤ d) (h0a : a = none → c = 0) (h0b : b = none → d = 0) (hla : n ≤ 1000) (hlb : m ≤ 1000) (oka : ∀ s ∈ la, s.p.size ≤ maxLen) (okb : ∀ s ∈ lb, s.p.size ≤ maxLen) :
    Calls Tryd.prog 9 #[.agg (shA st p k a n c), .agg (shA st' p' k' b m d)] w fun e w' => ∃ va vc code D, e = .returned (.tuple #[.slice va D.length vc, .int .i64 code]) ∧ DRes st p k la st' p' k' lb code D ∧ Hs w' va D ∧ Below w.heap.size w w' := by
  have hma : n ≤ maxLen := by unfold maxLen; omega
  have hmb : m ≤ maxLen := by unfold maxLen; omega
  have HCA : Hid (∀ w', Below w.heap.size w w' → Calls Tryd.prog 17 #[.agg (shA st p k a n c)] w' fun e w'' => e = .returned (.int .i64 (chk st p k la)) ∧ Below w'.heap.size w' w'') := fun w' hb => by
    subst hna
    exact check_any st p k a c la w' (hg.below hb) (hsa.below hb) oka hma hca
  have HCB : Hid (∀ w', Below w.heap.size w w' → Calls Tryd.prog 17 #[.agg (shA st' p' k' b m d)] w' fun e w'' => e = .returned (.int .i64 (chk st' p' k' lb)) ∧ Below w'.heap.size w' w'') := fun w' hb => by
    subst hnb
    exact check_any st' p' k' b d lb w' (hg.below hb) (hsb.below hb) okb hmb hcb
  have H0 : Hid (TwoIn w _ (shA st p k a n c) (shA st' p' k' b m d)) := TwoIn.start w (shA st p k a n c) (shA st' p' k' b m d)
  have HSA : Hid (Ss w a la) := hsa
  have HSB : Hid (Ss w b lb) := hsb
  have HNA : Hid (la.length = n) := hna
  have HNB : Hid (lb.length = m) := hnb
  have H0A : Hid (a = none → c = 0) := h0a
  have H0B : Hid (b = none → d = 0) := h0b
  clear hg hsa hsb hna hnb oka okb hma hmb h0a h0b
  by_cases ga : Good st p k la
  · rw [chk_good ga] at HCA
    have HGA : Hid (Good st p k la) := ga
    have SA : Hid (Sized st p k la) := sized_of_good ga
    clear ga
    by_cases gb : Good st' p' k' lb
    · rw [chk_good gb] at HCB
      have HGB : Hid (Good st' p' k' lb) := gb
      have SB : Hid (Sized st' p' k' lb) := sized_of_good gb
      clear gb
      by_cases hp : p = p'
      · subst hp
        by_cases hk : k = k'
        · subst hk
          go_enter Tryd.func9, Tryd.ntmps9
          go_wp2_with fail
          refine (HCA.out _ H0.out.low).mono ?_
          rintro e w1 ⟨rfl, hb1⟩
          have H1 : Hid (TwoIn w w1 (shA st p k a n c) (shA st' p k b m d)) := H0.out.below hb1
          obtain ⟨a0, a1, a2, a3⟩ := cells_4 H1.out.pa
          obtain ⟨b0, b1, b2, b3⟩ := cells_4 H1.out.pb
          clear hb1
          go_wp2_with fail
          refine (HCB.out _ H1.out.low).mono ?_
          rintro e w2 ⟨rfl, hb2⟩
          have H2 : Hid (TwoIn w w2 (shA st p k a n c) (shA st' p k b m d)) := H1.out.below hb2
          clear hb2 a0 a1 a2 a3 b0 b1 b2 b3
          obtain ⟨a0, a1, a2, a3⟩ := cells_4 H2.out.pa
          obtain ⟨b0, b1, b2, b3⟩ := cells_4 H2.out.pb
          go_wp2_with fail
          refine (parting_any a b c d n m la lb w2 (HSA.out.below H2.out.low) (HSB.out.below H2.out.low) HNA.out HNB.out hca hcb H0A.out H0B.out (by have := SA.out.len; rw [HNA.out] at this; exact this) (by have := SB.out.len; rw [HNB.out] at this; exact this) SA.out.asc SB.out.asc SA.out.each SB.out.each).mono ?_
          rintro e w3 ⟨vg, vt, rfl, hps⟩
          obtain ⟨G, hG⟩ : ∃ G, goneL la lb = G := ⟨_, rfl⟩
          obtain ⟨T, hT⟩ : ∃ T, turnL la lb = T := ⟨_, rfl⟩
          rw [hG, hT] at hps
          have HG : Hid (goneL la lb = G) := hG
          have HT : Hid (turnL la lb = T) := hT
          have HGL : Hid (G.length ≤ 64) := by show _ ≤ _; rw [← hG]; exact Nat.le_trans (goneL_len _ _) SA.out.len
          have HTL : Hid (T.length ≤ 64) := by show _ ≤ _; rw [← hT]; exact Nat.le_trans (turnL_len _ _) SB.out.len
          have HPS : Hid (PS w2 w3 vg vt G T) := hps
          have HRV : Hid _ := reverse_any w2.heap.size vg G w3 hps.g
          clear hps hG hT a0 a1 a2 a3 b0 b1 b2 b3
          go_wp2_with fail
          refine Calls.mono HRV.out ?_
          rintro e w4 ⟨rfl, hr4, hc4⟩
          have HP4 : Hid (PS w2 w4 vg vt G.reverse T) := ⟨by rw [List.length_reverse]; exact hr4, owns_same HPS.out.t (fun j hj => hc4.block j (HPS.out.t.lt j hj).2 (fun e => HPS.out.ne j e hj)), HPS.out.ne, HPS.out.low.trans (hc4.below HPS.out.low.size (fun j _ hj => (HPS.out.g.lt j hj).1))⟩
          obtain ⟨ta, tc, rfl, htn⟩ := owns_form HPS.out.t
          have HH4 : Hid (Hs w4 ta T) := hs_of_row HP4.out.t
          have HN4 : Hid (ta = none → tc = 0) := htn
          have HGR : Hid (w4.ownsRow w2.heap.size 49 4 vg G.length (chCs G.reverse)) := hr4
          clear hr4 hc4 htn
          go_wp2_with (first
            | (at_builtin; refine wpList_appC rfl _ _ rfl w2.heap.size vg G.length (chCs G.reverse) rfl HGR.out ta T.length tc T rfl rfl HH4.out HN4.out (by have := HGL.out; have := HTL.out; omega) HP4.out.low.size ?_
               intro v5 w5 ho hg hat
               obtain ⟨va, vc, rfl, _⟩ := owns_form ho
               have HD5 : Hid (Hs w5 va (G.reverse ++ T)) := hs_of_row (by rw [chCs_append]; exact ho)
               have HB5 : Hid (Below w.heap.size w w5) := trans2 H2.out.low (HP4.out.low.trans ((Below.refl _ _).grown hg HP4.out.low.size (fun j hj => (HP4.out.g.lt j hj).1)))
               clear ho hg hat)
            | fail)
          go_ret2
          refine ⟨va, vc, 0, G.reverse ++ T, by rw [List.length_append, List.length_reverse]; rfl, ⟨fun h => absurd ⟨HGA.out, HGB.out⟩ h, fun _ _ h => absurd ⟨rfl, rfl⟩ h, fun _ _ _ _ => ⟨rfl, by rw [HG.out, HT.out]⟩⟩, HD5.out, HB5.out⟩
        · have hkb : (k != k') = true := by simpa using hk
          have HK : Hid (¬ k = k') := hk
          clear hk
          go_enter Tryd.func9, Tryd.ntmps9
          go_wp2_with fail
          refine (HCA.out _ H0.out.low).mono ?_
          rintro e w1 ⟨rfl, hb1⟩
          have H1 : Hid (TwoIn w w1 (shA st p k a n c) (shA st' p k' b m d)) := H0.out.below hb1
          obtain ⟨a0, a1, a2, a3⟩ := cells_4 H1.out.pa
          obtain ⟨b0, b1, b2, b3⟩ := cells_4 H1.out.pb
          clear hb1
          go_wp2_with fail
          refine (HCB.out _ H1.out.low).mono ?_
          rintro e w2 ⟨rfl, hb2⟩
          have H2 : Hid (TwoIn w w2 (shA st p k a n c) (shA st' p k' b m d)) := H1.out.below hb2
          clear hb2 a0 a1 a2 a3 b0 b1 b2 b3
          obtain ⟨a0, a1, a2, a3⟩ := cells_4 H2.out.pa
          obtain ⟨b0, b1, b2, b3⟩ := cells_4 H2.out.pb
          go_wp2_with fail
          go_ret2
          exact ⟨none, 0, 1, [], rfl, ⟨fun h => absurd ⟨HGA.out, HGB.out⟩ h, fun _ _ _ => ⟨rfl, rfl⟩, fun _ _ _ h => absurd h HK.out⟩, .inl rfl, H2.out.low⟩
      · have hpb := list_ne hp
        have HP : Hid (¬ p = p') := hp
        clear hp
        go_enter Tryd.func9, Tryd.ntmps9
        go_wp2_with fail
        refine (HCA.out _ H0.out.low).mono ?_
        rintro e w1 ⟨rfl, hb1⟩
        have H1 : Hid (TwoIn w w1 (shA st p k a n c) (shA st' p' k' b m d)) := H0.out.below hb1
        obtain ⟨a0, a1, a2, a3⟩ := cells_4 H1.out.pa
        obtain ⟨b0, b1, b2, b3⟩ := cells_4 H1.out.pb
        clear hb1
        go_wp2_with fail
        refine (HCB.out _ H1.out.low).mono ?_
        rintro e w2 ⟨rfl, hb2⟩
        have H2 : Hid (TwoIn w w2 (shA st p k a n c) (shA st' p' k' b m d)) := H1.out.below hb2
        clear hb2 a0 a1 a2 a3 b0 b1 b2 b3
        obtain ⟨a0, a1, a2, a3⟩ := cells_4 H2.out.pa
        obtain ⟨b0, b1, b2, b3⟩ := cells_4 H2.out.pb
        go_wp2_with fail
        go_ret2
        exact ⟨none, 0, 1, [], rfl, ⟨fun h => absurd ⟨HGA.out, HGB.out⟩ h, fun _ _ _ => ⟨rfl, rfl⟩, fun _ _ h _ => absurd h HP.out⟩, .inl rfl, H2.out.low⟩
    · rw [chk_bad gb] at HCB
      have HGB : Hid (¬ Good st' p' k' lb) := gb
      clear gb
      go_enter Tryd.func9, Tryd.ntmps9
      go_wp2_with fail
      refine (HCA.out _ H0.out.low).mono ?_
      rintro e w1 ⟨rfl, hb1⟩
      have H1 : Hid (TwoIn w w1 (shA st p k a n c) (shA st' p' k' b m d)) := H0.out.below hb1
      obtain ⟨b0, b1, b2, b3⟩ := cells_4 H1.out.pb
      clear hb1
      go_wp2_with fail
      refine (HCB.out _ H1.out.low).mono ?_
      rintro e w2 ⟨rfl, hb2⟩
      have HB2 : Hid (Below w.heap.size w w2) := trans2 H1.out.low hb2
      clear hb2 b0 b1 b2 b3
      go_wp2_with fail
      go_ret2
      exact ⟨none, 0, 51, [], rfl, ⟨fun _ => ⟨rfl, rfl⟩, fun _ h => absurd h HGB.out, fun _ h => absurd h HGB.out⟩, .inl rfl, HB2.out⟩
  · rw [chk_bad ga] at HCA
    have HGA : Hid (¬ Good st p k la) := ga
    clear ga
    go_enter Tryd.func9, Tryd.ntmps9
    go_wp2_with fail
    refine (HCA.out _ H0.out.low).mono ?_
    rintro e w1 ⟨rfl, hb1⟩
    have HB1 : Hid (Below w.heap.size w w1) := trans2 H0.out.low hb1
    clear hb1
    go_wp2_with fail
    go_ret2
    exact ⟨none, 0, 51, [], rfl, ⟨fun _ => ⟨rfl, rfl⟩, fun h => absurd h HGA.out, fun h => absurd h HGA.out⟩, .inl rfl, HB1.out⟩
end Go.Proofs.YtkmiemjjedbnaaaDoor
