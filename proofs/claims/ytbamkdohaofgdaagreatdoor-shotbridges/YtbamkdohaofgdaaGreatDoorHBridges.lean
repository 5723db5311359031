import Derived.Test.YtbamkdohaofgdaaGreatDoorDSized
import Derived.Test.YtbamkdohaofgdaaGreatDoorHAwake
import Derived.Test.YtbamkdohaofgdaaGreatDoorHBridP
import Derived.Test.YtbamkdohaofgdaaGreatDoorSEqual
import Derived.Test.YtbamkdohaofgdaaGreatDoorGFoldAC
namespace Go.Proofs.YtbamkdohaofgdaaGreatDoor
open Go.RowKit Classical
set_option linter.unusedVariables false
set_option linter.unusedSimpArgs false

theorem row_capD {w : World} {B e s n cap : Nat} {a : Option Addr} {xs : List Value} (h : w.ownsRow B e s (.slice a n cap) n xs) : n ≤ cap ∧ (a = none → cap = 0) := by
  rcases h.2 with ⟨h0, _⟩ | ⟨g', cap', cur, hv, _, _, hn, _⟩
  · simp only [Value.slice.injEq] at h0
    exact ⟨by omega, fun _ => h0.2.2⟩
  · simp only [Value.slice.injEq] at hv
    exact ⟨by omega, fun ha => by rw [hv.1] at ha; cases ha⟩
set_option maxHeartbeats 6400000 in
set_option maxRecDepth 100000 in
theorem diff_anyC (st : Int) (p : ByteArray) (k : Int) (a : Option Addr) (c n : Nat) (la : List SeenT) (st' : Int) (p' : ByteArray) (k' : Int) (b : Option Addr) (d m : Nat) (lb : List SeenT) (w : World) (hg : Ground w) (hsa : Ss w a la) (hsb : Ss w b lb) (hna : la.length = n) (hnb : lb.length = m) (hca : n ≤ c) (hcb : m ≤ d) (h0a : a = none → c = 0) (h0b : b = none → d = 0) (hla : n ≤ 1000) (hlb : m ≤ 1000) (oka : ∀ s ∈ la, s.p.size ≤ maxLen) (okb : ∀ s ∈ lb, s.p.size ≤ maxLen) :
    Calls Tryz.prog 6 #[.agg (shA st p k a n c), .agg (shA st' p' k' b m d)] w fun e w' => ∃ va vc code D, e = .returned (.tuple #[.slice va D.length vc, .int .i64 code]) ∧ DRes st p k la st' p' k' lb code D ∧ Hs w' va D ∧ Below w.heap.size w w' ∧ D.length ≤ vc ∧ (va = none → vc = 0) := by
  have hma : n ≤ maxLen := by unfold maxLen; omega
  have hmb : m ≤ maxLen := by unfold maxLen; omega
  have HCA : Hid (∀ w', Below w.heap.size w w' → Calls Tryz.prog 14 #[.agg (shA st p k a n c)] w' fun e w'' => e = .returned (.int .i64 (chk st p k la)) ∧ Below w'.heap.size w' w'') := fun w' hb => by
    subst hna
    exact check_any st p k a c la w' (hg.below hb) (hsa.below hb) oka hma hca
  have HCB : Hid (∀ w', Below w.heap.size w w' → Calls Tryz.prog 14 #[.agg (shA st' p' k' b m d)] w' fun e w'' => e = .returned (.int .i64 (chk st' p' k' lb)) ∧ Below w'.heap.size w' w'') := fun w' hb => by
    subst hnb
    exact check_any st' p' k' b d lb w' (hg.below hb) (hsb.below hb) okb hmb hcb
  have H0 : Hid (TwoIn w _ (shA st p k a n c) (shA st' p' k' b m d)) := TwoIn.start w (shA st p k a n c) (shA st' p' k' b m d)
  have HSA : Hid (Ss w a la) := hsa
  have HSB : Hid (Ss w b lb) := hsb
  have HNA : Hid (la.length = n) := hna
  have HNB : Hid (lb.length = m) := hnb
  have H0A : Hid (a = none → c = 0) := h0a
  have H0B : Hid (b = none → d = 0) := h0b
  clear hg hsa hsb hna hnb oka okb hma hmb h0a h0b
  by_cases ga : Good st p k la
  · rw [chk_good ga] at HCA
    have HGA : Hid (Good st p k la) := ga
    have SA : Hid (Sized st p k la) := sized_of_good ga
    clear ga
    by_cases gb : Good st' p' k' lb
    · rw [chk_good gb] at HCB
      have HGB : Hid (Good st' p' k' lb) := gb
      have SB : Hid (Sized st' p' k' lb) := sized_of_good gb
      clear gb
      by_cases hp : p = p'
      · subst hp
        by_cases hk : k = k'
        · subst hk
          go_enter Tryz.func6, Tryz.ntmps6
          go_wp2_with fail
          refine (HCA.out _ H0.out.low).mono ?_
          rintro e w1 ⟨rfl, hb1⟩
          have H1 : Hid (TwoIn w w1 (shA st p k a n c) (shA st' p k b m d)) := H0.out.below hb1
          obtain ⟨a0, a1, a2, a3⟩ := cells_4 H1.out.pa
          obtain ⟨b0, b1, b2, b3⟩ := cells_4 H1.out.pb
          clear hb1
          go_wp2_with fail
          refine (HCB.out _ H1.out.low).mono ?_
          rintro e w2 ⟨rfl, hb2⟩
          have H2 : Hid (TwoIn w w2 (shA st p k a n c) (shA st' p k b m d)) := H1.out.below hb2
          clear hb2 a0 a1 a2 a3 b0 b1 b2 b3
          obtain ⟨a0, a1, a2, a3⟩ := cells_4 H2.out.pa
          obtain ⟨b0, b1, b2, b3⟩ := cells_4 H2.out.pb
          go_wp2_with fail
          refine (parting_any a b c d n m la lb w2 (HSA.out.below H2.out.low) (HSB.out.below H2.out.low) HNA.out HNB.out hca hcb H0A.out H0B.out (by have := SA.out.len; rw [HNA.out] at this; exact this) (by have := SB.out.len; rw [HNB.out] at this; exact this) SA.out.asc SB.out.asc SA.out.each SB.out.each).mono ?_
          rintro e w3 ⟨vg, vt, rfl, hps⟩
          obtain ⟨G, hG⟩ : ∃ G, goneL la lb = G := ⟨_, rfl⟩
          obtain ⟨T, hT⟩ : ∃ T, turnL la lb = T := ⟨_, rfl⟩
          rw [hG, hT] at hps
          have HG : Hid (goneL la lb = G) := hG
          have HT : Hid (turnL la lb = T) := hT
          have HGL : Hid (G.length ≤ 64) := by show _ ≤ _; rw [← hG]; exact Nat.le_trans (goneL_len _ _) SA.out.len
          have HTL : Hid (T.length ≤ 64) := by show _ ≤ _; rw [← hT]; exact Nat.le_trans (turnL_len _ _) SB.out.len
          have HPS : Hid (PS w2 w3 vg vt G T) := hps
          have HRV : Hid _ := reverse_any w2.heap.size vg G w3 hps.g
          clear hps hG hT a0 a1 a2 a3 b0 b1 b2 b3
          go_wp2_with fail
          refine Calls.mono HRV.out ?_
          rintro e w4 ⟨rfl, hr4, hc4⟩
          have HP4 : Hid (PS w2 w4 vg vt G.reverse T) := ⟨by rw [List.length_reverse]; exact hr4, owns_same HPS.out.t (fun j hj => hc4.block j (HPS.out.t.lt j hj).2 (fun e => HPS.out.ne j e hj)), HPS.out.ne, HPS.out.low.trans (hc4.below HPS.out.low.size (fun j _ hj => (HPS.out.g.lt j hj).1))⟩
          obtain ⟨ta, tc, rfl, htn⟩ := owns_form HPS.out.t
          have HH4 : Hid (Hs w4 ta T) := hs_of_row HP4.out.t
          have HN4 : Hid (ta = none → tc = 0) := htn
          have HGR : Hid (w4.ownsRow w2.heap.size 46 4 vg G.length (chCs G.reverse)) := hr4
          clear hr4 hc4 htn
          go_wp2_with (first
            | (at_builtin; refine wpList_appC rfl _ _ rfl w2.heap.size vg G.length (chCs G.reverse) rfl HGR.out ta T.length tc T rfl rfl HH4.out HN4.out (by have := HGL.out; have := HTL.out; omega) HP4.out.low.size ?_
               intro v5 w5 ho hg hat
               obtain ⟨va, vc, rfl, _⟩ := owns_form ho
               have HD5 : Hid (Hs w5 va (G.reverse ++ T)) := hs_of_row (by rw [chCs_append]; exact ho)
               have HB5 : Hid (Below w.heap.size w w5) := trans2 H2.out.low (HP4.out.low.trans ((Below.refl _ _).grown hg HP4.out.low.size (fun j hj => (HP4.out.g.lt j hj).1)))
               have HC5 : Hid (G.length + T.length ≤ vc ∧ (va = none → vc = 0)) := row_capD ho
               clear ho hg hat)
            | fail)
          go_ret2
          refine ⟨va, vc, 0, G.reverse ++ T, by rw [List.length_append, List.length_reverse]; rfl, ⟨fun h => absurd ⟨HGA.out, HGB.out⟩ h, fun _ _ h => absurd ⟨rfl, rfl⟩ h, fun _ _ _ _ => ⟨rfl, by rw [HG.out, HT.out]⟩⟩, HD5.out, HB5.out, by rw [List.length_append, List.length_reverse]; exact HC5.out.1, HC5.out.2⟩
        · have hkb : (k != k') = true := by simpa using hk
          have HK : Hid (¬ k = k') := hk
          clear hk
          go_enter Tryz.func6, Tryz.ntmps6
          go_wp2_with fail
          refine (HCA.out _ H0.out.low).mono ?_
          rintro e w1 ⟨rfl, hb1⟩
          have H1 : Hid (TwoIn w w1 (shA st p k a n c) (shA st' p k' b m d)) := H0.out.below hb1
          obtain ⟨a0, a1, a2, a3⟩ := cells_4 H1.out.pa
          obtain ⟨b0, b1, b2, b3⟩ := cells_4 H1.out.pb
          clear hb1
          go_wp2_with fail
          refine (HCB.out _ H1.out.low).mono ?_
          rintro e w2 ⟨rfl, hb2⟩
          have H2 : Hid (TwoIn w w2 (shA st p k a n c) (shA st' p k' b m d)) := H1.out.below hb2
          clear hb2 a0 a1 a2 a3 b0 b1 b2 b3
          obtain ⟨a0, a1, a2, a3⟩ := cells_4 H2.out.pa
          obtain ⟨b0, b1, b2, b3⟩ := cells_4 H2.out.pb
          go_wp2_with fail
          go_ret2
          exact ⟨none, 0, 1, [], rfl, ⟨fun h => absurd ⟨HGA.out, HGB.out⟩ h, fun _ _ _ => ⟨rfl, rfl⟩, fun _ _ _ h => absurd h HK.out⟩, .inl rfl, H2.out.low, Nat.le_refl _, fun _ => rfl⟩
      · have hpb := list_ne hp
        have HP : Hid (¬ p = p') := hp
        clear hp
        go_enter Tryz.func6, Tryz.ntmps6
        go_wp2_with fail
        refine (HCA.out _ H0.out.low).mono ?_
        rintro e w1 ⟨rfl, hb1⟩
        have H1 : Hid (TwoIn w w1 (shA st p k a n c) (shA st' p' k' b m d)) := H0.out.below hb1
        obtain ⟨a0, a1, a2, a3⟩ := cells_4 H1.out.pa
        obtain ⟨b0, b1, b2, b3⟩ := cells_4 H1.out.pb
        clear hb1
        go_wp2_with fail
        refine (HCB.out _ H1.out.low).mono ?_
        rintro e w2 ⟨rfl, hb2⟩
        have H2 : Hid (TwoIn w w2 (shA st p k a n c) (shA st' p' k' b m d)) := H1.out.below hb2
        clear hb2 a0 a1 a2 a3 b0 b1 b2 b3
        obtain ⟨a0, a1, a2, a3⟩ := cells_4 H2.out.pa
        obtain ⟨b0, b1, b2, b3⟩ := cells_4 H2.out.pb
        go_wp2_with fail
        go_ret2
        exact ⟨none, 0, 1, [], rfl, ⟨fun h => absurd ⟨HGA.out, HGB.out⟩ h, fun _ _ _ => ⟨rfl, rfl⟩, fun _ _ h _ => absurd h HP.out⟩, .inl rfl, H2.out.low, Nat.le_refl _, fun _ => rfl⟩
    · rw [chk_bad gb] at HCB
      have HGB : Hid (¬ Good st' p' k' lb) := gb
      clear gb
      go_enter Tryz.func6, Tryz.ntmps6
      go_wp2_with fail
      refine (HCA.out _ H0.out.low).mono ?_
      rintro e w1 ⟨rfl, hb1⟩
      have H1 : Hid (TwoIn w w1 (shA st p k a n c) (shA st' p' k' b m d)) := H0.out.below hb1
      obtain ⟨b0, b1, b2, b3⟩ := cells_4 H1.out.pb
      clear hb1
      go_wp2_with fail
      refine (HCB.out _ H1.out.low).mono ?_
      rintro e w2 ⟨rfl, hb2⟩
      have HB2 : Hid (Below w.heap.size w w2) := trans2 H1.out.low hb2
      clear hb2 b0 b1 b2 b3
      go_wp2_with fail
      go_ret2
      exact ⟨none, 0, 51, [], rfl, ⟨fun _ => ⟨rfl, rfl⟩, fun _ h => absurd h HGB.out, fun _ h => absurd h HGB.out⟩, .inl rfl, HB2.out, Nat.le_refl _, fun _ => rfl⟩
  · rw [chk_bad ga] at HCA
    have HGA : Hid (¬ Good st p k la) := ga
    clear ga
    go_enter Tryz.func6, Tryz.ntmps6
    go_wp2_with fail
    refine (HCA.out _ H0.out.low).mono ?_
    rintro e w1 ⟨rfl, hb1⟩
    have HB1 : Hid (Below w.heap.size w w1) := trans2 H0.out.low hb1
    clear hb1
    go_wp2_with fail
    go_ret2
    exact ⟨none, 0, 51, [], rfl, ⟨fun _ => ⟨rfl, rfl⟩, fun h => absurd h HGA.out, fun h => absurd h HGA.out⟩, .inl rfl, HB1.out, Nat.le_refl _, fun _ => rfl⟩
end Go.Proofs.YtbamkdohaofgdaaGreatDoor
namespace Go.Proofs.YtbamkdohaofgdaaGreatDoor
open Go.RowKit Classical
set_option linter.unusedVariables false
set_option linter.unusedSimpArgs false

theorem Hs.take {w : World} {a : Option Addr} {l : List ChT} (h : Hs w a l) (q : Nat) : Hs w a (l.take q) := by
  rcases h with rfl | ⟨b, o, ha, hlt, hs⟩
  · exact .inl (by simp)
  · refine .inr ⟨b, o, ha, hlt, fun i s hi j x hx => hs i s ?_ j x hx⟩
    rw [List.getElem?_take] at hi
    split at hi
    · exact hi
    · cases hi
theorem Hs.drop {w : World} {b o : Nat} {l : List ChT} (h : Hs w (some ⟨b, o, none⟩) l) (q : Nat) : Hs w (some ⟨b, o + q * 4, none⟩) (l.drop q) := by
  rcases h with rfl | ⟨b', o', ha, hlt, hs⟩
  · exact .inl (by simp)
  · cases ha
    refine .inr ⟨b, o + q * 4, rfl, hlt, fun i s hi j x hx => ?_⟩
    rw [List.getElem?_drop] at hi
    have := hs _ s hi j x hx
    rw [show o + q * 4 + i * 4 + j = o + (q + i) * 4 + j by omega]
    exact this
theorem diff_cases {st : Int} {p : ByteArray} {k : Int} {la : List SeenT} {st' : Int} {p' : ByteArray} {k' : Int} {lb : List SeenT} {code : Int} {D : List ChT} (h : DRes st p k la st' p' k' lb code D) : (code ≠ 0 ∧ D = []) ∨ (Good st p k la ∧ Good st' p' k' lb ∧ p = p' ∧ k = k' ∧ code = 0 ∧ D = diffD la lb) := by
  by_cases hg : Good st p k la ∧ Good st' p' k' lb
  · by_cases he : p = p' ∧ k = k'
    · obtain ⟨h1, h2⟩ := h.all hg.1 hg.2 he.1 he.2
      exact .inr ⟨hg.1, hg.2, he.1, he.2, h1, h2⟩
    · obtain ⟨rfl, h2⟩ := h.apart hg.1 hg.2 he
      exact .inl ⟨by decide, h2⟩
  · obtain ⟨rfl, h2⟩ := h.bad hg
    exact .inl ⟨by decide, h2⟩
theorem sameV (st : Int) (p : ByteArray) (k : Int) (la : Option Addr) (L lc : Nat) (l : List SeenT) (st' : Int) (lb : Option Addr) (L' ld : Nat) (l' : List SeenT) (w : World) (hL : l.length = L) (hL' : l'.length = L') (hs : Ss w la l) (ht : Ss w lb l') (hm : L ≤ maxLen) :
    Calls Tryz.prog 8 #[.agg (shA st p k la L lc), .agg (shA st' p k lb L' ld)] w fun e w' => e = .returned (.bool (decide (l = l'))) ∧ Below w.heap.size w w' := by
  subst hL hL'
  refine Calls.mono (same_any ⟨st, p, k, la, lc, l⟩ ⟨st', p, k, lb, ld, l'⟩ w hs ht hm) ?_
  rintro e w' ⟨rfl, h⟩
  exact ⟨by simp, h⟩
theorem ss_keepP4 {w : World} {g : Nat} {a : Option Addr} {l : List SeenT} {x0 x1 x2 x3 : Value} (h : Ss w a l) (hne : ∀ b o, a = some ⟨b, o, none⟩ → b ≠ g) : Ss (put_4 w g x0 x1 x2 x3) a l := by
  rcases h with h | ⟨b, o, ha, hlt, hs⟩
  · exact .inl h
  · have hb := hne b o ha
    obtain ⟨ob, hob⟩ : ∃ ob, w.heap[b]? = some ob := ⟨_, Array.getElem?_eq_getElem hlt⟩
    have hk := fillO_4 (x0 := x0) (x1 := x1) (x2 := x2) (x3 := x3) hob hb
    refine .inr ⟨b, o, ha, lt_of_blk hk, fun i s hi j x hx => ?_⟩
    rw [World.cell?_of_block (w := w) (by rw [hk, hob])]
    exact hs i s hi j x hx
theorem len_left (D : List ChT) (q : Nat) (hq : q < D.length) : (D.take q ++ D.drop (q + 1)).length = D.length - 1 := by simp; omega

set_option maxHeartbeats 12800000 in
set_option maxRecDepth 100000 in
theorem bridges_walk (V : World) (s t : ShT) (stamp : Int) (hs : Ss V s.a s.l) (hok : ∀ x ∈ s.l, x.p.size ≤ maxLen) (hcap : s.l.length ≤ s.c) (hn0 : s.a = none → s.c = 0) (ht : Ss V t.a t.l) (htok : ∀ x ∈ t.l, x.p.size ≤ maxLen) (htcap : t.l.length ≤ t.c) (htn0 : t.a = none → t.c = 0) (hg : T.GroundT V) :
    Calls Tryz.prog 3 #[s.val, t.val, .int .i64 stamp] V fun e w' => e = .returned (.bool true) ∧ Below V.heap.size V w' := by
  obtain ⟨st, p, k, a, c, la⟩ := s
  obtain ⟨st', p', k', b, d, lb⟩ := t
  obtain ⟨n, hn⟩ : ∃ n, la.length = n := ⟨_, rfl⟩
  obtain ⟨m, hm⟩ : ∃ m, lb.length = m := ⟨_, rfl⟩
  have H0 : Hid (TwoIn V _ (shA st p k a n c) (shA st' p' k' b m d)) := TwoIn.start V (shA st p k a n c) (shA st' p' k' b m d)
  have HG : Hid (T.GroundT V) := hg
  have HS : Hid (Ss V a la) := hs
  have HT : Hid (Ss V b lb) := ht
  have HOK : Hid ((∀ x ∈ la, x.p.size ≤ maxLen) ∧ ∀ x ∈ lb, x.p.size ≤ maxLen) := ⟨hok, htok⟩
  have HCAP : Hid (n ≤ c ∧ m ≤ d) := ⟨by rw [← hn]; exact hcap, by rw [← hm]; exact htcap⟩
  have HN0 : Hid ((a = none → c = 0) ∧ (b = none → d = 0)) := ⟨hn0, htn0⟩
  have HN : Hid (la.length = n) := hn
  have HM : Hid (lb.length = m) := hm
  have HSA : Hid (∀ w, Calls Tryz.prog 5 #[.agg (shA st p k a n c)] w fun e w' => e = .returned (.bool (decide ((n : Int) ≤ 70))) ∧ Below w.heap.size w w') := fun w => by
    have := small_any ⟨st, p, k, a, c, la⟩ w
    subst hn
    exact this
  have HSB : Hid (∀ w, Calls Tryz.prog 5 #[.agg (shA st' p' k' b m d)] w fun e w' => e = .returned (.bool (decide ((m : Int) ≤ 70))) ∧ Below w.heap.size w w') := fun w => by
    have := small_any ⟨st', p', k', b, d, lb⟩ w
    subst hm
    exact this
  have HAW : Hid (∀ w', Below V.heap.size V w' → Calls Tryz.prog 4 #[] w' fun e w'' => e = .returned (.bool true) ∧ Below w'.heap.size w' w'') := fun w' hb => awake_any w' (hg.below hb)
  show Calls Tryz.prog 3 #[.agg (shA st p k a la.length c), .agg (shA st' p' k' b lb.length d), .int .i64 stamp] V _
  rw [hn, hm]
  clear hs hok hcap hn0 ht htok htcap htn0 hg hn hm
  by_cases h70 : (n : Int) ≤ 70
  case neg =>
    rw [decide_eq_false h70] at HSA
    clear h70
    go_enter Tryz.func3, Tryz.ntmps3
    go_wp2_with fail
    refine (HAW.out _ H0.out.low).mono ?_
    rintro e w1 ⟨rfl, hb1⟩
    have H1 : Hid (TwoIn V w1 (shA st p k a n c) (shA st' p' k' b m d)) := H0.out.below hb1
    obtain ⟨a0, a1, a2, a3⟩ := T.cells_4 H1.out.pa
    obtain ⟨b0, b1, b2, b3⟩ := T.cells_4 H1.out.pb
    clear hb1
    go_wp2_with fail
    refine (HSA.out _).mono ?_
    rintro e w2 ⟨rfl, hb2⟩
    go_wp2_with fail
    go_ret
    exact ⟨rfl, trans2 H1.out.low hb2⟩
  have H70 : Hid (n ≤ 70) := by show n ≤ 70; omega
  rw [decide_eq_true h70] at HSA
  clear h70
  by_cases h71 : (m : Int) ≤ 70
  case neg =>
    rw [decide_eq_false h71] at HSB
    clear h71
    go_enter Tryz.func3, Tryz.ntmps3
    go_wp2_with fail
    refine (HAW.out _ H0.out.low).mono ?_
    rintro e w1 ⟨rfl, hb1⟩
    have H1 : Hid (TwoIn V w1 (shA st p k a n c) (shA st' p' k' b m d)) := H0.out.below hb1
    obtain ⟨a0, a1, a2, a3⟩ := T.cells_4 H1.out.pa
    obtain ⟨b0, b1, b2, b3⟩ := T.cells_4 H1.out.pb
    clear hb1
    go_wp2_with fail
    refine (HSA.out _).mono ?_
    rintro e w2 ⟨rfl, hb2⟩
    have H2 : Hid (TwoIn V w2 (shA st p k a n c) (shA st' p' k' b m d)) := H1.out.below hb2
    clear hb2 a0 a1 a2 a3 b0 b1 b2 b3
    obtain ⟨a0, a1, a2, a3⟩ := T.cells_4 H2.out.pa
    obtain ⟨b0, b1, b2, b3⟩ := T.cells_4 H2.out.pb
    go_wp2_with fail
    refine (HSB.out _).mono ?_
    rintro e w3 ⟨rfl, hb3⟩
    go_wp2_with fail
    go_ret
    exact ⟨rfl, trans2 H2.out.low hb3⟩
  have H71 : Hid (m ≤ 70) := by show m ≤ 70; omega
  rw [decide_eq_true h71] at HSB
  clear h71
  go_enter Tryz.func3, Tryz.ntmps3
  go_wp2_with fail
  refine (HAW.out _ H0.out.low).mono ?_
  rintro e w1 ⟨rfl, hb1⟩
  have H1 : Hid (TwoIn V w1 (shA st p k a n c) (shA st' p' k' b m d)) := H0.out.below hb1
  obtain ⟨a0, a1, a2, a3⟩ := T.cells_4 H1.out.pa
  obtain ⟨b0, b1, b2, b3⟩ := T.cells_4 H1.out.pb
  clear hb1
  go_wp2_with fail
  refine (HSA.out _).mono ?_
  rintro e w2 ⟨rfl, hb2⟩
  have H2 : Hid (TwoIn V w2 (shA st p k a n c) (shA st' p' k' b m d)) := H1.out.below hb2
  clear hb2 a0 a1 a2 a3 b0 b1 b2 b3
  obtain ⟨a0, a1, a2, a3⟩ := T.cells_4 H2.out.pa
  obtain ⟨b0, b1, b2, b3⟩ := T.cells_4 H2.out.pb
  go_wp2_with fail
  refine (HSB.out _).mono ?_
  rintro e w3 ⟨rfl, hb3⟩
  have H3 : Hid (TwoIn V w3 (shA st p k a n c) (shA st' p' k' b m d)) := H2.out.below hb3
  clear hb3 a0 a1 a2 a3 b0 b1 b2 b3
  obtain ⟨a0, a1, a2, a3⟩ := T.cells_4 H3.out.pa
  obtain ⟨b0, b1, b2, b3⟩ := T.cells_4 H3.out.pb
  go_wp2_with fail
  refine Calls.mono (diff_anyC st p k a c n la st' p' k' b d m lb w3 (HG.out.toGround.below H3.out.low) (HS.out.below H3.out.low) (HT.out.below H3.out.low) HN.out HM.out HCAP.out.1 HCAP.out.2 HN0.out.1 HN0.out.2 (by have := H70.out; omega) (by have := H71.out; omega) HOK.out.1 HOK.out.2) ?_
  rintro e w4 ⟨va, vc, code, D, rfl, hD, hh4, hb4, hvc, hvn⟩
  have H4 : Hid (TwoIn V w4 (shA st p k a n c) (shA st' p' k' b m d)) := H3.out.below hb4
  have HH : Hid (Hs w4 va D) := hh4
  have HV : Hid (D.length ≤ vc ∧ (va = none → vc = 0)) := ⟨hvc, hvn⟩
  have HDL : Hid (D.length ≤ 1000) := hD.len
  clear hb4 hh4 hvc hvn a0 a1 a2 a3 b0 b1 b2 b3
  rcases diff_cases hD with ⟨hc0, hD0⟩ | ⟨ga, gb, hpe, hke, hc0, hD0⟩
  · have hcb : (code != 0) = true := by simpa using hc0
    have hl0 : D.length = 0 := by rw [hD0]; rfl
    rw [hl0]
    clear hD hc0 hD0
    go_wp2_with fail
    go_ret
    exact ⟨rfl, H4.out.low⟩
  · subst hpe hke hc0
    have HGA : Hid (Good st p k la) := ga
    have HGB : Hid (Good st' p k lb) := gb
    have HDD : Hid (D = diffD la lb) := hD0
    clear hD ga gb hD0
    obtain ⟨a0, a1, a2, a3⟩ := T.cells_4 H4.out.pa
    obtain ⟨b0, b1, b2, b3⟩ := T.cells_4 H4.out.pb
    by_cases hst : stamp ≤ st
    · go_wp2_with fail
      go_ret
      exact ⟨rfl, H4.out.low⟩
    · by_cases hst2 : 2147483647 < stamp
      · go_wp2_with fail
        go_ret
        exact ⟨rfl, H4.out.low⟩
      · have HST : Hid (¬ (stamp ≤ st ∨ 2147483647 < stamp)) := by show ¬ _; omega
        obtain ⟨dn, hdn⟩ : ∃ dn, D.length = dn := ⟨_, rfl⟩
        have HDN : Hid (D.length = dn) := hdn
        rw [hdn]
        clear hdn
        go_wp2_with fail
        refine Calls.mono (fold_any st p k a n c la stamp va dn vc D w4 (HG.out.toGround.below H4.out.low) (HS.out.below H4.out.low) HN.out HOK.out.1 (by have := H70.out; unfold maxLen; omega) HCAP.out.1 HH.out HDN.out (by rw [← HDN.out]; exact HDL.out)) ?_
        rintro e w5 ⟨st5, p5, k5, la5, lc5, l5, code5, he5, hs5, hr5, hl5, hb5, hc5⟩
        obtain ⟨rfl, rfl, rfl, rfl, rfl⟩ := hr5.ok HGA.out HST.out lb (by rw [HDD.out]; exact diff_fold HGA.out HGB.out)
        rw [HM.out] at he5
        subst he5
        have H5 : Hid (TwoIn V w5 (shA st p5 k5 a n c) (shA st' p5 k5 b m d)) := H4.out.below hb5
        have HS5 : Hid (Ss w5 la5 l5) := hs5
        have HB45 : Hid (Below w4.heap.size w4 w5) := hb5
        clear hs5 hr5 hl5 hb5 hc5 a0 a1 a2 a3 b0 b1 b2 b3
        have H6 : Hid (TwoIn V (w5.alloc (.cells (shA st5 p5 k5 la5 m lc5) 24)) (shA st p5 k5 a n c) (shA st' p5 k5 b m d)) := H5.out.below ((Below.refl _ _).alloc (Nat.le_refl _) _)
        have HX6 : Hid ((w5.alloc (.cells (shA st5 p5 k5 la5 m lc5) 24)).heap[w5.heap.size]? = some (.cells (shA st5 p5 k5 la5 m lc5) 24 (0, 0))) := heap_alloc_new _ _
        obtain ⟨a0, a1, a2, a3⟩ := T.cells_4 H6.out.pa
        obtain ⟨b0, b1, b2, b3⟩ := T.cells_4 H6.out.pb
        obtain ⟨c0, c1, c2, c3⟩ := T.cells_4 HX6.out
        go_wp2_with fail
        refine (sameV st5 p5 k5 la5 m lc5 l5 st' b m d l5 _ HM.out HM.out (HS5.out.below ((Below.refl _ _).alloc (Nat.le_refl _) _)) (HT.out.below H6.out.low) (by have := H71.out; unfold maxLen; omega)).mono ?_
        rintro e w7 ⟨rfl, hb7⟩
        have H7 : Hid (TwoIn V w7 (shA st p5 k5 a n c) (shA st' p5 k5 b m d)) := H6.out.below hb7
        have HX7 : Hid (w7.heap[w5.heap.size]? = some (.cells (shA st5 p5 k5 la5 m lc5) 24 (0, 0))) := T.kept_block hb7 HX6.out
        have HB47 : Hid (Below w4.heap.size w4 w7) := trans2 (trans2 HB45.out ((Below.refl _ _).alloc (Nat.le_refl _) _)) hb7
        clear hb7 a0 a1 a2 a3 b0 b1 b2 b3 c0 c1 c2 c3
        rw [decide_eq_true rfl]
        obtain ⟨a0, a1, a2, a3⟩ := T.cells_4 H7.out.pa
        obtain ⟨b0, b1, b2, b3⟩ := T.cells_4 H7.out.pb
        obtain ⟨c0, c1, c2, c3⟩ := T.cells_4 HX7.out
        go_wp2_with fail
        refine (sameV st p5 k5 a n c la st' b m d l5 w7 HN.out HM.out (HS.out.below H7.out.low) (HT.out.below H7.out.low) (by have := H70.out; unfold maxLen; omega)).mono ?_
        rintro e w8 ⟨rfl, hb8⟩
        have H8 : Hid (TwoIn V w8 (shA st p5 k5 a n c) (shA st' p5 k5 b m d)) := H7.out.below hb8
        have HX8 : Hid (w8.heap[w5.heap.size]? = some (.cells (shA st5 p5 k5 la5 m lc5) 24 (0, 0))) := T.kept_block hb8 HX7.out
        have HB48 : Hid (Below w4.heap.size w4 w8) := trans2 HB47.out hb8
        have HSB : Hid (w4.heap.size ≤ w5.heap.size) := HB45.out.size
        clear hb8 a0 a1 a2 a3 b0 b1 b2 b3 c0 c1 c2 c3
        have HEQ : Hid (decide (la = l5) = decide ((dn : Int) = 0)) := by
          show _ = _
          have h1 := diff_none HGA.out HGB.out
          rw [← HDD.out] at h1
          have h2 : D = [] ↔ (dn : Int) = 0 := by
            rw [← HDN.out]
            constructor
            · intro e; rw [e]; rfl
            · intro e; exact List.eq_nil_of_length_eq_zero (by omega)
          rw [Bool.eq_iff_iff]
          simp only [decide_eq_true_eq]
          exact h1.trans h2
        rw [HEQ.out]
        have HFIN : Hid (∀ (q : Nat) (mm : List SeenT), q < dn → foldF k5 p5 la (D.take q ++ D.drop (q + 1)) = some mm → mm ≠ l5) := fun q mm hq hf => by
          have hq' : q < (diffD la l5).length := by rw [← HDD.out, HDN.out]; exact hq
          rw [HDD.out] at hf
          exact diff_left HGA.out HGB.out hq' hf
        clear HX7 HX6 H6 H7 HB47 HB45
        obtain ⟨r, hr⟩ : ∃ r : Bool, decide ((dn : Int) = 0) = r := ⟨_, rfl⟩
        have hz1 : ((dn : Int) == 0) = r := by rw [← hr]; rfl
        rw [hr]
        clear hr HEQ
        obtain ⟨a0, a1, a2, a3⟩ := T.cells_4 H8.out.pa
        obtain ⟨b0, b1, b2, b3⟩ := T.cells_4 H8.out.pb
        obtain ⟨c0, c1, c2, c3⟩ := T.cells_4 HX8.out
        go_wp2_with fail
        clear a0 a1 a2 a3 b0 b1 b2 b3 c0 c1 c2 c3
        have hdm : dn ≤ 1000 := by rw [← HDN.out]; exact HDL.out
        go_loopw [11] (fun i wr => ∃ q : Nat, i = .int .i64 q ∧ q ≤ dn ∧ Hid (TwoIn V wr (shA st p5 k5 a n c) (shA st' p5 k5 b m d)) ∧ Hid (Below w4.heap.size w4 wr) ∧ (∃ s9 p9 k9 a9 n9 c9, Hid (wr.heap[w5.heap.size]? = some (.cells (shA s9 p9 k9 a9 n9 c9) 24 (0, 0))))) (fun i _ => dn - (intOf i).toNat)
        case atStart => exact ⟨0, rfl, Nat.zero_le _, H8, HB48, ⟨_, _, _, _, _, _, HX8⟩⟩
        case round =>
          obtain ⟨q, rfl, hq, HI, HB, ⟨s9, p9, k9, a9, n9, c9, HX⟩⟩ := hrel
          by_cases hlt : q < dn
          · have hqi : (q : Int) < (dn : Int) := by omega
            by_cases h12 : (q : Int) < 12
            · obtain ⟨vb, vo, rfl⟩ : ∃ vb vo, va = some ⟨vb, vo, none⟩ := by
                rcases HH.out with h | ⟨vb, vo, h, _⟩
                · have := HDN.out; rw [h] at this; simp at this; omega
                · exact ⟨vb, vo, h⟩
              have hv1 : (q : Int) ≤ (vc : Int) := by have := HV.out.1; rw [HDN.out] at this; omega
              have hv2 : ((q : Int) + 1) ≤ (dn : Int) := by omega
              have HHr : Hid (Hs wr (some ⟨vb, vo, none⟩) D) := HH.out.below HB.out
              obtain ⟨a0, a1, a2, a3⟩ := T.cells_4 HI.out.pa
              obtain ⟨b0, b1, b2, b3⟩ := T.cells_4 HI.out.pb
              obtain ⟨c0, c1, c2, c3⟩ := T.cells_4 HX.out
              -- LOOP
              by_cases hvc : q + 1 = vc
              · have HVQ : Hid (vc = q + 1) := hvc.symm
                have hvc' : (vc = q + 1) = True := eq_true hvc.symm
                clear hvc
                go_wp2_with (first
                  | (at_builtin; refine wpList_appC rfl _ _ rfl wr.heap.size (.slice none 0 0) 0 [] rfl (World.ownsRow_nil _ _ _ _) (some ⟨vb, vo, none⟩) q vc (D.take q) rfl (by rw [List.length_take, HDN.out]; omega) (HHr.out.take q) (fun e => by cases e) (by rw [List.length_take]; omega) (Nat.le_refl _) ?_
                     intro v10 w10 ho10 hg10 hat10
                     have HO10 : Hid (w10.ownsRow wr.heap.size 46 4 v10 (0 + (D.take q).length) ([] ++ chCs (D.take q))) := ho10
                     have HK10 : Hid (Below wr.heap.size wr w10) := ((Below.refl _ _).grown hg10 (Nat.le_refl _) (fun j hj => by cases hj))
                     have HC10 : Hid ((0 + (D.take q).length) ≤ 1000) := by show _ ≤ _; rw [List.length_take]; omega
                     clear ho10 hg10 hat10)
                  | (at_builtin; refine wpList_appC rfl _ _ rfl wr.heap.size v10 (0 + (D.take q).length) ([] ++ chCs (D.take q)) rfl HO10.out (some ⟨vb, vo, none⟩) (dn - (q + 1)) (vc - (q + 1)) (D.drop (q + 1)) rfl (by rw [List.length_drop, HDN.out]) (by rw [List.drop_of_length_le (by have h1 := HV.out.1; have h2 := HVQ.out; omega)]; exact .inl rfl) (fun e => by cases e) (by rw [List.length_drop, HDN.out]; have := HC10.out; omega) HK10.out.size ?_
                     intro v11 w11 ho11 hg11 hat11
                     obtain ⟨va11, vc11, rfl, _⟩ := owns_form ho11
                     have HK11 : Hid (Below wr.heap.size wr w11) := HK10.out.trans ((Below.refl _ _).grown hg11 HK10.out.size (fun j hj => (HO10.out.lt j hj).1))
                     have HI11 : Hid (TwoIn V w11 (shA st p5 k5 a n c) (shA st' p5 k5 b m d)) := HI.out.below HK11.out
                     have HX11 : Hid (w11.heap[w5.heap.size]? = some (.cells (shA s9 p9 k9 a9 n9 c9) 24 (0, 0))) := T.kept_block HK11.out HX.out
                     have HH11 : Hid (Hs w11 va11 (D.take q ++ D.drop (q + 1))) := hs_of_row (by rw [chCs_append]; exact ho11)
                     obtain ⟨mn, hmn⟩ : ∃ mn, 0 + (D.take q).length + (D.drop (q + 1)).length = mn := ⟨_, rfl⟩
                     have HMN : Hid ((D.take q ++ D.drop (q + 1)).length = mn) := by show _ = _; rw [List.length_append, ← hmn]; omega
                     have HML : Hid (mn ≤ 1000) := by show _ ≤ _; rw [← hmn, List.length_take, List.length_drop]; have := HDN.out; omega
                     rw [hmn]
                     clear ho11 hg11 hat11 hmn a0 a1 a2 a3 b0 b1 b2 b3 c0 c1 c2 c3
                     obtain ⟨a0, a1, a2, a3⟩ := T.cells_4 HI11.out.pa
                     obtain ⟨b0, b1, b2, b3⟩ := T.cells_4 HI11.out.pb
                     obtain ⟨c0, c1, c2, c3⟩ := T.cells_4 HX11.out)
                  | fail)
                refine Calls.mono (fold_any st p5 k5 a n c la st5 va11 mn vc11 (D.take q ++ D.drop (q + 1)) w11 (HG.out.toGround.below HI11.out.low) (HS.out.below HI11.out.low) HN.out HOK.out.1 (by have := H70.out; unfold maxLen; omega) HCAP.out.1 HH11.out HMN.out HML.out) ?_
                rintro e w12 ⟨st12, p12, k12, la12, lc12, l12, code12, he12, hs12, hr12, hl12, hb12, hc12⟩
                have HI12 : Hid (TwoIn V w12 (shA st p5 k5 a n c) (shA st' p5 k5 b m d)) := HI11.out.below hb12
                have HX12 : Hid (w12.heap[w5.heap.size]? = some (.cells (shA s9 p9 k9 a9 n9 c9) 24 (0, 0))) := T.kept_block hb12 HX11.out
                have HB12 : Hid (Below w4.heap.size w4 w12) := trans2 (trans2 HB.out HK11.out) hb12
                have HS12 : Hid (Ss w12 la12 l12) := hs12
                have HL12 : Hid (l12.length ≤ 64) := hl12.1
                have HLO : Hid (∀ b o, la12 = some ⟨b, o, none⟩ → b ≠ w5.heap.size) := fun b o e he => by have := hl12.2 b o e; have h1 := lt_of_blk HX11.out; omega
                obtain ⟨L12, hL12⟩ : ∃ L12, l12.length = L12 := ⟨_, rfl⟩
                have HLL : Hid (l12.length = L12) := hL12
                rw [hL12] at he12
                clear hs12 hl12 hb12 hc12 hL12 a0 a1 a2 a3 b0 b1 b2 b3 c0 c1 c2 c3
                obtain ⟨c0, c1, c2, c3⟩ := T.cells_4 HX12.out
                have f12 := free_4 HX12.out
                have HX13 : Hid ((put_4 w12 w5.heap.size (.int .i64 st12) (.string p12) (.int .i64 k12) (.slice la12 L12 lc12)).heap[w5.heap.size]? = some (.cells (shA st12 p12 k12 la12 L12 lc12) 24 (0, 0))) := fill_4 HX12.out
                have HC13 : Hid (Below w5.heap.size w12 (put_4 w12 w5.heap.size (.int .i64 st12) (.string p12) (.int .i64 k12) (.slice la12 L12 lc12))) := fillB_4 (Below.refl _ _) (Nat.le_refl _)
                have HB13 : Hid (Below w4.heap.size w4 (put_4 w12 w5.heap.size (.int .i64 st12) (.string p12) (.int .i64 k12) (.slice la12 L12 lc12))) := HB12.out.trans (HC13.out.mono HSB.out)
                have HVW : Hid (V.heap.size + 1 < w5.heap.size) := lt_of_blk H5.out.pb
                have HI13 : Hid (TwoIn V (put_4 w12 w5.heap.size (.int .i64 st12) (.string p12) (.int .i64 k12) (.slice la12 L12 lc12)) (shA st p5 k5 a n c) (shA st' p5 k5 b m d)) := ⟨fillO_4 HI12.out.pa (by have := HVW.out; omega), fillO_4 HI12.out.pb (by have := HVW.out; omega), HI12.out.low.trans (HC13.out.mono (by have := HVW.out; omega))⟩
                cases hF : foldF k5 p5 la (D.take q ++ D.drop (q + 1)) with
                | none =>
                  have h50 := (hr12.no HGA.out HST.out hF).1
                  subst h50
                  subst he12
                  clear hr12 hF
                  go_wp2_with fail
                  go_roundw
                  case rel => exact ⟨q + 1, by go_num, by omega, HI13, HB13, ⟨_, _, _, _, _, _, HX13⟩⟩
                  case measure => simp [intOf]; omega
                | some mm =>
                  obtain ⟨rfl, rfl, rfl, rfl, rfl⟩ := hr12.ok HGA.out HST.out mm hF
                  subst he12
                  have HNE : Hid (decide (l12 = l5) = false) := by
                    show _ = _
                    rw [decide_eq_false]
                    exact HFIN.out q l12 (by omega) hF
                  clear hr12 hF
                  obtain ⟨d0, d1, d2, d3⟩ := T.cells_4 HX13.out
                  obtain ⟨b0, b1, b2, b3⟩ := T.cells_4 HI13.out.pb
                  have HSM : Hid (∀ w', w' = put_4 w12 w5.heap.size (.int .i64 st12) (.string p12) (.int .i64 k12) (.slice la12 L12 lc12) → Calls Tryz.prog 8 #[.agg (shA st12 p12 k12 la12 L12 lc12), .agg (shA st' p12 k12 b m d)] w' fun e w'' => e = .returned (.bool false) ∧ Below w'.heap.size w' w'') := fun w' hw => by
                    subst hw
                    have := sameV st12 p12 k12 la12 L12 lc12 l12 st' b m d l5 _ HLL.out HM.out (ss_keepP4 HS12.out HLO.out) (HT.out.below HI13.out.low) (by have := HL12.out; rw [HLL.out] at this; unfold maxLen; omega)
                    rw [HNE.out] at this
                    exact this
                  go_wp2_with fail
                  refine (HSM.out _ rfl).mono ?_
                  rintro e w14 ⟨rfl, hb14⟩
                  have HI14 : Hid (TwoIn V w14 (shA st p12 k12 a n c) (shA st' p12 k12 b m d)) := HI13.out.below hb14
                  have HX14 : Hid (w14.heap[w5.heap.size]? = some (.cells (shA st12 p12 k12 la12 L12 lc12) 24 (0, 0))) := T.kept_block hb14 HX13.out
                  have HB14 : Hid (Below w4.heap.size w4 w14) := trans2 HB13.out hb14
                  clear hb14 b0 b1 b2 b3 c0 c1 c2 c3 d0 d1 d2 d3
                  go_wp2_with fail
                  go_roundw
                  case rel => exact ⟨q + 1, by go_num, by omega, HI14, HB14, ⟨_, _, _, _, _, _, HX14⟩⟩
                  case measure => simp [intOf]; omega
              · have hvc' : ¬ vc = q + 1 := fun e => hvc e.symm
                go_wp2_with (first
                  | (at_builtin; refine wpList_appC rfl _ _ rfl wr.heap.size (.slice none 0 0) 0 [] rfl (World.ownsRow_nil _ _ _ _) (some ⟨vb, vo, none⟩) q vc (D.take q) rfl (by rw [List.length_take, HDN.out]; omega) (HHr.out.take q) (fun e => by cases e) (by rw [List.length_take]; omega) (Nat.le_refl _) ?_
                     intro v10 w10 ho10 hg10 hat10
                     have HO10 : Hid (w10.ownsRow wr.heap.size 46 4 v10 (0 + (D.take q).length) ([] ++ chCs (D.take q))) := ho10
                     have HK10 : Hid (Below wr.heap.size wr w10) := ((Below.refl _ _).grown hg10 (Nat.le_refl _) (fun j hj => by cases hj))
                     have HC10 : Hid ((0 + (D.take q).length) ≤ 1000) := by show _ ≤ _; rw [List.length_take]; omega
                     clear ho10 hg10 hat10)
                  | (at_builtin; refine wpList_appC rfl _ _ rfl wr.heap.size v10 (0 + (D.take q).length) ([] ++ chCs (D.take q)) rfl HO10.out (some ⟨vb, vo + (q + 1) * 4, none⟩) (dn - (q + 1)) (vc - (q + 1)) (D.drop (q + 1)) rfl (by rw [List.length_drop, HDN.out]) ((HHr.out.below HK10.out).drop (q + 1)) (fun e => by cases e) (by rw [List.length_drop, HDN.out]; have := HC10.out; omega) HK10.out.size ?_
                     intro v11 w11 ho11 hg11 hat11
                     obtain ⟨va11, vc11, rfl, _⟩ := owns_form ho11
                     have HK11 : Hid (Below wr.heap.size wr w11) := HK10.out.trans ((Below.refl _ _).grown hg11 HK10.out.size (fun j hj => (HO10.out.lt j hj).1))
                     have HI11 : Hid (TwoIn V w11 (shA st p5 k5 a n c) (shA st' p5 k5 b m d)) := HI.out.below HK11.out
                     have HX11 : Hid (w11.heap[w5.heap.size]? = some (.cells (shA s9 p9 k9 a9 n9 c9) 24 (0, 0))) := T.kept_block HK11.out HX.out
                     have HH11 : Hid (Hs w11 va11 (D.take q ++ D.drop (q + 1))) := hs_of_row (by rw [chCs_append]; exact ho11)
                     obtain ⟨mn, hmn⟩ : ∃ mn, 0 + (D.take q).length + (D.drop (q + 1)).length = mn := ⟨_, rfl⟩
                     have HMN : Hid ((D.take q ++ D.drop (q + 1)).length = mn) := by show _ = _; rw [List.length_append, ← hmn]; omega
                     have HML : Hid (mn ≤ 1000) := by show _ ≤ _; rw [← hmn, List.length_take, List.length_drop]; have := HDN.out; omega
                     rw [hmn]
                     clear ho11 hg11 hat11 hmn a0 a1 a2 a3 b0 b1 b2 b3 c0 c1 c2 c3
                     obtain ⟨a0, a1, a2, a3⟩ := T.cells_4 HI11.out.pa
                     obtain ⟨b0, b1, b2, b3⟩ := T.cells_4 HI11.out.pb
                     obtain ⟨c0, c1, c2, c3⟩ := T.cells_4 HX11.out)
                  | fail)
                refine Calls.mono (fold_any st p5 k5 a n c la st5 va11 mn vc11 (D.take q ++ D.drop (q + 1)) w11 (HG.out.toGround.below HI11.out.low) (HS.out.below HI11.out.low) HN.out HOK.out.1 (by have := H70.out; unfold maxLen; omega) HCAP.out.1 HH11.out HMN.out HML.out) ?_
                rintro e w12 ⟨st12, p12, k12, la12, lc12, l12, code12, he12, hs12, hr12, hl12, hb12, hc12⟩
                have HI12 : Hid (TwoIn V w12 (shA st p5 k5 a n c) (shA st' p5 k5 b m d)) := HI11.out.below hb12
                have HX12 : Hid (w12.heap[w5.heap.size]? = some (.cells (shA s9 p9 k9 a9 n9 c9) 24 (0, 0))) := T.kept_block hb12 HX11.out
                have HB12 : Hid (Below w4.heap.size w4 w12) := trans2 (trans2 HB.out HK11.out) hb12
                have HS12 : Hid (Ss w12 la12 l12) := hs12
                have HL12 : Hid (l12.length ≤ 64) := hl12.1
                have HLO : Hid (∀ b o, la12 = some ⟨b, o, none⟩ → b ≠ w5.heap.size) := fun b o e he => by have := hl12.2 b o e; have h1 := lt_of_blk HX11.out; omega
                obtain ⟨L12, hL12⟩ : ∃ L12, l12.length = L12 := ⟨_, rfl⟩
                have HLL : Hid (l12.length = L12) := hL12
                rw [hL12] at he12
                clear hs12 hl12 hb12 hc12 hL12 a0 a1 a2 a3 b0 b1 b2 b3 c0 c1 c2 c3
                obtain ⟨c0, c1, c2, c3⟩ := T.cells_4 HX12.out
                have f12 := free_4 HX12.out
                have HX13 : Hid ((put_4 w12 w5.heap.size (.int .i64 st12) (.string p12) (.int .i64 k12) (.slice la12 L12 lc12)).heap[w5.heap.size]? = some (.cells (shA st12 p12 k12 la12 L12 lc12) 24 (0, 0))) := fill_4 HX12.out
                have HC13 : Hid (Below w5.heap.size w12 (put_4 w12 w5.heap.size (.int .i64 st12) (.string p12) (.int .i64 k12) (.slice la12 L12 lc12))) := fillB_4 (Below.refl _ _) (Nat.le_refl _)
                have HB13 : Hid (Below w4.heap.size w4 (put_4 w12 w5.heap.size (.int .i64 st12) (.string p12) (.int .i64 k12) (.slice la12 L12 lc12))) := HB12.out.trans (HC13.out.mono HSB.out)
                have HVW : Hid (V.heap.size + 1 < w5.heap.size) := lt_of_blk H5.out.pb
                have HI13 : Hid (TwoIn V (put_4 w12 w5.heap.size (.int .i64 st12) (.string p12) (.int .i64 k12) (.slice la12 L12 lc12)) (shA st p5 k5 a n c) (shA st' p5 k5 b m d)) := ⟨fillO_4 HI12.out.pa (by have := HVW.out; omega), fillO_4 HI12.out.pb (by have := HVW.out; omega), HI12.out.low.trans (HC13.out.mono (by have := HVW.out; omega))⟩
                cases hF : foldF k5 p5 la (D.take q ++ D.drop (q + 1)) with
                | none =>
                  have h50 := (hr12.no HGA.out HST.out hF).1
                  subst h50
                  subst he12
                  clear hr12 hF
                  go_wp2_with fail
                  go_roundw
                  case rel => exact ⟨q + 1, by go_num, by omega, HI13, HB13, ⟨_, _, _, _, _, _, HX13⟩⟩
                  case measure => simp [intOf]; omega
                | some mm =>
                  obtain ⟨rfl, rfl, rfl, rfl, rfl⟩ := hr12.ok HGA.out HST.out mm hF
                  subst he12
                  have HNE : Hid (decide (l12 = l5) = false) := by
                    show _ = _
                    rw [decide_eq_false]
                    exact HFIN.out q l12 (by omega) hF
                  clear hr12 hF
                  obtain ⟨d0, d1, d2, d3⟩ := T.cells_4 HX13.out
                  obtain ⟨b0, b1, b2, b3⟩ := T.cells_4 HI13.out.pb
                  have HSM : Hid (∀ w', w' = put_4 w12 w5.heap.size (.int .i64 st12) (.string p12) (.int .i64 k12) (.slice la12 L12 lc12) → Calls Tryz.prog 8 #[.agg (shA st12 p12 k12 la12 L12 lc12), .agg (shA st' p12 k12 b m d)] w' fun e w'' => e = .returned (.bool false) ∧ Below w'.heap.size w' w'') := fun w' hw => by
                    subst hw
                    have := sameV st12 p12 k12 la12 L12 lc12 l12 st' b m d l5 _ HLL.out HM.out (ss_keepP4 HS12.out HLO.out) (HT.out.below HI13.out.low) (by have := HL12.out; rw [HLL.out] at this; unfold maxLen; omega)
                    rw [HNE.out] at this
                    exact this
                  go_wp2_with fail
                  refine (HSM.out _ rfl).mono ?_
                  rintro e w14 ⟨rfl, hb14⟩
                  have HI14 : Hid (TwoIn V w14 (shA st p12 k12 a n c) (shA st' p12 k12 b m d)) := HI13.out.below hb14
                  have HX14 : Hid (w14.heap[w5.heap.size]? = some (.cells (shA st12 p12 k12 la12 L12 lc12) 24 (0, 0))) := T.kept_block hb14 HX13.out
                  have HB14 : Hid (Below w4.heap.size w4 w14) := trans2 HB13.out hb14
                  clear hb14 b0 b1 b2 b3 c0 c1 c2 c3 d0 d1 d2 d3
                  go_wp2_with fail
                  go_roundw
                  case rel => exact ⟨q + 1, by go_num, by omega, HI14, HB14, ⟨_, _, _, _, _, _, HX14⟩⟩
                  case measure => simp [intOf]; omega
            · go_wp2_with fail
              go_ret
              exact ⟨rfl, HI.out.low⟩
          · obtain rfl : q = dn := by omega
            have hge : ¬ (q : Int) < (q : Int) := by omega
            go_wp2_with fail
            go_ret
            exact ⟨rfl, HI.out.low⟩
end Go.Proofs.YtbamkdohaofgdaaGreatDoor
