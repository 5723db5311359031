import Derived.Test.YtbamkdohaofgdaaGreatDoorDSized
import Derived.Test.YtbamkdohaofgdaaGreatDoorEShot
import Derived.Test.YtbamkdohaofgdaaGreatDoorCGood
import Derived.Test.YtbamkdohaofgdaaGreatDoorHTake
import Derived.Test.YtbamkdohaofgdaaGreatDoorTPlay3
import Derived.Test.YtbamkdohaofgdaaGreatDoorGFoldAC
import Derived.Test.YtbamkdohaofgdaaGreatDoorFBack
import Derived.Test.YtbamkdohaofgdaaGreatDoorSEqual
import Derived.Test.YtbamkdohaofgdaaGreatDoorFDecC
namespace Go.Proofs.YtbamkdohaofgdaaGreatDoor
open Go.RowKit Classical
set_option linter.unusedVariables false
set_option linter.unusedSimpArgs false

set_option maxHeartbeats 6400000 in
set_option maxRecDepth 100000 in
theorem diff_any (st : Int) (p : ByteArray) (k : Int) (a : Option Addr) (c n : Nat) (la : List SeenT) (st' : Int) (p' : ByteArray) (k' : Int) (b : Option Addr) (d m : Nat) (lb : List SeenT) (w : World) (hg : Ground w) (hsa : Ss w a la) (hsb : Ss w b lb) (hna : la.length = n) (hnb : lb.length = m) (hca : n ≤ c) (hcb : m ≤ d) (h0a : a = none → c = 0) (h0b : b = none → d = 0) (hla : n ≤ 1000) (hlb : m ≤ 1000) (oka : ∀ s ∈ la, s.p.size ≤ maxLen) (okb : ∀ s ∈ lb, s.p.size ≤ maxLen) :
    Calls Tryz.prog 6 #[.agg (shA st p k a n c), .agg (shA st' p' k' b m d)] w fun e w' => ∃ va vc code D, e = .returned (.tuple #[.slice va D.length vc, .int .i64 code]) ∧ DRes st p k la st' p' k' lb code D ∧ Hs w' va D ∧ Below w.heap.size w w' := by
  have hma : n ≤ maxLen := by unfold maxLen; omega
  have hmb : m ≤ maxLen := by unfold maxLen; omega
  have HCA : Hid (∀ w', Below w.heap.size w w' → Calls Tryz.prog 14 #[.agg (shA st p k a n c)] w' fun e w'' => e = .returned (.int .i64 (chk st p k la)) ∧ Below w'.heap.size w' w'') := fun w' hb => by
    subst hna
    exact check_any st p k a c la w' (hg.below hb) (hsa.below hb) oka hma hca
  have HCB : Hid (∀ w', Below w.heap.size w w' → Calls Tryz.prog 14 #[.agg (shA st' p' k' b m d)] w' fun e w'' => e = .returned (.int .i64 (chk st' p' k' lb)) ∧ Below w'.heap.size w' w'') := fun w' hb => by
    subst hnb
    exact check_any st' p' k' b d lb w' (hg.below hb) (hsb.below hb) okb hmb hcb
  have H0 : Hid (TwoIn w _ (shA st p k a n c) (shA st' p' k' b m d)) := TwoIn.start w (shA st p k a n c) (shA st' p' k' b m d)
  have HSA : Hid (Ss w a la) := hsa
  have HSB : Hid (Ss w b lb) := hsb
  have HNA : Hid (la.length = n) := hna
  have HNB : Hid (lb.length = m) := hnb
  have H0A : Hid (a = none → c = 0) := h0a
  have H0B : Hid (b = none → d = 0) := h0b
  clear hg hsa hsb hna hnb oka okb hma hmb h0a h0b
  by_cases ga : Good st p k la
  · rw [chk_good ga] at HCA
    have HGA : Hid (Good st p k la) := ga
    have SA : Hid (Sized st p k la) := sized_of_good ga
    clear ga
    by_cases gb : Good st' p' k' lb
    · rw [chk_good gb] at HCB
      have HGB : Hid (Good st' p' k' lb) := gb
      have SB : Hid (Sized st' p' k' lb) := sized_of_good gb
      clear gb
      by_cases hp : p = p'
      · subst hp
        by_cases hk : k = k'
        · subst hk
          go_enter Tryz.func6, Tryz.ntmps6
          go_wp2_with fail
          refine (HCA.out _ H0.out.low).mono ?_
          rintro e w1 ⟨rfl, hb1⟩
          have H1 : Hid (TwoIn w w1 (shA st p k a n c) (shA st' p k b m d)) := H0.out.below hb1
          obtain ⟨a0, a1, a2, a3⟩ := cells_4 H1.out.pa
          obtain ⟨b0, b1, b2, b3⟩ := cells_4 H1.out.pb
          clear hb1
          go_wp2_with fail
          refine (HCB.out _ H1.out.low).mono ?_
          rintro e w2 ⟨rfl, hb2⟩
          have H2 : Hid (TwoIn w w2 (shA st p k a n c) (shA st' p k b m d)) := H1.out.below hb2
          clear hb2 a0 a1 a2 a3 b0 b1 b2 b3
          obtain ⟨a0, a1, a2, a3⟩ := cells_4 H2.out.pa
          obtain ⟨b0, b1, b2, b3⟩ := cells_4 H2.out.pb
          go_wp2_with fail
          refine (parting_any a b c d n m la lb w2 (HSA.out.below H2.out.low) (HSB.out.below H2.out.low) HNA.out HNB.out hca hcb H0A.out H0B.out (by have := SA.out.len; rw [HNA.out] at this; exact this) (by have := SB.out.len; rw [HNB.out] at this; exact this) SA.out.asc SB.out.asc SA.out.each SB.out.each).mono ?_
          rintro e w3 ⟨vg, vt, rfl, hps⟩
          obtain ⟨G, hG⟩ : ∃ G, goneL la lb = G := ⟨_, rfl⟩
          obtain ⟨T, hT⟩ : ∃ T, turnL la lb = T := ⟨_, rfl⟩
          rw [hG, hT] at hps
          have HG : Hid (goneL la lb = G) := hG
          have HT : Hid (turnL la lb = T) := hT
          have HGL : Hid (G.length ≤ 64) := by show _ ≤ _; rw [← hG]; exact Nat.le_trans (goneL_len _ _) SA.out.len
          have HTL : Hid (T.length ≤ 64) := by show _ ≤ _; rw [← hT]; exact Nat.le_trans (turnL_len _ _) SB.out.len
          have HPS : Hid (PS w2 w3 vg vt G T) := hps
          have HRV : Hid _ := reverse_any w2.heap.size vg G w3 hps.g
          clear hps hG hT a0 a1 a2 a3 b0 b1 b2 b3
          go_wp2_with fail
          refine Calls.mono HRV.out ?_
          rintro e w4 ⟨rfl, hr4, hc4⟩
          have HP4 : Hid (PS w2 w4 vg vt G.reverse T) := ⟨by rw [List.length_reverse]; exact hr4, owns_same HPS.out.t (fun j hj => hc4.block j (HPS.out.t.lt j hj).2 (fun e => HPS.out.ne j e hj)), HPS.out.ne, HPS.out.low.trans (hc4.below HPS.out.low.size (fun j _ hj => (HPS.out.g.lt j hj).1))⟩
          obtain ⟨ta, tc, rfl, htn⟩ := owns_form HPS.out.t
          have HH4 : Hid (Hs w4 ta T) := hs_of_row HP4.out.t
          have HN4 : Hid (ta = none → tc = 0) := htn
          have HGR : Hid (w4.ownsRow w2.heap.size 46 4 vg G.length (chCs G.reverse)) := hr4
          clear hr4 hc4 htn
          go_wp2_with (first
            | (at_builtin; refine wpList_appC rfl _ _ rfl w2.heap.size vg G.length (chCs G.reverse) rfl HGR.out ta T.length tc T rfl rfl HH4.out HN4.out (by have := HGL.out; have := HTL.out; omega) HP4.out.low.size ?_
               intro v5 w5 ho hg hat
               obtain ⟨va, vc, rfl, _⟩ := owns_form ho
               have HD5 : Hid (Hs w5 va (G.reverse ++ T)) := hs_of_row (by rw [chCs_append]; exact ho)
               have HB5 : Hid (Below w.heap.size w w5) := trans2 H2.out.low (HP4.out.low.trans ((Below.refl _ _).grown hg HP4.out.low.size (fun j hj => (HP4.out.g.lt j hj).1)))
               clear ho hg hat)
            | fail)
          go_ret2
          refine ⟨va, vc, 0, G.reverse ++ T, by rw [List.length_append, List.length_reverse]; rfl, ⟨fun h => absurd ⟨HGA.out, HGB.out⟩ h, fun _ _ h => absurd ⟨rfl, rfl⟩ h, fun _ _ _ _ => ⟨rfl, by rw [HG.out, HT.out]⟩⟩, HD5.out, HB5.out⟩
        · have hkb : (k != k') = true := by simpa using hk
          have HK : Hid (¬ k = k') := hk
          clear hk
          go_enter Tryz.func6, Tryz.ntmps6
          go_wp2_with fail
          refine (HCA.out _ H0.out.low).mono ?_
          rintro e w1 ⟨rfl, hb1⟩
          have H1 : Hid (TwoIn w w1 (shA st p k a n c) (shA st' p k' b m d)) := H0.out.below hb1
          obtain ⟨a0, a1, a2, a3⟩ := cells_4 H1.out.pa
          obtain ⟨b0, b1, b2, b3⟩ := cells_4 H1.out.pb
          clear hb1
          go_wp2_with fail
          refine (HCB.out _ H1.out.low).mono ?_
          rintro e w2 ⟨rfl, hb2⟩
          have H2 : Hid (TwoIn w w2 (shA st p k a n c) (shA st' p k' b m d)) := H1.out.below hb2
          clear hb2 a0 a1 a2 a3 b0 b1 b2 b3
          obtain ⟨a0, a1, a2, a3⟩ := cells_4 H2.out.pa
          obtain ⟨b0, b1, b2, b3⟩ := cells_4 H2.out.pb
          go_wp2_with fail
          go_ret2
          exact ⟨none, 0, 1, [], rfl, ⟨fun h => absurd ⟨HGA.out, HGB.out⟩ h, fun _ _ _ => ⟨rfl, rfl⟩, fun _ _ _ h => absurd h HK.out⟩, .inl rfl, H2.out.low⟩
      · have hpb := list_ne hp
        have HP : Hid (¬ p = p') := hp
        clear hp
        go_enter Tryz.func6, Tryz.ntmps6
        go_wp2_with fail
        refine (HCA.out _ H0.out.low).mono ?_
        rintro e w1 ⟨rfl, hb1⟩
        have H1 : Hid (TwoIn w w1 (shA st p k a n c) (shA st' p' k' b m d)) := H0.out.below hb1
        obtain ⟨a0, a1, a2, a3⟩ := cells_4 H1.out.pa
        obtain ⟨b0, b1, b2, b3⟩ := cells_4 H1.out.pb
        clear hb1
        go_wp2_with fail
        refine (HCB.out _ H1.out.low).mono ?_
        rintro e w2 ⟨rfl, hb2⟩
        have H2 : Hid (TwoIn w w2 (shA st p k a n c) (shA st' p' k' b m d)) := H1.out.below hb2
        clear hb2 a0 a1 a2 a3 b0 b1 b2 b3
        obtain ⟨a0, a1, a2, a3⟩ := cells_4 H2.out.pa
        obtain ⟨b0, b1, b2, b3⟩ := cells_4 H2.out.pb
        go_wp2_with fail
        go_ret2
        exact ⟨none, 0, 1, [], rfl, ⟨fun h => absurd ⟨HGA.out, HGB.out⟩ h, fun _ _ _ => ⟨rfl, rfl⟩, fun _ _ h _ => absurd h HP.out⟩, .inl rfl, H2.out.low⟩
    · rw [chk_bad gb] at HCB
      have HGB : Hid (¬ Good st' p' k' lb) := gb
      clear gb
      go_enter Tryz.func6, Tryz.ntmps6
      go_wp2_with fail
      refine (HCA.out _ H0.out.low).mono ?_
      rintro e w1 ⟨rfl, hb1⟩
      have H1 : Hid (TwoIn w w1 (shA st p k a n c) (shA st' p' k' b m d)) := H0.out.below hb1
      obtain ⟨b0, b1, b2, b3⟩ := cells_4 H1.out.pb
      clear hb1
      go_wp2_with fail
      refine (HCB.out _ H1.out.low).mono ?_
      rintro e w2 ⟨rfl, hb2⟩
      have HB2 : Hid (Below w.heap.size w w2) := trans2 H1.out.low hb2
      clear hb2 b0 b1 b2 b3
      go_wp2_with fail
      go_ret2
      exact ⟨none, 0, 51, [], rfl, ⟨fun _ => ⟨rfl, rfl⟩, fun _ h => absurd h HGB.out, fun _ h => absurd h HGB.out⟩, .inl rfl, HB2.out⟩
  · rw [chk_bad ga] at HCA
    have HGA : Hid (¬ Good st p k la) := ga
    clear ga
    go_enter Tryz.func6, Tryz.ntmps6
    go_wp2_with fail
    refine (HCA.out _ H0.out.low).mono ?_
    rintro e w1 ⟨rfl, hb1⟩
    have HB1 : Hid (Below w.heap.size w w1) := trans2 H0.out.low hb1
    clear hb1
    go_wp2_with fail
    go_ret2
    exact ⟨none, 0, 51, [], rfl, ⟨fun _ => ⟨rfl, rfl⟩, fun h => absurd h HGA.out, fun h => absurd h HGA.out⟩, .inl rfl, HB1.out⟩
end Go.Proofs.YtbamkdohaofgdaaGreatDoor
namespace Go.Proofs.YtbamkdohaofgdaaGreatDoor.W
open Go.RowKit Classical
set_option linter.unusedVariables false
set_option linter.unusedSimpArgs false

theorem isP_size {x : ByteArray} (h : isP x = true) : x.size ≤ 102 := by
  obtain ⟨⟨c, xs⟩, hp⟩ : ∃ q, parse x = q := ⟨_, rfl⟩
  have hc : c = 0 := by have := isP_iff.1 h; rw [hp] at this; exact this
  subst hc
  have hl := parse_len hp
  rw [← parse_back hp]
  exact place_size hl.1 hl.2
structure Sized (st : Int) (p : ByteArray) (k : Int) (l : List SeenT) : Prop where
  st : 0 ≤ st ∧ st ≤ 2147483647
  p : p.size ≤ 102
  k : 1 ≤ k ∧ k ≤ 3
  len : l.length ≤ 64
  each : ∀ s ∈ l, s.p.size ≤ 102 ∧ s.d.size ≤ 64 ∧ 0 ≤ s.v ∧ s.v ≤ 2147483647
  asc : Asc l
theorem sized_of_good {st : Int} {p : ByteArray} {k : Int} {l : List SeenT} (h : Good st p k l) : Sized st p k l := by
  have h1 : 0 ≤ st ∧ st ≤ 2147483647 := by have := h.1; simpa [isNum] using this
  obtain ⟨h2, h3, h4⟩ := (cov_self k p).1 h.2.1
  refine ⟨h1, isP_size h2, ⟨h3, h4⟩, h.2.2.1, fun s hs => ?_, ?_⟩
  · obtain ⟨i, hi⟩ := List.getElem?_of_mem hs
    have hm := h.2.2.2.2 i s hi
    unfold mayB at hm
    simp only [Bool.and_eq_true] at hm
    have hc := (cov_in h2 ⟨h3, h4⟩).1 hm.1.1.1
    have hf := hm.1.1.2
    unfold fitB isNum at hf
    simp only [Bool.and_eq_true, decide_eq_true_eq] at hf
    exact ⟨isP_size hc.1, hf.1, hf.2.1, hf.2.2⟩
  · have := asc_of_may (k := k) (p := p) (l := l) l.length (Nat.le_refl _) (fun i n _ hn => h.2.2.2.2 i n hn)
    rw [List.take_length] at this
    exact this
theorem eok_of_good {st : Int} {p : ByteArray} {k : Int} {l : List SeenT} (h : Good st p k l) : EOk st p k l := by
  have s := sized_of_good h
  exact ⟨s.st, by have := s.p; omega, by have := s.k; omega, s.len, fun x hx => by have := s.each x hx; omega⟩
set_option maxHeartbeats 3200000 in
set_option maxRecDepth 100000 in
theorem encode_any (st : Int) (p : ByteArray) (k : Int) (a : Option Addr) (c n : Nat) (l : List SeenT) (w : World) (hn : l.length = n) (hg : Ground w) (hs : Ss w a l) (hok : ∀ s ∈ l, s.p.size ≤ maxLen) (hl : n ≤ maxLen) (hc : n ≤ c) :
    Calls Tryz.prog 12 #[.agg (shA st p k a n c)] w fun e w' => ∃ a' c' zs, e = .returned (.tuple #[.slice a' zs.length c', .int .i64 (chk st p k l)]) ∧ (Good st p k l → zs = shotL st p k l) ∧ (¬ Good st p k l → zs = []) ∧ Bys w' a' zs ∧ Below w.heap.size w w' ∧ zs.length ≤ c' ∧ c' ≤ maxLen := by
  subst hn
  have HB0 : Hid (Below w.heap.size w (w.alloc (.cells (shA st p k a l.length c) 24))) := (Below.refl _ _).alloc (Nat.le_refl _) _
  have HA0 : Hid ((w.alloc (.cells (shA st p k a l.length c) 24)).heap[w.heap.size]? = some (.cells (shA st p k a l.length c) 24 (0, 0))) := heap_alloc_new _ _
  have HCH : Hid _ := check_any st p k a c l (w.alloc (.cells (shA st p k a l.length c) 24)) (hg.below HB0.out) (hs.below HB0.out) hok hl hc
  have HS : Hid (Ss w a l) := hs
  clear hok hl hc hg hs
  by_cases hgd : Good st p k l
  · rw [chk_good hgd] at HCH ⊢
    have HGD : Hid (Good st p k l) := hgd
    have HOK : Hid (EOk st p k l) := eok_of_good hgd
    obtain ⟨sn, rfl⟩ : ∃ sn : Nat, st = sn := ⟨st.toNat, by have := (eok_of_good hgd).st; omega⟩
    obtain ⟨kn, rfl⟩ : ∃ kn : Nat, k = kn := ⟨k.toNat, by have := (eok_of_good hgd).k; omega⟩
    clear hgd
    go_enter Tryz.func12, Tryz.ntmps12
    go_wp2_with fail
    refine Calls.mono HCH.out ?_
    rintro e w1 ⟨rfl, hb1⟩
    have HB1 : Hid (Below w.heap.size w w1) := trans2 HB0.out hb1
    have HA1 : Hid (w1.heap[w.heap.size]? = some (.cells (shA sn p kn a l.length c) 24 (0, 0))) := kept_block hb1 HA0.out
    have HB2 : Hid (Below w.heap.size w (w1.alloc (.cells #[.slice none 0 0] 83))) := HB1.out.alloc HB1.out.size _
    have HW2 : Hid (WrAt (w1.alloc (.cells #[.slice none 0 0] 83)) w.heap.size w1.heap.size (.slice none 0 0) []) := ⟨heap_alloc_new _ _, World.ownsRow_nil _ _ _ _, HB1.out.size⟩
    have HA2 : Hid ((w1.alloc (.cells #[.slice none 0 0] 83)).heap[w.heap.size]? = some (.cells (shA sn p kn a l.length c) 24 (0, 0))) := new_old HA1.out _
    obtain ⟨a0, a1, a2, a3⟩ := cells_4 HA2.out
    clear hb1
    go_wp2_with fail
    refine (wShot_any w.heap.size w1.heap.size (.slice none 0 0) sn p kn a c l.length l _ HW2.out HB2.out.size (HS.out.below HB2.out) (fun hl b o ha => ?_) HOK.out rfl).mono ?_
    · rcases HS.out with h | ⟨b', o', ha', hlt, _⟩
      · exact absurd h hl
      · rw [ha'] at ha
        cases ha
        exact hlt
    rintro e w3 ⟨v3, rfl, hw3, hb3⟩
    have HB3 : Hid (Below w.heap.size w w3) := HB2.out.trans hb3
    obtain ⟨ra, rc, rfl, hby, _, _, hrc1, hrc2⟩ := bys_of_owns hw3.row
    have HRC : Hid ((shotL sn p kn l).length ≤ rc ∧ rc ≤ maxLen) := ⟨hrc1, hrc2⟩
    clear hrc1 hrc2
    have HBY : Hid (Bys w3 ra (shotL sn p kn l)) := hby
    have b0 := cells_1 hw3.box
    clear hw3 hb3 hby a0 a1 a2 a3
    go_wp2_with fail
    go_ret2
    exact ⟨ra, rc, shotL sn p kn l, rfl, fun _ => rfl, fun h => absurd HGD.out h, HBY.out, HB3.out, HRC.out.1, HRC.out.2⟩
  · rw [chk_bad hgd] at HCH ⊢
    have HGD : Hid (¬ Good st p k l) := hgd
    clear hgd
    go_enter Tryz.func12, Tryz.ntmps12
    go_wp2_with fail
    refine Calls.mono HCH.out ?_
    rintro e w1 ⟨rfl, hb1⟩
    have HB1 : Hid (Below w.heap.size w w1) := trans2 HB0.out hb1
    clear hb1
    go_wp2_with fail
    go_ret2
    exact ⟨none, 0, [], rfl, fun h => absurd h HGD.out, fun _ => rfl, .inl rfl, HB1.out, Nat.le_refl _, Nat.zero_le _⟩
end Go.Proofs.YtbamkdohaofgdaaGreatDoor.W
namespace Go.Proofs.YtbamkdohaofgdaaGreatDoor
open Go.RowKit Go.Maps
set_option linter.unusedVariables false
set_option linter.unusedSimpArgs false

abbrev pA : ByteArray := ⟨#[47, 97]⟩
abbrev pR : ByteArray := ⟨#[47]⟩
abbrev dX : ByteArray := ⟨#[120]⟩
abbrev dY : ByteArray := ⟨#[121]⟩
abbrev knownD : DataW Value := .map [(T.ky pR, .held (T.fuV pR ⟨#[]⟩ 0 0 0 0 0)), (T.ky pA, .held (T.fuV pA dX 0 1 1 0 0))]
theorem par_a : T.parB pA = pR := by kernel_rfl
theorem look_r : T.look T.rootD pR = T.fuV pR ⟨#[]⟩ 0 0 0 0 0 := by kernel_rfl
theorem look_a : T.look T.rootD pA = T.zf := by kernel_rfl
theorem has_r : Maps.has T.rootD (T.ky pR) = true := by kernel_rfl
theorem has_a : Maps.has T.rootD (T.ky pA) = false := by kernel_rfl
theorem mal_a : T.malC 0 1 pA dX 0 = 0 := by kernel_rfl
theorem put_d : (T.rootD.put (T.ky pR) (.held (T.fuV pR ⟨#[]⟩ 0 0 0 0 0))).put (T.ky pA) (.held (T.fuV pA dX 0 1 1 0 0)) = knownD := by kernel_rfl
theorem keys_d : strKeys knownD = [[47], [47, 97]] := by kernel_rfl
theorem wf_d : T.WF knownD := by
  intro l hl
  rw [keys_d] at hl
  simp at hl
  rcases hl with rfl | rfl
  · exact ⟨by decide, pR, ⟨#[]⟩, 0, 0, 0, 0, 0, by kernel_rfl, by decide, by decide⟩
  · exact ⟨by decide, pA, dX, 0, 1, 1, 0, 0, by kernel_rfl, by decide, by decide⟩
theorem isP_a : isP pA = true := by kernel_rfl
theorem filt_d : (strKeys knownD).filter (T.wF 1 pA) = [[47, 97]] := by kernel_rfl
abbrev sX : SeenT := ⟨pA, dX, 0⟩
abbrev sY : SeenT := ⟨pA, dY, 1⟩
abbrev cY : ChT := ⟨2, pA, dY, 1⟩
theorem take_d : takeL 1 knownD [[47, 97]] = [sX] := by kernel_rfl
theorem good_x : Good 5 pA 1 [sX] := by
  refine ⟨by decide, by kernel_rfl, by decide, fun h => absurd h.2 (by simp), ?_⟩
  intro i n h
  match i with
  | 0 => simp at h; subst h; show mayB 1 pA [] sX = true; kernel_rfl
  | i + 1 => simp at h
theorem good_y : Good 6 pA 1 [sY] := by
  refine ⟨by decide, by kernel_rfl, by decide, fun h => absurd h.2 (by simp), ?_⟩
  intro i n h
  match i with
  | 0 => simp at h; subst h; show mayB 1 pA [] sY = true; kernel_rfl
  | i + 1 => simp at h
theorem fold_d : foldF 1 pA [sX] [cY] = some [sY] := by kernel_rfl
theorem diff_d : (goneL [sX] [sY]).reverse ++ turnL [sX] [sY] = [cY] := by kernel_rfl
theorem len_d : (W.shotL 5 pA 1 [sX]).length = 12 := by kernel_rfl
theorem byt_d : W.Byt (W.shotL 5 pA 1 [sX]) := by
  have h : (W.shotL 5 pA 1 [sX]).all (fun z => decide (0 ≤ z) && decide (z < 256)) = true := by kernel_rfl
  intro z hz
  have := List.all_eq_true.1 h z hz
  simpa using this
theorem back_d : W.rdShot (W.shotL 5 pA 1 [sX]) = some ⟨5, pA, 1, [sX], ((W.shotL 5 pA 1 [sX]).length : Int)⟩ := W.rdShot_back 5 pA 1 [sX] (by decide) (by decide) (by decide) (by decide) (fun s hs => by
  simp at hs
  subst hs
  exact ⟨by decide, by decide, by decide⟩)
end Go.Proofs.YtbamkdohaofgdaaGreatDoor
namespace Go.Proofs.YtbamkdohaofgdaaGreatDoor
open Go.RowKit Go.Maps
set_option linter.unusedVariables false
set_option linter.unusedSimpArgs false

theorem ss_one {w : World} {a : Option Addr} {x : SeenT} (h : Ss w a [x]) : ∃ g o, a = some ⟨g, o, none⟩ ∧ g < w.heap.size ∧ w.cell? ⟨g, o, none⟩ = some (.string x.p) ∧ w.cell? ⟨g, o + 1, none⟩ = some (.string x.d) ∧ w.cell? ⟨g, o + 2, none⟩ = some (.int .i64 x.v) := by
  rcases h with h | ⟨b, o, ha, hlt, hs⟩
  · cases h
  · exact ⟨b, o, ha, hlt, by simpa using hs 0 x rfl 0 _ rfl, by simpa using hs 0 x rfl 1 _ rfl, by simpa using hs 0 x rfl 2 _ rfl⟩
theorem hs_blk {w : World} {b : Nat} {t : TypeId} {k v : Int} {p d : ByteArray} (h : w.heap[b]? = some (.cells #[.int .i64 k, .string p, .string d, .int .i64 v] t (0, 0))) : Hs w (some ⟨b, 0, none⟩) [⟨k, p, d, v⟩] := by
  refine .inr ⟨b, 0, rfl, (Array.getElem?_eq_some_iff.1 h).1, ?_⟩
  intro i s hi j x hx
  match i with
  | i + 1 => simp at hi
  | 0 =>
    simp at hi
    subst hi
    match j with
    | 0 | 1 | 2 | 3 => simp at hx; subst hx; simp [World.cell?, h]
    | j + 4 => simp at hx
theorem hs_first {w : World} {a : Option Addr} {x : ChT} (h : Hs w a [x]) : ∃ g o, a = some ⟨g, o, none⟩ ∧ g < w.heap.size ∧ w.cell? ⟨g, o, none⟩ = some (.int .i64 x.k) := by
  rcases h with h | ⟨b, o, ha, hlt, hs⟩
  · cases h
  · exact ⟨b, o, ha, hlt, by simpa using hs 0 x rfl 0 _ rfl⟩
theorem ok_x : ∀ s ∈ [sX], s.p.size ≤ maxLen := fun s hs => by simp at hs; subst hs; decide
theorem ok_y : ∀ s ∈ [sY], s.p.size ≤ maxLen := fun s hs => by simp at hs; subst hs; decide
set_option maxHeartbeats 16000000 in
set_option maxRecDepth 100000 in
theorem awake_any (w : World) (hg : T.GroundT w) :
    Calls Tryz.prog 4 #[] w fun e w' => e = .returned (.bool true) ∧ Below w.heap.size w w' := by
  have HG : Hid _ := hg
  clear hg
  go_enter Tryz.func4, Tryz.ntmps4
  go_wp2_with fail
  refine (T.new_any w).mono ?_
  rintro e w1 ⟨tb, mb, rfl, hT1, hb1⟩
  have HT1 : Hid _ := hT1
  have HB1 : Hid (Below w.heap.size w w1) := hb1
  have HBa : Hid (Below w1.heap.size w1 (w1.alloc (.cells #[.int .i64 1, .string pA, .string dX, .int .i64 0, .int .i64 0] 43))) := (Below.refl _ _).alloc (Nat.le_refl _) _
  have HPL : Hid _ := T.play1_make w.heap.size tb mb 1 w1.heap.size T.rootD 0 1 pA dX 0 pR ⟨#[]⟩ 0 0 0 0 ⟨#[]⟩ ⟨#[]⟩ 0 0 0 0 0 (w1.alloc (.cells #[.int .i64 1, .string pA, .string dX, .int .i64 0, .int .i64 0] 43)) (HG.out.below (trans2 hb1 HBa.out)) (hT1.below HBa.out) (heap_alloc_new _ _) mal_a (by rw [par_a]; exact look_r) (by rw [par_a]; exact has_r) look_a has_a (by decide) (by decide) (by decide) (by decide) (by decide) (by rw [par_a]; decide) (by decide) (by decide) (by decide) (by decide) (by decide)
  clear hT1 hb1
  go_wp2_with fail
  refine Calls.mono HPL.out ?_
  rintro e w2 ⟨g0, cap0, chV, mb2, rfl, hmb2, hT2, hrow2, hC2⟩
  rw [put_d] at hT2
  have HB2 : Hid (Below w.heap.size w w2) := (trans2 HB1.out HBa.out).trans (hC2.below (by have := HB1.out.size; simp; omega) (fun k _ e => by rw [e]; exact HT1.out.lo))
  have HTK : Hid _ := take_any w.heap.size tb mb2 (1 + 1 + 1) knownD 1 5 pA w2 (HG.out.below HB2.out).toGround hT2 (by decide) wf_d isP_a (.inl rfl) (by decide) (by decide)
  clear hT2 hrow2 hC2 hmb2
  go_wp2_with fail
  refine Calls.mono HTK.out ?_
  rintro e w3 ⟨a, c, ts, rfl, hp3, _, hs3, hc3, _, hb3⟩
  rw [filt_d] at hp3
  obtain rfl := List.perm_singleton.1 hp3
  rw [take_d] at hs3
  obtain ⟨g, o, rfl, hgl, _⟩ := ss_one hs3
  have HB3 : Hid (Below w.heap.size w w3) := trans2 HB2.out hb3
  have HS3 : Hid (Ss w3 (some ⟨g, o, none⟩) [sX]) := hs3
  have HC3 : Hid (1 ≤ c) := hc3
  clear hp3 hs3 hc3 hb3
  go_wp2_with fail
  have HBA3 : Hid (Below w3.heap.size w3 (w3.alloc (.cells (shA 5 pA 1 (some ⟨g, o, none⟩) 1 c) 24))) := (Below.refl _ _).alloc (Nat.le_refl _) _
  have HBC3 : Hid (Below w3.heap.size w3 ((w3.alloc (.cells (shA 5 pA 1 (some ⟨g, o, none⟩) 1 c) 24)).alloc (.cells #[.int .i64 2, .string pA, .string dY, .int .i64 1] 46))) := HBA3.out.alloc (by simp) _
  refine Calls.mono (fold_any 5 pA 1 (some ⟨g, o, none⟩) 1 c [sX] 6 (some ⟨w3.heap.size + 1, 0, none⟩) 1 1 [cY] ((w3.alloc (.cells (shA 5 pA 1 (some ⟨g, o, none⟩) 1 c) 24)).alloc (.cells #[.int .i64 2, .string pA, .string dY, .int .i64 1] 46)) ((HG.out.toGround.below HB3.out).below HBC3.out) (HS3.out.below HBC3.out) rfl ok_x (by decide) HC3.out (hs_blk (heap_new' (by simp))) rfl (by decide)) ?_
  rintro e w4 ⟨st4, p4, k4, la4, lc4, l4, code4, he4, hs4, hr4, _, hb4, hcap4⟩
  obtain ⟨rfl, rfl, rfl, rfl, rfl⟩ := hr4.ok good_x (by decide) _ fold_d
  have he4' : e = .returned (.tuple #[.agg (shA 6 pA 1 la4 1 lc4), .int .i64 0]) := he4
  subst he4'
  obtain ⟨g4, o4, rfl, hg4l, _⟩ := ss_one hs4
  have HB34 : Hid (Below w3.heap.size w3 w4) := trans2 HBC3.out hb4
  have HX4 : Hid (w4.heap[w3.heap.size]? = some (.cells (shA 5 pA 1 (some ⟨g, o, none⟩) 1 c) 24 (0, 0))) := T.kept_block hb4 (new_old (heap_alloc_new _ _) _)
  have HSX4 : Hid (Ss w4 (some ⟨g, o, none⟩) [sX]) := HS3.out.below HB34.out
  have HSY4 : Hid (Ss w4 (some ⟨g4, o4, none⟩) [sY]) := hs4
  have HCY : Hid (1 ≤ lc4) := hcap4
  have HB4 : Hid (Below w.heap.size w w4) := trans2 HB3.out HB34.out
  clear hs4 hr4 hb4 hcap4 he4
  have hlt4 : w3.heap.size < w4.heap.size := (Array.getElem?_eq_some_iff.1 HX4.out).1
  have hne4 : w3.heap.size ≠ w4.heap.size := by omega
  obtain ⟨x0, x1, x2, x3⟩ := T.cells_4 (new_old HX4.out (.cells (shA 6 pA 1 (some ⟨g4, o4, none⟩) 1 lc4) 24))
  go_wp2_with fail
  have HBA4 : Hid (Below w4.heap.size w4 (w4.alloc (.cells (shA 6 pA 1 (some ⟨g4, o4, none⟩) 1 lc4) 24))) := (Below.refl _ _).alloc (Nat.le_refl _) _
  refine Calls.mono (diff_any 5 pA 1 (some ⟨g, o, none⟩) c 1 [sX] 6 pA 1 (some ⟨g4, o4, none⟩) lc4 1 [sY] (w4.alloc (.cells (shA 6 pA 1 (some ⟨g4, o4, none⟩) 1 lc4) 24)) ((HG.out.toGround.below HB4.out).below HBA4.out) (HSX4.out.below HBA4.out) (HSY4.out.below HBA4.out) rfl rfl HC3.out HCY.out (fun h => by cases h) (fun h => by cases h) (by decide) (by decide) ok_x ok_y) ?_
  rintro e w5 ⟨va5, vc5, code5, D5, he5, hd5, hh5, hb5⟩
  obtain ⟨rfl, hD5⟩ := hd5.all good_x good_y rfl rfl
  rw [diff_d] at hD5
  subst hD5
  have he5' : e = .returned (.tuple #[.slice va5 1 vc5, .int .i64 0]) := he5
  subst he5'
  obtain ⟨g5, o5, rfl, hg5l, _⟩ := hs_first hh5
  have HB45 : Hid (Below w4.heap.size w4 w5) := trans2 HBA4.out hb5
  have HX5 : Hid (w5.heap[w3.heap.size]? = some (.cells (shA 5 pA 1 (some ⟨g, o, none⟩) 1 c) 24 (0, 0))) := T.kept_block HB45.out HX4.out
  have HY5 : Hid (w5.heap[w4.heap.size]? = some (.cells (shA 6 pA 1 (some ⟨g4, o4, none⟩) 1 lc4) 24 (0, 0))) := T.kept_block hb5 (heap_alloc_new _ _)
  have HSX5 : Hid (Ss w5 (some ⟨g, o, none⟩) [sX]) := HSX4.out.below HB45.out
  have HSY5 : Hid (Ss w5 (some ⟨g4, o4, none⟩) [sY]) := HSY4.out.below HB45.out
  have HH5 : Hid (Hs w5 (some ⟨g5, o5, none⟩) [cY]) := hh5
  have HB5 : Hid (Below w.heap.size w w5) := trans2 HB4.out HB45.out
  clear hd5 hh5 hb5 he5 x0 x1 x2 x3 hlt4 hne4
  obtain ⟨x0, x1, x2, x3⟩ := T.cells_4 HX5.out
  go_wp2_with fail
  refine Calls.mono (W.encode_any 5 pA 1 (some ⟨g, o, none⟩) c 1 [sX] w5 rfl (HG.out.toGround.below HB5.out) HSX5.out ok_x (by decide) HC3.out) ?_
  rintro e w6 ⟨a6, c6, zs, he6, hz6, _, hy6, hb6, hc6, hm6⟩
  have hzs := hz6 good_x
  have hzl : zs.length = 12 := by rw [hzs]; exact len_d
  rw [chk_good good_x, hzl] at he6
  subst he6
  rw [hzl] at hc6
  have HDE : Hid (∀ w', Below w6.heap.size w6 w' → Calls Tryz.prog 13 #[.slice a6 12 c6] w' fun e w'' => W.DecEnd zs w' w'' e) := fun w' hb => by
    have := W.decode_any a6 c6 zs w' ((HG.out.toGround.below (trans2 HB5.out hb6)).below hb) (hy6.below hb) (by rw [hzs]; exact byt_d) (by rw [hzl]; decide) (by rw [hzl]; exact hc6) hm6
    rw [hzl] at this
    exact this
  have HZS : Hid (zs = W.shotL 5 pA 1 [sX]) := hzs
  have HX6 : Hid (w6.heap[w3.heap.size]? = some (.cells (shA 5 pA 1 (some ⟨g, o, none⟩) 1 c) 24 (0, 0))) := T.kept_block hb6 HX5.out
  have HY6 : Hid (w6.heap[w4.heap.size]? = some (.cells (shA 6 pA 1 (some ⟨g4, o4, none⟩) 1 lc4) 24 (0, 0))) := T.kept_block hb6 HY5.out
  have HSX6 : Hid (Ss w6 (some ⟨g, o, none⟩) [sX]) := HSX5.out.below hb6
  have HSY6 : Hid (Ss w6 (some ⟨g4, o4, none⟩) [sY]) := HSY5.out.below hb6
  have HH6 : Hid (Hs w6 (some ⟨g5, o5, none⟩) [cY]) := HH5.out.below hb6
  have HB6 : Hid (Below w.heap.size w w6) := trans2 HB5.out hb6
  clear hz6 hy6 hb6 hc6 hm6 hzs hzl x0 x1 x2 x3
  go_wp2_with fail
  refine Calls.mono (HDE.out w6 (Below.refl _ _)) ?_
  rintro e w7 ⟨st7, p7, k7, la7, lc7, l7, code7, he7, hs7, hr7, hb7, _⟩
  obtain ⟨rfl, rfl, rfl, rfl, rfl⟩ := hr7.good _ (by rw [HZS.out, len_d]; decide) (by rw [HZS.out]; exact back_d) (by rw [HZS.out]) good_x
  have he7' : e = .returned (.tuple #[.agg (shA 5 pA 1 la7 1 lc7), .int .i64 0]) := he7
  subst he7'
  have HX7 : Hid (w7.heap[w3.heap.size]? = some (.cells (shA 5 pA 1 (some ⟨g, o, none⟩) 1 c) 24 (0, 0))) := T.kept_block hb7 HX6.out
  have HY7 : Hid (w7.heap[w4.heap.size]? = some (.cells (shA 6 pA 1 (some ⟨g4, o4, none⟩) 1 lc4) 24 (0, 0))) := T.kept_block hb7 HY6.out
  have HSX7 : Hid (Ss w7 (some ⟨g, o, none⟩) [sX]) := HSX6.out.below hb7
  have HSY7 : Hid (Ss w7 (some ⟨g4, o4, none⟩) [sY]) := HSY6.out.below hb7
  have HSZ7 : Hid (Ss w7 la7 [sX]) := hs7
  have HH7 : Hid (Hs w7 (some ⟨g5, o5, none⟩) [cY]) := HH6.out.below hb7
  have HB7 : Hid (Below w.heap.size w w7) := trans2 HB6.out hb7
  clear hs7 hr7 hb7 he7
  have HB8 : Hid (Below w7.heap.size w7 (w7.alloc (.cells (shA 5 pA 1 la7 1 lc7) 24))) := (Below.refl _ _).alloc (Nat.le_refl _) _
  have hl3 : w3.heap.size < w7.heap.size := (Array.getElem?_eq_some_iff.1 HX7.out).1
  have hl4 : w4.heap.size < w7.heap.size := (Array.getElem?_eq_some_iff.1 HY7.out).1
  obtain ⟨x0, x1, x2, x3⟩ := T.cells_4 (T.kept_block HB8.out HX7.out)
  obtain ⟨y0, y1, y2, y3⟩ := T.cells_4 (T.kept_block HB8.out HY7.out)
  obtain ⟨_, _, e1, _, _, c1, _⟩ := ss_one (HSX7.out.below HB8.out)
  cases e1
  obtain ⟨_, _, e2, _, _, c2, _⟩ := ss_one (HSY7.out.below HB8.out)
  cases e2
  obtain ⟨_, _, e3, _, c3⟩ := hs_first (HH7.out.below HB8.out)
  cases e3
  go_wp2_with fail
  have HE1 : Hid (∀ w', Below w7.heap.size w7 w' → Calls Tryz.prog 8 #[.agg (shA 5 pA 1 (some ⟨g, o, none⟩) 1 c), .agg (shA 5 pA 1 la7 1 lc7)] w' fun e w'' => e = .returned (.bool true) ∧ Below w'.heap.size w' w'') := fun w' hb => by
    have := same_any ⟨5, pA, 1, some ⟨g, o, none⟩, c, [sX]⟩ ⟨5, pA, 1, la7, lc7, [sX]⟩ w' (HSX7.out.below hb) (HSZ7.out.below hb) (by show (1 : Nat) ≤ maxLen; decide)
    refine Calls.mono this ?_
    rintro e w'' ⟨rfl, h⟩
    exact ⟨by simp, h⟩
  have HE2 : Hid (∀ w', Below w7.heap.size w7 w' → Calls Tryz.prog 8 #[.agg (shA 5 pA 1 (some ⟨g, o, none⟩) 1 c), .agg (shA 6 pA 1 (some ⟨g4, o4, none⟩) 1 lc4)] w' fun e w'' => e = .returned (.bool false) ∧ Below w'.heap.size w' w'') := fun w' hb => by
    have := same_any ⟨5, pA, 1, some ⟨g, o, none⟩, c, [sX]⟩ ⟨6, pA, 1, some ⟨g4, o4, none⟩, lc4, [sY]⟩ w' (HSX7.out.below hb) (HSY7.out.below hb) (by show (1 : Nat) ≤ maxLen; decide)
    refine Calls.mono this ?_
    rintro e w'' ⟨rfl, h⟩
    exact ⟨by simp, h⟩
  refine (HE1.out _ HB8.out).mono ?_
  rintro e w9 ⟨rfl, hb9⟩
  have HB9 : Hid (Below w7.heap.size w7 w9) := trans2 HB8.out hb9
  clear hb9 x0 x1 x2 x3 y0 y1 y2 y3 c1 c2 c3
  obtain ⟨x0, x1, x2, x3⟩ := T.cells_4 (T.kept_block HB9.out HX7.out)
  obtain ⟨y0, y1, y2, y3⟩ := T.cells_4 (T.kept_block HB9.out HY7.out)
  go_wp2_with fail
  refine (HE2.out _ HB9.out).mono ?_
  rintro e w10 ⟨rfl, hb10⟩
  go_wp2_with fail
  go_ret
  exact ⟨rfl, trans2 HB7.out (trans2 HB9.out hb10)⟩
end Go.Proofs.YtbamkdohaofgdaaGreatDoor
