/-
  ViewTwo: the walk, for any service that serves.
-/
import Derived.Test.YtlbhnlpdijhmlabVPlays
namespace Go.Proofs.Ytlbhnlpdijhmlab
open Go.RowKit
set_option linter.unusedVariables false
set_option linter.unusedSimpArgs false

/-- Two services, each with the document's. -/
structure Tw (At : World → (Nat → Prop) → SvT → Value → Prop) (w wr : World) (K1 : Nat → Prop) (V1 : SvT) (p1 : Value) (d1 : Nat) (v1 : Value) (S1 : Nat → Prop) (K2 : Nat → Prop) (V2 : SvT) (p2 : Value) (d2 : Nat) (v2 : Value) (S2 : Nat → Prop) : Prop where
  a : Du At w wr K1 V1 p1 d1 v1 S1
  b : Du At w wr K2 V2 p2 d2 v2 S2
  x : ∀ j, Ow K1 S1 d1 j → ¬ Ow K2 S2 d2 j
variable {At : World → (Nat → Prop) → SvT → Value → Prop} {w wr w' : World} {K1 K2 K' S1 S2 : Nat → Prop} {V1 V2 V' : SvT} {p1 p2 v1 v2 v' : Value} {d1 d2 : Nat}
theorem Tw.swap (h : Tw At w wr K1 V1 p1 d1 v1 S1 K2 V2 p2 d2 v2 S2) : Tw At w wr K2 V2 p2 d2 v2 S2 K1 V1 p1 d1 v1 S1 := ⟨h.b, h.a, fun j h2 h1 => h.x j h1 h2⟩
theorem Tw.on (sv : Serves At) (h : Tw At w wr K1 V1 p1 d1 v1 S1 K2 V2 p2 d2 v2 S2) (hb : Below wr.heap.size wr w') : Tw At w w' K1 V1 p1 d1 v1 S1 K2 V2 p2 d2 v2 S2 := ⟨h.a.on sv hb, h.b.on sv hb, h.x⟩
theorem Tw.put (sv : Serves At) (h : Tw At w wr K1 V1 p1 d1 v1 S1 K2 V2 p2 d2 v2 S2) (hp : Dp At w wr w' K1 S1 V1 p1 d1 v1 K' V' v') (hn : V'.nodes = V1.nodes) :
    ∃ S', Tw At w (put_3 w' d1 (.int .i64 V1.nodes) v' (.bool V'.set)) K' V' p1 d1 v' S' K2 V2 p2 d2 v2 S2 := by
  obtain ⟨S', h1, h2, h3⟩ := h.a.put sv hp hn
  refine ⟨S', h1, h.b.keep sv h2 h.a.new (fun j hj hT => h.x j hT hj), fun j hj hj2 => ?_⟩
  rcases h3 j hj with h4 | h4
  · exact h.x j h4 hj2
  · have := h.b.old sv j hj2; omega
theorem Tw.call (sv : Serves At) (h : Tw At w wr K1 V1 p1 d1 v1 S1 K2 V2 p2 d2 v2 S2) (h1 : Du At w w' K' V1 p1 d1 v1 S1) (h2 : Chg wr w' K1) (h3 : ∀ j, K' j → K1 j ∨ wr.heap.size ≤ j) : Tw At w w' K' V1 p1 d1 v1 S1 K2 V2 p2 d2 v2 S2 := by
  refine ⟨h1, h.b.keep sv h2 h.a.nw.new (fun j hj hT => h.x j (.inl hT) hj), fun j hj hj2 => ?_⟩
  rcases hj with hj | hj | hj
  · rcases h3 j hj with h4 | h4
    · exact h.x j (.inl h4) hj2
    · have := h.b.old sv j hj2; omega
  · exact h.x j (.inr (.inl hj)) hj2
  · exact h.x j (.inr (.inr hj)) hj2
def newC (n : Int) : Int := if 1 ≤ n ∧ n ≤ 5 then 0 else 1
theorem new_weak (sv : Serves At) (n : Int) (w : World) : Calls Try.prog 6 #[.int .i64 n] w fun e w' => ∃ q, e = .returned (.tuple #[.pointer q, .int .i64 (newC n)]) ∧ Below w.heap.size w w' := by
  by_cases h : 1 ≤ n ∧ n ≤ 5
  · refine (sv.new_ok w n h.1 h.2).mono ?_
    rintro e w' ⟨b, K, rfl, _, h2, _⟩
    exact ⟨_, by unfold newC; rw [if_pos h], h2⟩
  · refine (sv.new_no w n (by omega)).mono ?_
    rintro e w' ⟨rfl, h2⟩
    exact ⟨_, by unfold newC; rw [if_neg h], h2⟩
theorem refNew_weak (n : Int) (w : World) : Calls Try.prog 7 #[.int .i64 n] w fun e w' => ∃ x a k c, e = .returned (.tuple #[svV x (.slice a k c) false, .int .i64 (newC n)]) ∧ Below w.heap.size w w' := by
  by_cases h : 1 ≤ n ∧ n ≤ 5
  · refine (refNew_ok n w h.1 h.2).mono ?_
    rintro e w' ⟨g, rfl, _, h2⟩
    exact ⟨_, _, _, _, by unfold newC; rw [if_pos h], h2⟩
  · refine (refNew_no n w (by omega)).mono ?_
    rintro e w' ⟨rfl, h2⟩
    exact ⟨_, _, _, _, by unfold newC; rw [if_neg h], h2⟩
set_option maxHeartbeats 6400000 in
set_option maxRecDepth 100000 in
theorem ViewTwo_no (sv : Serves At) (one two : Int) (v : Value) (w : World) (hno : newC one = 1 ∨ (newC one = 0 ∧ newC two = 1)) :
    Calls Try.prog 4 #[.int .i64 one, .int .i64 two, v] w fun e w' => e = .returned (.bool true) ∧ Below w.heap.size w w' := by
  have HBE : Hid (∀ w, _) := fun w => begins_any sv w
  have HN : Hid (∀ n w, _) := fun n w => new_weak sv n w
  have HRN : Hid (∀ n w, _) := fun n w => refNew_weak n w
  obtain ⟨c2, hc2⟩ : ∃ c2, newC two = c2 := ⟨_, rfl⟩
  have h01 : c2 = 0 ∨ c2 = 1 := by rw [← hc2]; unfold newC; split; exact .inl rfl; exact .inr rfl
  rw [hc2] at hno
  have HC2 : Hid (newC two = c2) := hc2
  clear hc2
  obtain ⟨c1, hc1⟩ : ∃ c1, newC one = c1 := ⟨_, rfl⟩
  rw [hc1] at hno
  have HC1 : Hid (newC one = c1) := hc1
  clear hc1
  have hcase : (c1 = 1 ∧ c2 = 0) ∨ (c1 = 1 ∧ c2 = 1) ∨ (c1 = 0 ∧ c2 = 1) := by omega
  clear hno h01
  rcases hcase with ⟨rfl, rfl⟩ | ⟨rfl, rfl⟩ | ⟨rfl, rfl⟩
  all_goals
    go_enter Try.func4, Try.ntmps4
    go_wp2_with fail
    refine Calls.mono (HBE.out _) ?_
    rintro e w1 ⟨rfl, hb1⟩
    have HB1 : Hid (Below w.heap.size w w1) := hb1
    clear hb1
    go_wp2_with fail
    refine Calls.mono (HN.out one _) ?_
    rintro e w2 ⟨q2, rfl, hb2⟩
    have HB2 : Hid (Below w.heap.size w w2) := trans2 HB1.out hb2
    rw [HC1.out]
    clear hb2
    go_wp2_with fail
    refine Calls.mono (HN.out two _) ?_
    rintro e w3 ⟨q3, rfl, hb3⟩
    have HB3 : Hid (Below w.heap.size w w3) := trans2 HB2.out hb3
    rw [HC2.out]
    clear hb3
    go_wp2_with fail
    refine Calls.mono (HRN.out one _) ?_
    rintro e w4 ⟨x4, a4, k4, c4, rfl, hb4⟩
    have HB4 : Hid (Below w.heap.size w w4) := trans2 HB3.out hb4
    rw [HC1.out]
    clear hb4
    go_wp2_with fail
    obtain ⟨w5, hw5⟩ : ∃ w5, w4.alloc (.cells #[.int .i64 x4, .slice a4 k4 c4, .bool false] 30) = w5 := ⟨_, rfl⟩
    have HB5 : Hid (Below w.heap.size w w5) := by rw [← hw5]; exact HB4.out.alloc HB4.out.size _
    rw [hw5]
    clear hw5
    refine Calls.mono (HRN.out two _) ?_
    rintro e w6 ⟨x6, a6, k6, c6, rfl, hb6⟩
    have HB6 : Hid (Below w.heap.size w w6) := trans2 HB5.out hb6
    rw [HC2.out]
    clear hb6
    go_wp2_with fail
    go_ret
    exact ⟨rfl, HB6.out.alloc HB6.out.size _⟩
set_option maxHeartbeats 25600000 in
set_option maxRecDepth 100000 in
theorem ViewTwo_walk (sv : Serves At) (one two : Int) (v : Value) (l : List WhT) (w : World) (h : ActsAt w (fun b => b < w.heap.size) v l) (hl : l.length ≤ maxLen) :
    Calls Try.prog 4 #[.int .i64 one, .int .i64 two, v] w fun e w' => e = .returned (.bool true) ∧ Below w.heap.size w w' := by
  by_cases hno : newC one = 1 ∨ (newC one = 0 ∧ newC two = 1)
  · exact ViewTwo_no sv one two v w hno
  have hok : (1 ≤ one ∧ one ≤ 5) ∧ (1 ≤ two ∧ two ≤ 5) := by
    unfold newC at hno
    by_cases h1 : 1 ≤ one ∧ one ≤ 5
    · by_cases h2 : 1 ≤ two ∧ two ≤ 5
      · exact ⟨h1, h2⟩
      · exact absurd (.inr ⟨by rw [if_pos h1], by rw [if_neg h2]⟩) hno
    · exact absurd (.inl (by rw [if_neg h1])) hno
  clear hno
  unfold maxLen at hl
  obtain ⟨a, c, rfl, hc⟩ := RowAt.form h
  obtain ⟨m, hm⟩ : ∃ m, l.length = m := ⟨_, rfl⟩
  rw [hm] at h hl ⊢
  have HM : Hid (l.length = m) := hm
  have HLS : Hid (ActsAt w (fun b => b < w.heap.size) (.slice a m c) l) := h
  have HBE : Hid (∀ w, _) := fun w => begins_any sv w
  have HN1 : Hid (∀ w, _) := fun w => sv.new_ok w one hok.1.1 hok.1.2
  have HN2 : Hid (∀ w, _) := fun w => sv.new_ok w two hok.2.1 hok.2.2
  have HR1 : Hid (∀ w, _) := fun w => refNew_ok one w hok.1.1 hok.1.2
  have HR2 : Hid (∀ w, _) := fun w => refNew_ok two w hok.2.1 hok.2.2
  clear h hm hc hok
  go_enter Try.func4, Try.ntmps4
  go_wp2_with fail
  refine Calls.mono (HBE.out _) ?_
  rintro e w1 ⟨rfl, hb1⟩
  have HB1 : Hid (Below w.heap.size w w1) := hb1
  clear hb1
  go_wp2_with fail
  refine Calls.mono (HN1.out _) ?_
  rintro e w2 ⟨sb1, K1, rfl, g1, g2, g3⟩
  have H2 : Hid (Nw At w w2 K1 (newV one) (.pointer (some ⟨sb1, 0, none⟩))) := ⟨g1, trans2 HB1.out g2, fun j hj => Nat.le_trans HB1.out.size (g3 j hj)⟩
  clear g1 g2 g3
  go_wp2_with fail
  refine Calls.mono (HN2.out _) ?_
  rintro e w3 ⟨sb2, K2, rfl, g1, g2, g3⟩
  have H3 : Hid (Nw At w w3 K2 (newV two) (.pointer (some ⟨sb2, 0, none⟩)) ∧ (∀ j, K2 j → w2.heap.size ≤ j) ∧ Below w2.heap.size w2 w3) := ⟨⟨g1, trans2 H2.out.below g2, fun j hj => Nat.le_trans H2.out.below.size (g3 j hj)⟩, g3, g2⟩
  clear g1 g2 g3
  go_wp2_with fail
  refine Calls.mono (HR1.out _) ?_
  rintro e w4 ⟨gg1, rfl, hv4, hb4⟩
  obtain ⟨w5, hw5⟩ : ∃ w5, w4.alloc (.cells #[.int .i64 one, .slice (some ⟨gg1, 0, none⟩) 1 1, .bool false] 30) = w5 := ⟨_, rfl⟩
  have h5 := Du.begin sv (H2.out.on sv H3.out.2.2) hb4 hv4
  rw [hw5] at h5
  have hb5 : Below w3.heap.size w3 w5 := by rw [← hw5]; exact hb4.alloc hb4.size _
  have hz5 : w5.heap.size = w4.heap.size + 1 := by rw [← hw5]; simp
  have HW5 : Hid _ := hw5
  have H5 : Hid (Du At w w5 K1 (newV one) (.pointer (some ⟨sb1, 0, none⟩)) w4.heap.size (.slice (some ⟨gg1, 0, none⟩) 1 1) (fun j => w3.heap.size ≤ j ∧ j < w4.heap.size) ∧ Below w3.heap.size w3 w5 ∧ w5.heap.size = w4.heap.size + 1 ∧ w3.heap.size ≤ w4.heap.size) := ⟨h5, hb5, hz5, hb4.size⟩
  clear hw5 h5 hv4 hb4 hb5 hz5
  go_wp2_with fail
  rw [HW5.out]
  clear HW5
  refine Calls.mono (HR2.out _) ?_
  rintro e w6 ⟨gg2, rfl, hv6, hb6⟩
  obtain ⟨w7, hw7⟩ : ∃ w7, w6.alloc (.cells #[.int .i64 two, .slice (some ⟨gg2, 0, none⟩) 1 1, .bool false] 30) = w7 := ⟨_, rfl⟩
  have h7 := Du.begin sv (H3.out.1.on sv H5.out.2.1) hb6 hv6
  rw [hw7] at h7
  have hb7 : Below w5.heap.size w5 w7 := by rw [← hw7]; exact hb6.alloc hb6.size _
  have HW7 : Hid _ := hw7
  have H7 : Hid (Tw At w w7 K1 (newV one) (.pointer (some ⟨sb1, 0, none⟩)) w4.heap.size (.slice (some ⟨gg1, 0, none⟩) 1 1) (fun j => w3.heap.size ≤ j ∧ j < w4.heap.size) K2 (newV two) (.pointer (some ⟨sb2, 0, none⟩)) w6.heap.size (.slice (some ⟨gg2, 0, none⟩) 1 1) (fun j => w5.heap.size ≤ j ∧ j < w6.heap.size)) := by
    refine ⟨H5.out.1.on sv hb7, h7, fun j hj hj2 => ?_⟩
    have z1 := H3.out.2.2.size
    have z2 := H5.out.2.1.size
    have z3 := H5.out.2.2.1
    have z5 := H5.out.2.2.2
    have z4 := hb6.size
    have y2 : w2.heap.size ≤ j ∧ j < w3.heap.size ∨ w5.heap.size ≤ j := by
      rcases hj2 with hk | hk | hk
      · exact .inl ⟨H3.out.2.1 j hk, sv.lt H3.out.1.at' j hk⟩
      · exact .inr hk.1
      · exact .inr (by omega)
    have y1 : j < w2.heap.size ∨ w3.heap.size ≤ j ∧ j ≤ w4.heap.size := by
      rcases hj with hk | hk | hk
      · exact .inl (sv.lt H2.out.at' j hk)
      · exact .inr ⟨hk.1, by omega⟩
      · have := (lt_of_blk H5.out.1.dx); exact .inr ⟨by omega, by omega⟩
    omega
  clear hw7 h7 hv6 hb6 hb7 H2 H3 H5
  go_upto_region 8 with fail
  rw [HW7.out]
  clear HW7
  obtain ⟨p1, hp1⟩ : ∃ p, Value.pointer (some ⟨sb1, 0, none⟩) = p := ⟨_, rfl⟩
  obtain ⟨p2, hp2⟩ : ∃ p, Value.pointer (some ⟨sb2, 0, none⟩) = p := ⟨_, rfl⟩
  obtain ⟨S1, hS1⟩ : ∃ S : Nat → Prop, (fun j => w3.heap.size ≤ j ∧ j < w4.heap.size) = S := ⟨_, rfl⟩
  obtain ⟨S2, hS2⟩ : ∃ S : Nat → Prop, (fun j => w5.heap.size ≤ j ∧ j < w6.heap.size) = S := ⟨_, rfl⟩
  obtain ⟨d1, hd1⟩ : ∃ d, w4.heap.size = d := ⟨_, rfl⟩
  obtain ⟨d2, hd2⟩ : ∃ d, w6.heap.size = d := ⟨_, rfl⟩
  rw [hp1, hp2, hS1, hS2, hd1, hd2] at H7
  rw [hp1, hp2, hd1, hd2]
  have H8 : Hid (∃ v1 v2, Tw At w w7 K1 (newV one) p1 d1 v1 S1 K2 (newV two) p2 d2 v2 S2) := ⟨_, _, H7.out⟩
  clear hp1 hp2 hS1 hS2 hd1 hd2 H7
  go_wp2_with fail
  go_loopw [16, 17] (fun ok i wr => ∃ (q : Nat) (K1 : Nat → Prop) (V1 : SvT) (S1 : Nat → Prop) (K2 : Nat → Prop) (V2 : SvT) (S2 : Nat → Prop), ok = .bool true ∧ i = .int .i64 q ∧ q ≤ m ∧ Hid (∃ v1 v2, Tw At w wr K1 V1 p1 d1 v1 S1 K2 V2 p2 d2 v2 S2)) (fun _ i _ => m - (intOf i).toNat)
  case atStart => exact ⟨0, K1, _, S1, K2, _, S2, rfl, rfl, Nat.zero_le _, H8⟩
  case round =>
    clear H8
    obtain ⟨q, K1, V1, S1, K2, V2, S2, rfl, rfl, hq, HWv⟩ := hrel
    obtain ⟨v1, v2, hw⟩ := HWv.out
    obtain ⟨va, vc, rfl, -⟩ := RowAt.form hw.a.row
    obtain ⟨ua, uc, rfl, -⟩ := RowAt.form hw.b.row
    have HW : Hid (Tw At w wr K1 V1 p1 d1 (.slice va V1.l.length vc) S1 K2 V2 p2 d2 (.slice ua V2.l.length uc) S2) := hw
    clear hw HWv
    by_cases hlt : q < m ∧ q < 160
    · obtain ⟨hlt, h160⟩ := hlt
      have hqi : (q : Int) < (m : Int) := by omega
      have h160' : (q : Int) < 160 := by omega
      obtain ⟨y, hy⟩ : ∃ y, l[q]? = some y := ⟨l[q]'(by rw [HM.out]; exact hlt), List.getElem?_eq_getElem _⟩
      obtain ⟨b, o, rfl, _, hb, cs, hat, hr⟩ := RowAt.get HLS.out hy
      have HR : Hid (w.rangeAt b (o + q * 24) cs ∧ y.At cs ∧ b < w.heap.size) := ⟨hr, hat, hb⟩
      have hmod : Int.tmod (q : Int) 2 = ((q % 2 : Nat) : Int) := by rw [Int.tmod_eq_emod_of_nonneg (by omega)]; omega
      clear hy hb hat hr
      by_cases hpar : q % 2 = 0
      · rw [hpar] at hmod
        go_wp2_with fail
        refine wp_cut [72, 73, 74, 75, 76, 77, 78, 71, 79, 80, 16] (fun vs w' => ∃ xa xc K' S', vs = [p1, svV V1.nodes (.slice va V1.l.length vc) V1.set, .slice (some ⟨b, o, none⟩) m c, .int .i64 q, .pointer (some ⟨b, o + q * 24, none⟩), .agg cs.toArray, .tuple #[svV V1.nodes (.slice xa (V1.does (wholeT (lastV V1.l) y)).l.length xc) (V1.does (wholeT (lastV V1.l) y)).set, .bool true], .tuple #[svV V1.nodes (.slice xa (V1.does (wholeT (lastV V1.l) y)).l.length xc) (V1.does (wholeT (lastV V1.l) y)).set, .bool true], svV V1.nodes (.slice xa (V1.does (wholeT (lastV V1.l) y)).l.length xc) (V1.does (wholeT (lastV V1.l) y)).set, .bool true, .bool true] ∧ Hid (Tw At w w' K' (V1.does (wholeT (lastV V1.l) y)) p1 d1 (.slice xa (V1.does (wholeT (lastV V1.l) y)).l.length xc) S' K2 V2 p2 d2 (.slice ua V2.l.length uc) S2)) ?_ ?_
        · refine wp_region_any (by kernel_rfl) ?_
          change wpAny _ _ _ _ _ _ _ (World.drew _)
          obtain ⟨X, hXX⟩ : ∃ X, wr.drew = X := ⟨_, rfl⟩
          have HT : Hid (Tw At w X K1 V1 p1 d1 (.slice va V1.l.length vc) S1 K2 V2 p2 d2 (.slice ua V2.l.length uc) S2) := by rw [← hXX]; exact HW.out.on sv (below_drew (Below.refl _ _))
          have HX : Hid (Du At w X K1 V1 p1 d1 (.slice va V1.l.length vc) S1) := HT.out.a
          have HXR : Hid (X.rangeAt b (o + q * 24) cs) := act_below HX.out.nw.below HR.out.1 HR.out.2.2
          rw [hXX]
          clear hXX
          refine wpAny_take (i := 0) (v := p1) rfl (by kernel_rfl) (by kernel_rfl) (by kernel_rfl) (fun _ _ _ h => h) (Or.inl ⟨by rfl, by intro w; go_simp⟩) ?_
          try simp only [List.getElem_toArray, List.getElem_cons_succ, List.getElem_cons_zero, Act.put, List.setIfInBounds_toArray, List.set_cons_zero, List.set_cons_succ]
          refine wpAny_take (i := 2) (v := .slice (some ⟨b, o, none⟩) m c) rfl (by kernel_rfl) (by kernel_rfl) (by kernel_rfl) (fun _ _ _ h => h) (Or.inl ⟨by rfl, by intro w; go_simp⟩) ?_
          try simp only [List.getElem_toArray, List.getElem_cons_succ, List.getElem_cons_zero, Act.put, List.setIfInBounds_toArray, List.set_cons_zero, List.set_cons_succ]
          refine wpAny_take (i := 3) (v := .int .i64 q) rfl (by kernel_rfl) (by kernel_rfl) (by kernel_rfl) (fun _ _ _ h => h) (Or.inl ⟨by rfl, by intro w; go_simp⟩) ?_
          try simp only [List.getElem_toArray, List.getElem_cons_succ, List.getElem_cons_zero, Act.put, List.setIfInBounds_toArray, List.set_cons_zero, List.set_cons_succ]
          refine wpAny_take (i := 4) (v := .pointer (some ⟨b, o + q * 24, none⟩)) rfl (by kernel_rfl) (by kernel_rfl) (by kernel_rfl) (fun _ _ _ h => h) (Or.inl ⟨by rfl, by intro w; go_simp⟩) ?_
          try simp only [List.getElem_toArray, List.getElem_cons_succ, List.getElem_cons_zero, Act.put, List.setIfInBounds_toArray, List.set_cons_zero, List.set_cons_succ]
          refine wpAny_ready (rs := [1, 5]) (by kernel_rfl) (by simp) ?_
          refine AllReady.cons rfl (fun C hC => ?_) (AllReady.cons rfl (fun C hC => ?_) AllReady.nil)
          · refine step_load (by rfl) 30 _ (by rfl) d1 0 (by rfl) [.int .i64 V1.nodes, (.slice va V1.l.length vc), .bool V1.set] _ (range_of HX.out.dx) Try.underlying30 rfl (by kernel_rfl) (hC _ _ ?_)
            clear hC C
            try simp only [List.getElem_toArray, List.getElem_cons_succ, List.getElem_cons_zero, Act.put, List.setIfInBounds_toArray, List.set_cons_zero, List.set_cons_succ]
            refine wpAny_ready (rs := [5]) (by kernel_rfl) (by simp) ?_
            refine AllReady.cons rfl (fun C hC => ?_) AllReady.nil
            refine step_load (by rfl) 49 _ (by rfl) b (o + q * 24) (by rfl) cs _ HXR.out Try.underlying49 rfl (by rw [HR.out.2.1.len]; exact Try.infoAct) (hC _ _ ?_)
            clear hC C
            try simp only [List.getElem_toArray, List.getElem_cons_succ, List.getElem_cons_zero, Act.put, List.setIfInBounds_toArray, List.set_cons_zero, List.set_cons_succ]
            refine wpAny_ready (rs := [6]) (by kernel_rfl) (by simp) ?_
            refine AllReady.cons rfl (fun C hC => ?_) AllReady.nil
            refine step_callx (by rfl) 9 _ _ (by rfl) (fun _ _ => by rfl) [p1, svV V1.nodes (.slice va V1.l.length vc) V1.set, .agg cs.toArray] (by rfl) (HX.out.played sv HR.out.2.1) ?_
            rintro e w8 ⟨xa, xc, K8, rfl, h8⟩
            have H8 : Hid (Dp At w X w8 K1 S1 V1 p1 d1 (.slice va V1.l.length vc) K8 (V1.does (wholeT (lastV V1.l) y)) (.slice xa (V1.does (wholeT (lastV V1.l) y)).l.length xc)) := h8
            refine ⟨_, rfl, hC _ _ ?_⟩
            clear hC C h8
            try simp only [List.getElem_toArray, List.getElem_cons_succ, List.getElem_cons_zero, Act.put, List.setIfInBounds_toArray, List.set_cons_zero, List.set_cons_succ]
            refine wpAny_take (i := 7) (v := .tuple #[svV V1.nodes (.slice xa (V1.does (wholeT (lastV V1.l) y)).l.length xc) (V1.does (wholeT (lastV V1.l) y)).set, .bool true]) rfl (by kernel_rfl) (by kernel_rfl) (by kernel_rfl) (fun _ _ _ h => h) (Or.inl ⟨by rfl, by intro w; go_simp⟩) ?_
            try simp only [List.getElem_toArray, List.getElem_cons_succ, List.getElem_cons_zero, Act.put, List.setIfInBounds_toArray, List.set_cons_zero, List.set_cons_succ]
            refine wpAny_take (i := 8) (v := svV V1.nodes (.slice xa (V1.does (wholeT (lastV V1.l) y)).l.length xc) (V1.does (wholeT (lastV V1.l) y)).set) rfl (by kernel_rfl) (by kernel_rfl) (by kernel_rfl) (fun _ _ _ h => h) (Or.inl ⟨by rfl, by intro w; go_simp⟩) ?_
            try simp only [List.getElem_toArray, List.getElem_cons_succ, List.getElem_cons_zero, Act.put, List.setIfInBounds_toArray, List.set_cons_zero, List.set_cons_succ]
            refine wpAny_take (i := 9) (v := .bool true) rfl (by kernel_rfl) (by kernel_rfl) (by kernel_rfl) (fun _ _ _ h => h) (Or.inl ⟨by rfl, by intro w; go_simp⟩) ?_
            try simp only [List.getElem_toArray, List.getElem_cons_succ, List.getElem_cons_zero, Act.put, List.setIfInBounds_toArray, List.set_cons_zero, List.set_cons_succ]
            refine wpAny_ready (rs := [10]) (by kernel_rfl) (by simp) ?_
            refine AllReady.cons rfl (fun C hC => ?_) AllReady.nil
            obtain ⟨s0, s1, s2⟩ := cells_3 H8.out.dx
            have fs : ∀ o, w8.frozen? ⟨d1, o, none⟩ = false := free_of H8.out.dx
            go_simp
            refine hC _ _ ?_
            clear hC C s0 s1 s2 fs
            try simp only [List.getElem_toArray, List.getElem_cons_succ, List.getElem_cons_zero, Act.put, List.setIfInBounds_toArray, List.set_cons_zero, List.set_cons_succ]
            refine wpAny_ready (rs := [11]) (by kernel_rfl) (by simp) ?_
            refine AllReady.cons rfl (fun C hC => ?_) AllReady.nil
            go_simp
            refine hC _ _ ?_
            clear hC C
            try simp only [List.getElem_toArray, List.getElem_cons_succ, List.getElem_cons_zero, Act.put, List.setIfInBounds_toArray, List.set_cons_zero, List.set_cons_succ]
            refine wpAny_done (by kernel_rfl) ?_ _
            obtain ⟨S9, h9⟩ := HT.out.put sv H8.out (does_nodes V1 (wholeT (lastV V1.l) y))
            exact ⟨[p1, svV V1.nodes (.slice va V1.l.length vc) V1.set, .slice (some ⟨b, o, none⟩) m c, .int .i64 q, .pointer (some ⟨b, o + q * 24, none⟩), .agg cs.toArray, .tuple #[svV V1.nodes (.slice xa (V1.does (wholeT (lastV V1.l) y)).l.length xc) (V1.does (wholeT (lastV V1.l) y)).set, .bool true], .tuple #[svV V1.nodes (.slice xa (V1.does (wholeT (lastV V1.l) y)).l.length xc) (V1.does (wholeT (lastV V1.l) y)).set, .bool true], svV V1.nodes (.slice xa (V1.does (wholeT (lastV V1.l) y)).l.length xc) (V1.does (wholeT (lastV V1.l) y)).set, .bool true, .bool true], ⟨xa, xc, K8, S9, rfl, h9⟩, by simp [putsL, Act.put]⟩
          · refine step_load (by rfl) 49 _ (by rfl) b (o + q * 24) (by rfl) cs _ HXR.out Try.underlying49 rfl (by rw [HR.out.2.1.len]; exact Try.infoAct) (hC _ _ ?_)
            clear hC C
            try simp only [List.getElem_toArray, List.getElem_cons_succ, List.getElem_cons_zero, Act.put, List.setIfInBounds_toArray, List.set_cons_zero, List.set_cons_succ]
            refine wpAny_ready (rs := [1]) (by kernel_rfl) (by simp) ?_
            refine AllReady.cons rfl (fun C hC => ?_) AllReady.nil
            refine step_load (by rfl) 30 _ (by rfl) d1 0 (by rfl) [.int .i64 V1.nodes, (.slice va V1.l.length vc), .bool V1.set] _ (range_of HX.out.dx) Try.underlying30 rfl (by kernel_rfl) (hC _ _ ?_)
            clear hC C
            try simp only [List.getElem_toArray, List.getElem_cons_succ, List.getElem_cons_zero, Act.put, List.setIfInBounds_toArray, List.set_cons_zero, List.set_cons_succ]
            refine wpAny_ready (rs := [6]) (by kernel_rfl) (by simp) ?_
            refine AllReady.cons rfl (fun C hC => ?_) AllReady.nil
            refine step_callx (by rfl) 9 _ _ (by rfl) (fun _ _ => by rfl) [p1, svV V1.nodes (.slice va V1.l.length vc) V1.set, .agg cs.toArray] (by rfl) (HX.out.played sv HR.out.2.1) ?_
            rintro e w8 ⟨xa, xc, K8, rfl, h8⟩
            have H8 : Hid (Dp At w X w8 K1 S1 V1 p1 d1 (.slice va V1.l.length vc) K8 (V1.does (wholeT (lastV V1.l) y)) (.slice xa (V1.does (wholeT (lastV V1.l) y)).l.length xc)) := h8
            refine ⟨_, rfl, hC _ _ ?_⟩
            clear hC C h8
            try simp only [List.getElem_toArray, List.getElem_cons_succ, List.getElem_cons_zero, Act.put, List.setIfInBounds_toArray, List.set_cons_zero, List.set_cons_succ]
            refine wpAny_take (i := 7) (v := .tuple #[svV V1.nodes (.slice xa (V1.does (wholeT (lastV V1.l) y)).l.length xc) (V1.does (wholeT (lastV V1.l) y)).set, .bool true]) rfl (by kernel_rfl) (by kernel_rfl) (by kernel_rfl) (fun _ _ _ h => h) (Or.inl ⟨by rfl, by intro w; go_simp⟩) ?_
            try simp only [List.getElem_toArray, List.getElem_cons_succ, List.getElem_cons_zero, Act.put, List.setIfInBounds_toArray, List.set_cons_zero, List.set_cons_succ]
            refine wpAny_take (i := 8) (v := svV V1.nodes (.slice xa (V1.does (wholeT (lastV V1.l) y)).l.length xc) (V1.does (wholeT (lastV V1.l) y)).set) rfl (by kernel_rfl) (by kernel_rfl) (by kernel_rfl) (fun _ _ _ h => h) (Or.inl ⟨by rfl, by intro w; go_simp⟩) ?_
            try simp only [List.getElem_toArray, List.getElem_cons_succ, List.getElem_cons_zero, Act.put, List.setIfInBounds_toArray, List.set_cons_zero, List.set_cons_succ]
            refine wpAny_take (i := 9) (v := .bool true) rfl (by kernel_rfl) (by kernel_rfl) (by kernel_rfl) (fun _ _ _ h => h) (Or.inl ⟨by rfl, by intro w; go_simp⟩) ?_
            try simp only [List.getElem_toArray, List.getElem_cons_succ, List.getElem_cons_zero, Act.put, List.setIfInBounds_toArray, List.set_cons_zero, List.set_cons_succ]
            refine wpAny_ready (rs := [10]) (by kernel_rfl) (by simp) ?_
            refine AllReady.cons rfl (fun C hC => ?_) AllReady.nil
            obtain ⟨s0, s1, s2⟩ := cells_3 H8.out.dx
            have fs : ∀ o, w8.frozen? ⟨d1, o, none⟩ = false := free_of H8.out.dx
            go_simp
            refine hC _ _ ?_
            clear hC C s0 s1 s2 fs
            try simp only [List.getElem_toArray, List.getElem_cons_succ, List.getElem_cons_zero, Act.put, List.setIfInBounds_toArray, List.set_cons_zero, List.set_cons_succ]
            refine wpAny_ready (rs := [11]) (by kernel_rfl) (by simp) ?_
            refine AllReady.cons rfl (fun C hC => ?_) AllReady.nil
            go_simp
            refine hC _ _ ?_
            clear hC C
            try simp only [List.getElem_toArray, List.getElem_cons_succ, List.getElem_cons_zero, Act.put, List.setIfInBounds_toArray, List.set_cons_zero, List.set_cons_succ]
            refine wpAny_done (by kernel_rfl) ?_ _
            obtain ⟨S9, h9⟩ := HT.out.put sv H8.out (does_nodes V1 (wholeT (lastV V1.l) y))
            exact ⟨[p1, svV V1.nodes (.slice va V1.l.length vc) V1.set, .slice (some ⟨b, o, none⟩) m c, .int .i64 q, .pointer (some ⟨b, o + q * 24, none⟩), .agg cs.toArray, .tuple #[svV V1.nodes (.slice xa (V1.does (wholeT (lastV V1.l) y)).l.length xc) (V1.does (wholeT (lastV V1.l) y)).set, .bool true], .tuple #[svV V1.nodes (.slice xa (V1.does (wholeT (lastV V1.l) y)).l.length xc) (V1.does (wholeT (lastV V1.l) y)).set, .bool true], svV V1.nodes (.slice xa (V1.does (wholeT (lastV V1.l) y)).l.length xc) (V1.does (wholeT (lastV V1.l) y)).set, .bool true, .bool true], ⟨xa, xc, K8, S9, rfl, h9⟩, by simp [putsL, Act.put]⟩
        rintro vs w20 ⟨xa, xc, K3, S3, rfl, H20⟩
        obtain ⟨V3, hV3⟩ : ∃ V3, V1.does (wholeT (lastV V1.l) y) = V3 := ⟨_, rfl⟩
        rw [hV3] at H20
        rw [hV3]
        clear hV3
        obtain ⟨d0, d1', d2'⟩ := cells_3 H20.out.a.dx
        obtain ⟨e0, e1, e2⟩ := cells_3 H20.out.b.dx
        simp only [putsL]
        go_wp2_with fail
        refine Calls.mono (H20.out.a.stands sv) ?_
        rintro e w21 ⟨rfl, K21, h21, hc21, hn21⟩
        have H21 : Hid (Tw At w w21 K21 V3 p1 d1 (.slice xa V3.l.length xc) S3 K2 V2 p2 d2 (.slice ua V2.l.length uc) S2) := H20.out.call sv h21 hc21 hn21
        clear h21 hc21 hn21 H20 d0 d1' d2' e0 e1 e2
        obtain ⟨d0, d1', d2'⟩ := cells_3 H21.out.a.dx
        obtain ⟨e0, e1, e2⟩ := cells_3 H21.out.b.dx
        go_wp2_with fail
        refine Calls.mono (H21.out.b.stands sv) ?_
        rintro e w22 ⟨rfl, K22, h22, hc22, hn22⟩
        have H22 : Hid (∃ v1 v2, Tw At w w22 K21 V3 p1 d1 v1 S3 K22 V2 p2 d2 v2 S2) := ⟨_, _, (H21.out.swap.call sv h22 hc22 hn22).swap⟩
        clear h22 hc22 hn22 H21 d0 d1' d2' e0 e1 e2
        go_wp2_with fail
        exact ⟨⟨q + 1, K21, V3, S3, K22, V2, S2, rfl, by go_num, by omega, H22⟩, by simp [intOf]; omega⟩
      · have hpar1 : q % 2 = 1 := by omega
        rw [hpar1] at hmod
        go_wp2_with fail
        refine wp_cut [82, 83, 84, 85, 86, 87, 88, 81, 89, 90, 16] (fun vs w' => ∃ xa xc K' S', vs = [p2, svV V2.nodes (.slice ua V2.l.length uc) V2.set, .slice (some ⟨b, o, none⟩) m c, .int .i64 q, .pointer (some ⟨b, o + q * 24, none⟩), .agg cs.toArray, .tuple #[svV V2.nodes (.slice xa (V2.does (wholeT (lastV V2.l) y)).l.length xc) (V2.does (wholeT (lastV V2.l) y)).set, .bool true], .tuple #[svV V2.nodes (.slice xa (V2.does (wholeT (lastV V2.l) y)).l.length xc) (V2.does (wholeT (lastV V2.l) y)).set, .bool true], svV V2.nodes (.slice xa (V2.does (wholeT (lastV V2.l) y)).l.length xc) (V2.does (wholeT (lastV V2.l) y)).set, .bool true, .bool true] ∧ Hid (Tw At w w' K1 V1 p1 d1 (.slice va V1.l.length vc) S1 K' (V2.does (wholeT (lastV V2.l) y)) p2 d2 (.slice xa (V2.does (wholeT (lastV V2.l) y)).l.length xc) S')) ?_ ?_
        · refine wp_region_any (by kernel_rfl) ?_
          change wpAny _ _ _ _ _ _ _ (World.drew _)
          obtain ⟨X, hXX⟩ : ∃ X, wr.drew = X := ⟨_, rfl⟩
          have HT : Hid (Tw At w X K1 V1 p1 d1 (.slice va V1.l.length vc) S1 K2 V2 p2 d2 (.slice ua V2.l.length uc) S2) := by rw [← hXX]; exact HW.out.on sv (below_drew (Below.refl _ _))
          have HX : Hid (Du At w X K2 V2 p2 d2 (.slice ua V2.l.length uc) S2) := HT.out.b
          have HXR : Hid (X.rangeAt b (o + q * 24) cs) := act_below HX.out.nw.below HR.out.1 HR.out.2.2
          rw [hXX]
          clear hXX
          refine wpAny_take (i := 0) (v := p2) rfl (by kernel_rfl) (by kernel_rfl) (by kernel_rfl) (fun _ _ _ h => h) (Or.inl ⟨by rfl, by intro w; go_simp⟩) ?_
          try simp only [List.getElem_toArray, List.getElem_cons_succ, List.getElem_cons_zero, Act.put, List.setIfInBounds_toArray, List.set_cons_zero, List.set_cons_succ]
          refine wpAny_take (i := 2) (v := .slice (some ⟨b, o, none⟩) m c) rfl (by kernel_rfl) (by kernel_rfl) (by kernel_rfl) (fun _ _ _ h => h) (Or.inl ⟨by rfl, by intro w; go_simp⟩) ?_
          try simp only [List.getElem_toArray, List.getElem_cons_succ, List.getElem_cons_zero, Act.put, List.setIfInBounds_toArray, List.set_cons_zero, List.set_cons_succ]
          refine wpAny_take (i := 3) (v := .int .i64 q) rfl (by kernel_rfl) (by kernel_rfl) (by kernel_rfl) (fun _ _ _ h => h) (Or.inl ⟨by rfl, by intro w; go_simp⟩) ?_
          try simp only [List.getElem_toArray, List.getElem_cons_succ, List.getElem_cons_zero, Act.put, List.setIfInBounds_toArray, List.set_cons_zero, List.set_cons_succ]
          refine wpAny_take (i := 4) (v := .pointer (some ⟨b, o + q * 24, none⟩)) rfl (by kernel_rfl) (by kernel_rfl) (by kernel_rfl) (fun _ _ _ h => h) (Or.inl ⟨by rfl, by intro w; go_simp⟩) ?_
          try simp only [List.getElem_toArray, List.getElem_cons_succ, List.getElem_cons_zero, Act.put, List.setIfInBounds_toArray, List.set_cons_zero, List.set_cons_succ]
          refine wpAny_ready (rs := [1, 5]) (by kernel_rfl) (by simp) ?_
          refine AllReady.cons rfl (fun C hC => ?_) (AllReady.cons rfl (fun C hC => ?_) AllReady.nil)
          · refine step_load (by rfl) 30 _ (by rfl) d2 0 (by rfl) [.int .i64 V2.nodes, (.slice ua V2.l.length uc), .bool V2.set] _ (range_of HX.out.dx) Try.underlying30 rfl (by kernel_rfl) (hC _ _ ?_)
            clear hC C
            try simp only [List.getElem_toArray, List.getElem_cons_succ, List.getElem_cons_zero, Act.put, List.setIfInBounds_toArray, List.set_cons_zero, List.set_cons_succ]
            refine wpAny_ready (rs := [5]) (by kernel_rfl) (by simp) ?_
            refine AllReady.cons rfl (fun C hC => ?_) AllReady.nil
            refine step_load (by rfl) 49 _ (by rfl) b (o + q * 24) (by rfl) cs _ HXR.out Try.underlying49 rfl (by rw [HR.out.2.1.len]; exact Try.infoAct) (hC _ _ ?_)
            clear hC C
            try simp only [List.getElem_toArray, List.getElem_cons_succ, List.getElem_cons_zero, Act.put, List.setIfInBounds_toArray, List.set_cons_zero, List.set_cons_succ]
            refine wpAny_ready (rs := [6]) (by kernel_rfl) (by simp) ?_
            refine AllReady.cons rfl (fun C hC => ?_) AllReady.nil
            refine step_callx (by rfl) 9 _ _ (by rfl) (fun _ _ => by rfl) [p2, svV V2.nodes (.slice ua V2.l.length uc) V2.set, .agg cs.toArray] (by rfl) (HX.out.played sv HR.out.2.1) ?_
            rintro e w8 ⟨xa, xc, K8, rfl, h8⟩
            have H8 : Hid (Dp At w X w8 K2 S2 V2 p2 d2 (.slice ua V2.l.length uc) K8 (V2.does (wholeT (lastV V2.l) y)) (.slice xa (V2.does (wholeT (lastV V2.l) y)).l.length xc)) := h8
            refine ⟨_, rfl, hC _ _ ?_⟩
            clear hC C h8
            try simp only [List.getElem_toArray, List.getElem_cons_succ, List.getElem_cons_zero, Act.put, List.setIfInBounds_toArray, List.set_cons_zero, List.set_cons_succ]
            refine wpAny_take (i := 7) (v := .tuple #[svV V2.nodes (.slice xa (V2.does (wholeT (lastV V2.l) y)).l.length xc) (V2.does (wholeT (lastV V2.l) y)).set, .bool true]) rfl (by kernel_rfl) (by kernel_rfl) (by kernel_rfl) (fun _ _ _ h => h) (Or.inl ⟨by rfl, by intro w; go_simp⟩) ?_
            try simp only [List.getElem_toArray, List.getElem_cons_succ, List.getElem_cons_zero, Act.put, List.setIfInBounds_toArray, List.set_cons_zero, List.set_cons_succ]
            refine wpAny_take (i := 8) (v := svV V2.nodes (.slice xa (V2.does (wholeT (lastV V2.l) y)).l.length xc) (V2.does (wholeT (lastV V2.l) y)).set) rfl (by kernel_rfl) (by kernel_rfl) (by kernel_rfl) (fun _ _ _ h => h) (Or.inl ⟨by rfl, by intro w; go_simp⟩) ?_
            try simp only [List.getElem_toArray, List.getElem_cons_succ, List.getElem_cons_zero, Act.put, List.setIfInBounds_toArray, List.set_cons_zero, List.set_cons_succ]
            refine wpAny_take (i := 9) (v := .bool true) rfl (by kernel_rfl) (by kernel_rfl) (by kernel_rfl) (fun _ _ _ h => h) (Or.inl ⟨by rfl, by intro w; go_simp⟩) ?_
            try simp only [List.getElem_toArray, List.getElem_cons_succ, List.getElem_cons_zero, Act.put, List.setIfInBounds_toArray, List.set_cons_zero, List.set_cons_succ]
            refine wpAny_ready (rs := [10]) (by kernel_rfl) (by simp) ?_
            refine AllReady.cons rfl (fun C hC => ?_) AllReady.nil
            obtain ⟨s0, s1, s2⟩ := cells_3 H8.out.dx
            have fs : ∀ o, w8.frozen? ⟨d2, o, none⟩ = false := free_of H8.out.dx
            go_simp
            refine hC _ _ ?_
            clear hC C s0 s1 s2 fs
            try simp only [List.getElem_toArray, List.getElem_cons_succ, List.getElem_cons_zero, Act.put, List.setIfInBounds_toArray, List.set_cons_zero, List.set_cons_succ]
            refine wpAny_ready (rs := [11]) (by kernel_rfl) (by simp) ?_
            refine AllReady.cons rfl (fun C hC => ?_) AllReady.nil
            go_simp
            refine hC _ _ ?_
            clear hC C
            try simp only [List.getElem_toArray, List.getElem_cons_succ, List.getElem_cons_zero, Act.put, List.setIfInBounds_toArray, List.set_cons_zero, List.set_cons_succ]
            refine wpAny_done (by kernel_rfl) ?_ _
            obtain ⟨S9, h9⟩ := HT.out.swap.put sv H8.out (does_nodes V2 (wholeT (lastV V2.l) y))
            exact ⟨[p2, svV V2.nodes (.slice ua V2.l.length uc) V2.set, .slice (some ⟨b, o, none⟩) m c, .int .i64 q, .pointer (some ⟨b, o + q * 24, none⟩), .agg cs.toArray, .tuple #[svV V2.nodes (.slice xa (V2.does (wholeT (lastV V2.l) y)).l.length xc) (V2.does (wholeT (lastV V2.l) y)).set, .bool true], .tuple #[svV V2.nodes (.slice xa (V2.does (wholeT (lastV V2.l) y)).l.length xc) (V2.does (wholeT (lastV V2.l) y)).set, .bool true], svV V2.nodes (.slice xa (V2.does (wholeT (lastV V2.l) y)).l.length xc) (V2.does (wholeT (lastV V2.l) y)).set, .bool true, .bool true], ⟨xa, xc, K8, S9, rfl, h9.swap⟩, by simp [putsL, Act.put]⟩
          · refine step_load (by rfl) 49 _ (by rfl) b (o + q * 24) (by rfl) cs _ HXR.out Try.underlying49 rfl (by rw [HR.out.2.1.len]; exact Try.infoAct) (hC _ _ ?_)
            clear hC C
            try simp only [List.getElem_toArray, List.getElem_cons_succ, List.getElem_cons_zero, Act.put, List.setIfInBounds_toArray, List.set_cons_zero, List.set_cons_succ]
            refine wpAny_ready (rs := [1]) (by kernel_rfl) (by simp) ?_
            refine AllReady.cons rfl (fun C hC => ?_) AllReady.nil
            refine step_load (by rfl) 30 _ (by rfl) d2 0 (by rfl) [.int .i64 V2.nodes, (.slice ua V2.l.length uc), .bool V2.set] _ (range_of HX.out.dx) Try.underlying30 rfl (by kernel_rfl) (hC _ _ ?_)
            clear hC C
            try simp only [List.getElem_toArray, List.getElem_cons_succ, List.getElem_cons_zero, Act.put, List.setIfInBounds_toArray, List.set_cons_zero, List.set_cons_succ]
            refine wpAny_ready (rs := [6]) (by kernel_rfl) (by simp) ?_
            refine AllReady.cons rfl (fun C hC => ?_) AllReady.nil
            refine step_callx (by rfl) 9 _ _ (by rfl) (fun _ _ => by rfl) [p2, svV V2.nodes (.slice ua V2.l.length uc) V2.set, .agg cs.toArray] (by rfl) (HX.out.played sv HR.out.2.1) ?_
            rintro e w8 ⟨xa, xc, K8, rfl, h8⟩
            have H8 : Hid (Dp At w X w8 K2 S2 V2 p2 d2 (.slice ua V2.l.length uc) K8 (V2.does (wholeT (lastV V2.l) y)) (.slice xa (V2.does (wholeT (lastV V2.l) y)).l.length xc)) := h8
            refine ⟨_, rfl, hC _ _ ?_⟩
            clear hC C h8
            try simp only [List.getElem_toArray, List.getElem_cons_succ, List.getElem_cons_zero, Act.put, List.setIfInBounds_toArray, List.set_cons_zero, List.set_cons_succ]
            refine wpAny_take (i := 7) (v := .tuple #[svV V2.nodes (.slice xa (V2.does (wholeT (lastV V2.l) y)).l.length xc) (V2.does (wholeT (lastV V2.l) y)).set, .bool true]) rfl (by kernel_rfl) (by kernel_rfl) (by kernel_rfl) (fun _ _ _ h => h) (Or.inl ⟨by rfl, by intro w; go_simp⟩) ?_
            try simp only [List.getElem_toArray, List.getElem_cons_succ, List.getElem_cons_zero, Act.put, List.setIfInBounds_toArray, List.set_cons_zero, List.set_cons_succ]
            refine wpAny_take (i := 8) (v := svV V2.nodes (.slice xa (V2.does (wholeT (lastV V2.l) y)).l.length xc) (V2.does (wholeT (lastV V2.l) y)).set) rfl (by kernel_rfl) (by kernel_rfl) (by kernel_rfl) (fun _ _ _ h => h) (Or.inl ⟨by rfl, by intro w; go_simp⟩) ?_
            try simp only [List.getElem_toArray, List.getElem_cons_succ, List.getElem_cons_zero, Act.put, List.setIfInBounds_toArray, List.set_cons_zero, List.set_cons_succ]
            refine wpAny_take (i := 9) (v := .bool true) rfl (by kernel_rfl) (by kernel_rfl) (by kernel_rfl) (fun _ _ _ h => h) (Or.inl ⟨by rfl, by intro w; go_simp⟩) ?_
            try simp only [List.getElem_toArray, List.getElem_cons_succ, List.getElem_cons_zero, Act.put, List.setIfInBounds_toArray, List.set_cons_zero, List.set_cons_succ]
            refine wpAny_ready (rs := [10]) (by kernel_rfl) (by simp) ?_
            refine AllReady.cons rfl (fun C hC => ?_) AllReady.nil
            obtain ⟨s0, s1, s2⟩ := cells_3 H8.out.dx
            have fs : ∀ o, w8.frozen? ⟨d2, o, none⟩ = false := free_of H8.out.dx
            go_simp
            refine hC _ _ ?_
            clear hC C s0 s1 s2 fs
            try simp only [List.getElem_toArray, List.getElem_cons_succ, List.getElem_cons_zero, Act.put, List.setIfInBounds_toArray, List.set_cons_zero, List.set_cons_succ]
            refine wpAny_ready (rs := [11]) (by kernel_rfl) (by simp) ?_
            refine AllReady.cons rfl (fun C hC => ?_) AllReady.nil
            go_simp
            refine hC _ _ ?_
            clear hC C
            try simp only [List.getElem_toArray, List.getElem_cons_succ, List.getElem_cons_zero, Act.put, List.setIfInBounds_toArray, List.set_cons_zero, List.set_cons_succ]
            refine wpAny_done (by kernel_rfl) ?_ _
            obtain ⟨S9, h9⟩ := HT.out.swap.put sv H8.out (does_nodes V2 (wholeT (lastV V2.l) y))
            exact ⟨[p2, svV V2.nodes (.slice ua V2.l.length uc) V2.set, .slice (some ⟨b, o, none⟩) m c, .int .i64 q, .pointer (some ⟨b, o + q * 24, none⟩), .agg cs.toArray, .tuple #[svV V2.nodes (.slice xa (V2.does (wholeT (lastV V2.l) y)).l.length xc) (V2.does (wholeT (lastV V2.l) y)).set, .bool true], .tuple #[svV V2.nodes (.slice xa (V2.does (wholeT (lastV V2.l) y)).l.length xc) (V2.does (wholeT (lastV V2.l) y)).set, .bool true], svV V2.nodes (.slice xa (V2.does (wholeT (lastV V2.l) y)).l.length xc) (V2.does (wholeT (lastV V2.l) y)).set, .bool true, .bool true], ⟨xa, xc, K8, S9, rfl, h9.swap⟩, by simp [putsL, Act.put]⟩
        rintro vs w20 ⟨xa, xc, K3, S3, rfl, H20⟩
        obtain ⟨V3, hV3⟩ : ∃ V3, V2.does (wholeT (lastV V2.l) y) = V3 := ⟨_, rfl⟩
        rw [hV3] at H20
        rw [hV3]
        clear hV3
        obtain ⟨d0, d1', d2'⟩ := cells_3 H20.out.a.dx
        obtain ⟨e0, e1, e2⟩ := cells_3 H20.out.b.dx
        simp only [putsL]
        go_wp2_with fail
        refine Calls.mono (H20.out.a.stands sv) ?_
        rintro e w21 ⟨rfl, K21, h21, hc21, hn21⟩
        have H21 : Hid (Tw At w w21 K21 V1 p1 d1 (.slice va V1.l.length vc) S1 K3 V3 p2 d2 (.slice xa V3.l.length xc) S3) := H20.out.call sv h21 hc21 hn21
        clear h21 hc21 hn21 H20 d0 d1' d2' e0 e1 e2
        obtain ⟨d0, d1', d2'⟩ := cells_3 H21.out.a.dx
        obtain ⟨e0, e1, e2⟩ := cells_3 H21.out.b.dx
        go_wp2_with fail
        refine Calls.mono (H21.out.b.stands sv) ?_
        rintro e w22 ⟨rfl, K22, h22, hc22, hn22⟩
        have H22 : Hid (∃ v1 v2, Tw At w w22 K21 V1 p1 d1 v1 S1 K22 V3 p2 d2 v2 S3) := ⟨_, _, (H21.out.swap.call sv h22 hc22 hn22).swap⟩
        clear h22 hc22 hn22 H21 d0 d1' d2' e0 e1 e2
        go_wp2_with fail
        exact ⟨⟨q + 1, K21, V1, S1, K22, V3, S3, rfl, by go_num, by omega, H22⟩, by simp [intOf]; omega⟩
    · have hexit : ((q : Int) < (m : Int) ∧ ¬ (q : Int) < 160) ∨ ¬ (q : Int) < (m : Int) := by omega
      have HBW : Hid (Below w.heap.size w wr) := HW.out.a.nw.below
      clear hlt
      rcases hexit with ⟨h1', h2'⟩ | h1'
      all_goals (
        go_wp2_with fail
        go_ret
        exact ⟨rfl, HBW.out⟩)
end Go.Proofs.Ytlbhnlpdijhmlab
