/-
  ViewPlays: the walk, for any service that serves.
-/
import Derived.Test.YtlbhnlpdijhmlabVDu2
namespace Go.Proofs.Ytlbhnlpdijhmlab
open Go.RowKit
set_option linter.unusedVariables false
set_option linter.unusedSimpArgs false

theorem act_below {w wr : World} {b o : Nat} {cs : List Value} (h : Below w.heap.size w wr) (hr : w.rangeAt b o cs) (hb : b < w.heap.size) : wr.rangeAt b o cs := fun j u hu => by
  rw [h.cell (p := ⟨b, o + j, none⟩) hb]
  exact hr j u hu
/-- A new service and the document's. -/
theorem Du.begin {At : World → (Nat → Prop) → SvT → Value → Prop} (sv : Serves At) {w w2 w3 : World} {K : Nat → Prop} {nodes : Int} {p : Value} {g : Nat} (h2 : Nw At w w2 K (newV nodes) p) (hb : Below w2.heap.size w2 w3) (hv : VwsAt w3 (fun j => w2.heap.size ≤ j) (.slice (some ⟨g, 0, none⟩) 1 1) (newV nodes).l) :
    Du At w (w3.alloc (.cells #[.int .i64 nodes, .slice (some ⟨g, 0, none⟩) 1 1, .bool false] 30)) K (newV nodes) p w3.heap.size (.slice (some ⟨g, 0, none⟩) 1 1) (fun j => w2.heap.size ≤ j ∧ j < w3.heap.size) := by
  have hal : Below w3.heap.size w3 (w3.alloc (.cells #[.int .i64 nodes, .slice (some ⟨g, 0, none⟩) 1 1, .bool false] 30)) := (Below.refl _ _).alloc (Nat.le_refl _) _
  have hs := hb.size
  have hs2 := h2.below.size
  have h3 := h2.on sv (trans2 hb hal)
  refine ⟨h3, heap_alloc_new _ _, fun hk => by have := sv.lt h2.at' _ hk; omega, by omega, VwsAt.keep (VwsAt.mono hv (fun j hj hS => ⟨hS, hj⟩)) (Kp.of_below hal _), fun j hj => Nat.lt_of_lt_of_le hj.2 hal.size, fun j hj hk => by have := sv.lt h2.at' _ hk; omega, fun j hj => by omega, fun j hj => by omega⟩
set_option maxHeartbeats 25600000 in
set_option maxRecDepth 100000 in
theorem ViewPlays_walk {At : World → (Nat → Prop) → SvT → Value → Prop} (sv : Serves At) (nodes : Int) (v : Value) (l : List WhT) (w : World) (h : ActsAt w (fun b => b < w.heap.size) v l) (hl : l.length ≤ maxLen) :
    Calls Try.prog 3 #[.int .i64 nodes, v] w fun e w' => e = .returned (.bool true) ∧ Below w.heap.size w w' := by
  unfold maxLen at hl
  obtain ⟨a, c, rfl, hc⟩ := RowAt.form h
  obtain ⟨m, hm⟩ : ∃ m, l.length = m := ⟨_, rfl⟩
  rw [hm] at h hl ⊢
  have HM : Hid (l.length = m) := hm
  have HLS : Hid (ActsAt w (fun b => b < w.heap.size) (.slice a m c) l) := h
  have HBE : Hid (∀ w, _) := fun w => begins_any sv w
  clear h hm hc
  by_cases hno : nodes < 1 ∨ (¬ nodes < 1 ∧ 5 < nodes)
  · have HN : Hid (∀ w, _) := fun w => sv.new_no w nodes (hno.imp id (fun h => h.2))
    have HRN : Hid (∀ w, _) := fun w => refNew_no nodes w hno
    clear hno
    go_enter Try.func3, Try.ntmps3
    go_wp2_with fail
    refine Calls.mono (HBE.out _) ?_
    rintro e w1 ⟨rfl, hb1⟩
    have HB1 : Hid (Below w.heap.size w w1) := hb1
    clear hb1
    go_wp2_with fail
    refine Calls.mono (HN.out _) ?_
    rintro e w2 ⟨rfl, hb2⟩
    have HB2 : Hid (Below w.heap.size w w2) := trans2 HB1.out hb2
    clear hb2
    go_wp2_with fail
    refine Calls.mono (HRN.out _) ?_
    rintro e w3 ⟨rfl, hb3⟩
    have HB3 : Hid (Below w.heap.size w w3) := trans2 HB2.out hb3
    clear hb3
    go_wp2_with fail
    go_ret
    exact ⟨rfl, HB3.out.alloc HB3.out.size _⟩
  have h15 : 1 ≤ nodes ∧ nodes ≤ 5 := by omega
  have HN : Hid (∀ w, _) := fun w => sv.new_ok w nodes h15.1 h15.2
  have HRN : Hid (∀ w, _) := fun w => refNew_ok nodes w h15.1 h15.2
  clear hno h15
  go_enter Try.func3, Try.ntmps3
  go_wp2_with fail
  refine Calls.mono (HBE.out _) ?_
  rintro e w1 ⟨rfl, hb1⟩
  have HB1 : Hid (Below w.heap.size w w1) := hb1
  clear hb1
  go_wp2_with fail
  refine Calls.mono (HN.out _) ?_
  rintro e w2 ⟨sb, K, rfl, g1, g2, g3⟩
  have H2 : Hid (Nw At w w2 K (newV nodes) (.pointer (some ⟨sb, 0, none⟩))) := ⟨g1, trans2 HB1.out g2, fun j hj => Nat.le_trans HB1.out.size (g3 j hj)⟩
  clear g1 g2 g3
  go_wp2_with fail
  refine Calls.mono (HRN.out _) ?_
  rintro e w3 ⟨g, rfl, hv3, hb3⟩
  obtain ⟨w4, hw4⟩ : ∃ w4, w3.alloc (.cells #[.int .i64 nodes, .slice (some ⟨g, 0, none⟩) 1 1, .bool false] 30) = w4 := ⟨_, rfl⟩
  have h4 := Du.begin sv H2.out hb3 hv3
  rw [hw4] at h4
  have HW4 : Hid _ := hw4
  have H4 : Hid (Du At w w4 K (newV nodes) (.pointer (some ⟨sb, 0, none⟩)) w3.heap.size (.slice (some ⟨g, 0, none⟩) 1 1) (fun j => w2.heap.size ≤ j ∧ j < w3.heap.size)) := h4
  clear hw4 h4 hv3 hb3 H2
  go_upto_region 6 with fail
  rw [HW4.out]
  obtain ⟨p, hp⟩ : ∃ p, Value.pointer (some ⟨sb, 0, none⟩) = p := ⟨_, rfl⟩
  obtain ⟨d, hd⟩ : ∃ d, w3.heap.size = d := ⟨_, rfl⟩
  obtain ⟨S, hS⟩ : ∃ S : Nat → Prop, (fun j => w2.heap.size ≤ j ∧ j < w3.heap.size) = S := ⟨_, rfl⟩
  rw [hp, hS, hd] at H4
  rw [hp, hd]
  obtain ⟨d0, d1, d2⟩ := cells_3 H4.out.dx
  rw [show (newV nodes).nodes = nodes from rfl] at d0
  rw [show (newV nodes).set = false from rfl] at d2
  clear hp hd hS HW4
  go_wp2_with fail
  refine Calls.mono (H4.out.stands sv) ?_
  rintro e w5 ⟨rfl, K5, h5, -, -⟩
  have H5 : Hid (∃ v, Du At w w5 K5 (newV nodes) p d v S) := ⟨_, h5⟩
  clear h5 H4 d0 d1 d2
  go_wp2_with fail
  go_loopw [10, 11] (fun ok i wr => ∃ (q : Nat) (K : Nat → Prop) (V : SvT) (S : Nat → Prop), ok = .bool true ∧ i = .int .i64 q ∧ q ≤ m ∧ Hid (∃ v, Du At w wr K V p d v S)) (fun _ i _ => m - (intOf i).toNat)
  case atStart => exact ⟨0, K5, _, S, rfl, rfl, Nat.zero_le _, H5⟩
  case round =>
    clear H5
    obtain ⟨q, K, V, S, rfl, rfl, hq, HWv⟩ := hrel
    obtain ⟨v, hw⟩ := HWv.out
    obtain ⟨va, vc, rfl, -⟩ := RowAt.form hw.row
    have HW : Hid (Du At w wr K V p d (.slice va V.l.length vc) S) := hw
    clear hw HWv
    by_cases hlt : q < m ∧ q < 160
    · obtain ⟨hlt, h160⟩ := hlt
      have hqi : (q : Int) < (m : Int) := by omega
      have h160' : (q : Int) < 160 := by omega
      obtain ⟨y, hy⟩ : ∃ y, l[q]? = some y := ⟨l[q]'(by rw [HM.out]; exact hlt), List.getElem?_eq_getElem _⟩
      obtain ⟨b, o, rfl, _, hb, cs, hat, hr⟩ := RowAt.get HLS.out hy
      have HR : Hid (w.rangeAt b (o + q * 24) cs ∧ y.At cs ∧ b < w.heap.size) := ⟨hr, hat, hb⟩
      clear hy hb hat hr
      go_wp2_with fail
      refine wp_cut [49, 50, 51, 52, 53, 54, 55, 48, 56, 57, 10] (fun vs w' => ∃ xa xc K' S', vs = [p, svV V.nodes (.slice va V.l.length vc) V.set, .slice (some ⟨b, o, none⟩) m c, .int .i64 q, .pointer (some ⟨b, o + q * 24, none⟩), .agg cs.toArray, .tuple #[svV V.nodes (.slice xa (V.does (wholeT (lastV V.l) y)).l.length xc) (V.does (wholeT (lastV V.l) y)).set, .bool true], .tuple #[svV V.nodes (.slice xa (V.does (wholeT (lastV V.l) y)).l.length xc) (V.does (wholeT (lastV V.l) y)).set, .bool true], svV V.nodes (.slice xa (V.does (wholeT (lastV V.l) y)).l.length xc) (V.does (wholeT (lastV V.l) y)).set, .bool true, .bool true] ∧ Hid (Du At w w' K' (V.does (wholeT (lastV V.l) y)) p d (.slice xa (V.does (wholeT (lastV V.l) y)).l.length xc) S')) ?_ ?_
      · refine wp_region_any (by kernel_rfl) ?_
        change wpAny _ _ _ _ _ _ _ (World.drew _)
        obtain ⟨X, hXX⟩ : ∃ X, wr.drew = X := ⟨_, rfl⟩
        have HX : Hid (Du At w X K V p d (.slice va V.l.length vc) S) := by rw [← hXX]; exact HW.out.on sv (below_drew (Below.refl _ _))
        have HXR : Hid (X.rangeAt b (o + q * 24) cs) := act_below HX.out.nw.below HR.out.1 HR.out.2.2
        rw [hXX]
        clear hXX
        refine wpAny_take (i := 0) (v := p) rfl (by kernel_rfl) (by kernel_rfl) (by kernel_rfl) (fun _ _ _ h => h) (Or.inl ⟨by rfl, by intro w; go_simp⟩) ?_
        try simp only [List.getElem_toArray, List.getElem_cons_succ, List.getElem_cons_zero, Act.put, List.setIfInBounds_toArray, List.set_cons_zero, List.set_cons_succ]
        refine wpAny_take (i := 2) (v := .slice (some ⟨b, o, none⟩) m c) rfl (by kernel_rfl) (by kernel_rfl) (by kernel_rfl) (fun _ _ _ h => h) (Or.inl ⟨by rfl, by intro w; go_simp⟩) ?_
        try simp only [List.getElem_toArray, List.getElem_cons_succ, List.getElem_cons_zero, Act.put, List.setIfInBounds_toArray, List.set_cons_zero, List.set_cons_succ]
        refine wpAny_take (i := 3) (v := .int .i64 q) rfl (by kernel_rfl) (by kernel_rfl) (by kernel_rfl) (fun _ _ _ h => h) (Or.inl ⟨by rfl, by intro w; go_simp⟩) ?_
        try simp only [List.getElem_toArray, List.getElem_cons_succ, List.getElem_cons_zero, Act.put, List.setIfInBounds_toArray, List.set_cons_zero, List.set_cons_succ]
        refine wpAny_take (i := 4) (v := .pointer (some ⟨b, o + q * 24, none⟩)) rfl (by kernel_rfl) (by kernel_rfl) (by kernel_rfl) (fun _ _ _ h => h) (Or.inl ⟨by rfl, by intro w; go_simp⟩) ?_
        try simp only [List.getElem_toArray, List.getElem_cons_succ, List.getElem_cons_zero, Act.put, List.setIfInBounds_toArray, List.set_cons_zero, List.set_cons_succ]
        refine wpAny_ready (rs := [1, 5]) (by kernel_rfl) (by simp) ?_
        refine AllReady.cons rfl (fun C hC => ?_) (AllReady.cons rfl (fun C hC => ?_) AllReady.nil)
        · refine step_load (by rfl) 30 _ (by rfl) d 0 (by rfl) [.int .i64 V.nodes, (.slice va V.l.length vc), .bool V.set] _ (range_of HX.out.dx) Try.underlying30 rfl (by kernel_rfl) (hC _ _ ?_)
          clear hC C
          try simp only [List.getElem_toArray, List.getElem_cons_succ, List.getElem_cons_zero, Act.put, List.setIfInBounds_toArray, List.set_cons_zero, List.set_cons_succ]
          refine wpAny_ready (rs := [5]) (by kernel_rfl) (by simp) ?_
          refine AllReady.cons rfl (fun C hC => ?_) AllReady.nil
          refine step_load (by rfl) 49 _ (by rfl) b (o + q * 24) (by rfl) cs _ HXR.out Try.underlying49 rfl (by rw [HR.out.2.1.len]; exact Try.infoAct) (hC _ _ ?_)
          clear hC C
          try simp only [List.getElem_toArray, List.getElem_cons_succ, List.getElem_cons_zero, Act.put, List.setIfInBounds_toArray, List.set_cons_zero, List.set_cons_succ]
          refine wpAny_ready (rs := [6]) (by kernel_rfl) (by simp) ?_
          refine AllReady.cons rfl (fun C hC => ?_) AllReady.nil
          refine step_callx (by rfl) 9 _ _ (by rfl) (fun _ _ => by rfl) [p, svV V.nodes (.slice va V.l.length vc) V.set, .agg cs.toArray] (by rfl) (HX.out.played sv HR.out.2.1) ?_
          rintro e w8 ⟨xa, xc, K8, rfl, h8⟩
          have H8 : Hid (Dp At w X w8 K S V p d (.slice va V.l.length vc) K8 (V.does (wholeT (lastV V.l) y)) (.slice xa (V.does (wholeT (lastV V.l) y)).l.length xc)) := h8
          refine ⟨_, rfl, hC _ _ ?_⟩
          clear hC C h8
          try simp only [List.getElem_toArray, List.getElem_cons_succ, List.getElem_cons_zero, Act.put, List.setIfInBounds_toArray, List.set_cons_zero, List.set_cons_succ]
          refine wpAny_take (i := 7) (v := .tuple #[svV V.nodes (.slice xa (V.does (wholeT (lastV V.l) y)).l.length xc) (V.does (wholeT (lastV V.l) y)).set, .bool true]) rfl (by kernel_rfl) (by kernel_rfl) (by kernel_rfl) (fun _ _ _ h => h) (Or.inl ⟨by rfl, by intro w; go_simp⟩) ?_
          try simp only [List.getElem_toArray, List.getElem_cons_succ, List.getElem_cons_zero, Act.put, List.setIfInBounds_toArray, List.set_cons_zero, List.set_cons_succ]
          refine wpAny_take (i := 8) (v := svV V.nodes (.slice xa (V.does (wholeT (lastV V.l) y)).l.length xc) (V.does (wholeT (lastV V.l) y)).set) rfl (by kernel_rfl) (by kernel_rfl) (by kernel_rfl) (fun _ _ _ h => h) (Or.inl ⟨by rfl, by intro w; go_simp⟩) ?_
          try simp only [List.getElem_toArray, List.getElem_cons_succ, List.getElem_cons_zero, Act.put, List.setIfInBounds_toArray, List.set_cons_zero, List.set_cons_succ]
          refine wpAny_take (i := 9) (v := .bool true) rfl (by kernel_rfl) (by kernel_rfl) (by kernel_rfl) (fun _ _ _ h => h) (Or.inl ⟨by rfl, by intro w; go_simp⟩) ?_
          try simp only [List.getElem_toArray, List.getElem_cons_succ, List.getElem_cons_zero, Act.put, List.setIfInBounds_toArray, List.set_cons_zero, List.set_cons_succ]
          refine wpAny_ready (rs := [10]) (by kernel_rfl) (by simp) ?_
          refine AllReady.cons rfl (fun C hC => ?_) AllReady.nil
          obtain ⟨s0, s1, s2⟩ := cells_3 H8.out.dx
          have fs : ∀ o, w8.frozen? ⟨d, o, none⟩ = false := free_of H8.out.dx
          go_simp
          refine hC _ _ ?_
          clear hC C s0 s1 s2 fs
          try simp only [List.getElem_toArray, List.getElem_cons_succ, List.getElem_cons_zero, Act.put, List.setIfInBounds_toArray, List.set_cons_zero, List.set_cons_succ]
          refine wpAny_ready (rs := [11]) (by kernel_rfl) (by simp) ?_
          refine AllReady.cons rfl (fun C hC => ?_) AllReady.nil
          go_simp
          refine hC _ _ ?_
          clear hC C
          try simp only [List.getElem_toArray, List.getElem_cons_succ, List.getElem_cons_zero, Act.put, List.setIfInBounds_toArray, List.set_cons_zero, List.set_cons_succ]
          refine wpAny_done (by kernel_rfl) ?_ _
          obtain ⟨S9, h9, -, -⟩ := HX.out.put sv H8.out (does_nodes V (wholeT (lastV V.l) y))
          exact ⟨[p, svV V.nodes (.slice va V.l.length vc) V.set, .slice (some ⟨b, o, none⟩) m c, .int .i64 q, .pointer (some ⟨b, o + q * 24, none⟩), .agg cs.toArray, .tuple #[svV V.nodes (.slice xa (V.does (wholeT (lastV V.l) y)).l.length xc) (V.does (wholeT (lastV V.l) y)).set, .bool true], .tuple #[svV V.nodes (.slice xa (V.does (wholeT (lastV V.l) y)).l.length xc) (V.does (wholeT (lastV V.l) y)).set, .bool true], svV V.nodes (.slice xa (V.does (wholeT (lastV V.l) y)).l.length xc) (V.does (wholeT (lastV V.l) y)).set, .bool true, .bool true], ⟨xa, xc, K8, S9, rfl, h9⟩, by simp [putsL, Act.put]⟩
        · refine step_load (by rfl) 49 _ (by rfl) b (o + q * 24) (by rfl) cs _ HXR.out Try.underlying49 rfl (by rw [HR.out.2.1.len]; exact Try.infoAct) (hC _ _ ?_)
          clear hC C
          try simp only [List.getElem_toArray, List.getElem_cons_succ, List.getElem_cons_zero, Act.put, List.setIfInBounds_toArray, List.set_cons_zero, List.set_cons_succ]
          refine wpAny_ready (rs := [1]) (by kernel_rfl) (by simp) ?_
          refine AllReady.cons rfl (fun C hC => ?_) AllReady.nil
          refine step_load (by rfl) 30 _ (by rfl) d 0 (by rfl) [.int .i64 V.nodes, (.slice va V.l.length vc), .bool V.set] _ (range_of HX.out.dx) Try.underlying30 rfl (by kernel_rfl) (hC _ _ ?_)
          clear hC C
          try simp only [List.getElem_toArray, List.getElem_cons_succ, List.getElem_cons_zero, Act.put, List.setIfInBounds_toArray, List.set_cons_zero, List.set_cons_succ]
          refine wpAny_ready (rs := [6]) (by kernel_rfl) (by simp) ?_
          refine AllReady.cons rfl (fun C hC => ?_) AllReady.nil
          refine step_callx (by rfl) 9 _ _ (by rfl) (fun _ _ => by rfl) [p, svV V.nodes (.slice va V.l.length vc) V.set, .agg cs.toArray] (by rfl) (HX.out.played sv HR.out.2.1) ?_
          rintro e w8 ⟨xa, xc, K8, rfl, h8⟩
          have H8 : Hid (Dp At w X w8 K S V p d (.slice va V.l.length vc) K8 (V.does (wholeT (lastV V.l) y)) (.slice xa (V.does (wholeT (lastV V.l) y)).l.length xc)) := h8
          refine ⟨_, rfl, hC _ _ ?_⟩
          clear hC C h8
          try simp only [List.getElem_toArray, List.getElem_cons_succ, List.getElem_cons_zero, Act.put, List.setIfInBounds_toArray, List.set_cons_zero, List.set_cons_succ]
          refine wpAny_take (i := 7) (v := .tuple #[svV V.nodes (.slice xa (V.does (wholeT (lastV V.l) y)).l.length xc) (V.does (wholeT (lastV V.l) y)).set, .bool true]) rfl (by kernel_rfl) (by kernel_rfl) (by kernel_rfl) (fun _ _ _ h => h) (Or.inl ⟨by rfl, by intro w; go_simp⟩) ?_
          try simp only [List.getElem_toArray, List.getElem_cons_succ, List.getElem_cons_zero, Act.put, List.setIfInBounds_toArray, List.set_cons_zero, List.set_cons_succ]
          refine wpAny_take (i := 8) (v := svV V.nodes (.slice xa (V.does (wholeT (lastV V.l) y)).l.length xc) (V.does (wholeT (lastV V.l) y)).set) rfl (by kernel_rfl) (by kernel_rfl) (by kernel_rfl) (fun _ _ _ h => h) (Or.inl ⟨by rfl, by intro w; go_simp⟩) ?_
          try simp only [List.getElem_toArray, List.getElem_cons_succ, List.getElem_cons_zero, Act.put, List.setIfInBounds_toArray, List.set_cons_zero, List.set_cons_succ]
          refine wpAny_take (i := 9) (v := .bool true) rfl (by kernel_rfl) (by kernel_rfl) (by kernel_rfl) (fun _ _ _ h => h) (Or.inl ⟨by rfl, by intro w; go_simp⟩) ?_
          try simp only [List.getElem_toArray, List.getElem_cons_succ, List.getElem_cons_zero, Act.put, List.setIfInBounds_toArray, List.set_cons_zero, List.set_cons_succ]
          refine wpAny_ready (rs := [10]) (by kernel_rfl) (by simp) ?_
          refine AllReady.cons rfl (fun C hC => ?_) AllReady.nil
          obtain ⟨s0, s1, s2⟩ := cells_3 H8.out.dx
          have fs : ∀ o, w8.frozen? ⟨d, o, none⟩ = false := free_of H8.out.dx
          go_simp
          refine hC _ _ ?_
          clear hC C s0 s1 s2 fs
          try simp only [List.getElem_toArray, List.getElem_cons_succ, List.getElem_cons_zero, Act.put, List.setIfInBounds_toArray, List.set_cons_zero, List.set_cons_succ]
          refine wpAny_ready (rs := [11]) (by kernel_rfl) (by simp) ?_
          refine AllReady.cons rfl (fun C hC => ?_) AllReady.nil
          go_simp
          refine hC _ _ ?_
          clear hC C
          try simp only [List.getElem_toArray, List.getElem_cons_succ, List.getElem_cons_zero, Act.put, List.setIfInBounds_toArray, List.set_cons_zero, List.set_cons_succ]
          refine wpAny_done (by kernel_rfl) ?_ _
          obtain ⟨S9, h9, -, -⟩ := HX.out.put sv H8.out (does_nodes V (wholeT (lastV V.l) y))
          exact ⟨[p, svV V.nodes (.slice va V.l.length vc) V.set, .slice (some ⟨b, o, none⟩) m c, .int .i64 q, .pointer (some ⟨b, o + q * 24, none⟩), .agg cs.toArray, .tuple #[svV V.nodes (.slice xa (V.does (wholeT (lastV V.l) y)).l.length xc) (V.does (wholeT (lastV V.l) y)).set, .bool true], .tuple #[svV V.nodes (.slice xa (V.does (wholeT (lastV V.l) y)).l.length xc) (V.does (wholeT (lastV V.l) y)).set, .bool true], svV V.nodes (.slice xa (V.does (wholeT (lastV V.l) y)).l.length xc) (V.does (wholeT (lastV V.l) y)).set, .bool true, .bool true], ⟨xa, xc, K8, S9, rfl, h9⟩, by simp [putsL, Act.put]⟩
      rintro vs w20 ⟨xa, xc, K2, S2, rfl, H20⟩
      obtain ⟨V2, hV2⟩ : ∃ V2, V.does (wholeT (lastV V.l) y) = V2 := ⟨_, rfl⟩
      rw [hV2] at H20
      rw [hV2]
      clear hV2
      obtain ⟨d0, d1, d2⟩ := cells_3 H20.out.dx
      simp only [putsL]
      go_wp2_with fail
      refine Calls.mono (H20.out.stands sv) ?_
      rintro e w21 ⟨rfl, K3, h21, -, -⟩
      have H21 : Hid (∃ v, Du At w w21 K3 V2 p d v S2) := ⟨_, h21⟩
      clear h21 H20 d0 d1 d2
      go_wp2_with fail
      exact ⟨⟨q + 1, K3, V2, S2, rfl, by go_num, by omega, H21⟩, by simp [intOf]; omega⟩
    · have hexit : ((q : Int) < (m : Int) ∧ ¬ (q : Int) < 160) ∨ ¬ (q : Int) < (m : Int) := by omega
      have HBW : Hid (Below w.heap.size w wr) := HW.out.nw.below
      clear hlt
      rcases hexit with ⟨h1', h2'⟩ | h1'
      all_goals (
        go_wp2_with fail
        go_ret
        exact ⟨rfl, HBW.out⟩)
end Go.Proofs.Ytlbhnlpdijhmlab
