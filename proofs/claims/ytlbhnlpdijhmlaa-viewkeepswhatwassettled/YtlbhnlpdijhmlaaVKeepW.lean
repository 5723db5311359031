/-
  ViewKeepsWhatWasSettled: the walk, for any service that serves.
-/
import Derived.Test.YtlbhnlpdijhmlaaVKeepP
namespace Go.Proofs.Ytlbhnlpdijhmlaa
open Go.RowKit
set_option linter.unusedVariables false
set_option linter.unusedSimpArgs false

abbrev hvA (hv : List Bool) : Array Value := (hv.map Value.bool).toArray
/-- The service, and the list of who has it. -/
structure KW (At : World → (Nat → Prop) → SvT → Value → Prop) (w0 w : World) (K : Nat → Prop) (V : SvT) (p : Value) (g : Nat) (hv : List Bool) : Prop where
  nw : Nw At w0 w K V p
  box : w.heap[g]? = some (.cells (hvA hv) 4 (0, 0))
  nk : ¬ K g
  own : w0.heap.size ≤ g
theorem KW.call {At : World → (Nat → Prop) → SvT → Value → Prop} {w0 w w' : World} {K : Nat → Prop} {V V' : SvT} {p : Value} {g : Nat} {hv : List Bool} (h : KW At w0 w K V p g hv) (he : SvE At w K V' p w') : ∃ K', KW At w0 w' K' V' p g hv := by
  have hl := lt_of_blk h.box
  obtain ⟨K', h1, h2, h3⟩ := he
  obtain ⟨hx⟩ : Nonempty (Nw At w0 w' K' V' p) := by
    refine ⟨h1, ?_, fun j hj => (h3 j hj).elim (h.nw.new j) (fun hh => Nat.le_trans h.nw.below.size hh)⟩
    exact ⟨h2.os.trans h.nw.below.os, h2.tape.trans h.nw.below.tape, h2.output.trans h.nw.below.output, Nat.le_trans h.nw.below.size h2.size, fun j hj => by rw [h2.block j (Nat.lt_of_lt_of_le hj h.nw.below.size) (fun e => by have := h.nw.new j e; omega)]; exact h.nw.below.block j hj⟩
  exact ⟨K', hx, by rw [h2.block g hl h.nk]; exact h.box, fun hg => (h3 g hg).elim h.nk (fun hh => by omega), h.own⟩
theorem KW.calls {At : World → (Nat → Prop) → SvT → Value → Prop} {w0 w w' : World} {K : Nat → Prop} {V V' : SvT} {p : Value} {g d : Nat} {hv : List Bool} {ob : Obj} (h : KW At w0 w K V p g hv) (hd : w.heap[d]? = some ob) (hk : ¬ K d) (he : SvE At w K V' p w') : w'.heap[d]? = some ob ∧ ∃ K', KW At w0 w' K' V' p g hv := by
  refine ⟨?_, h.call he⟩
  obtain ⟨K', h1, h2, h3⟩ := he
  rw [h2.block d (lt_of_blk hd) hk]
  exact hd
theorem KW.on {At : World → (Nat → Prop) → SvT → Value → Prop} (sv : Serves At) {w0 w w' : World} {K : Nat → Prop} {V : SvT} {p : Value} {g : Nat} {hv : List Bool} (h : KW At w0 w K V p g hv) (hb : Below w.heap.size w w') : KW At w0 w' K V p g hv :=
  ⟨h.nw.on sv hb, kept_block hb h.box, h.nk, h.own⟩
theorem hvA_set (hv : List Bool) (i : Nat) : (hvA hv).setIfInBounds i (.bool true) = hvA (hv.set i true) := by
  simp [hvA, List.map_set]
theorem KW.set {At : World → (Nat → Prop) → SvT → Value → Prop} (sv : Serves At) {w0 w : World} {K : Nat → Prop} {V : SvT} {p : Value} {g : Nat} {hv : List Bool} (h : KW At w0 w K V p g hv) (i : Nat) : KW At w0 (w.setCell ⟨g, i, none⟩ (.bool true)) K V p g (hv.set i true) := by
  have hc := Chg.set w ⟨g, i, none⟩ (.bool true)
  refine ⟨⟨sv.keep h.nw.at' (Kp.of_chg hc (fun j _ hj e => h.nk (by have e : j = g := e; rw [← e]; exact hj))), h.nw.below.setCell h.own _, h.nw.new⟩, ?_, h.nk, h.own⟩
  rw [set_at h.box, hvA_set]
theorem KW.cell {At : World → (Nat → Prop) → SvT → Value → Prop} {w0 w : World} {K : Nat → Prop} {V : SvT} {p : Value} {g : Nat} {hv : List Bool} (h : KW At w0 w K V p g hv) {i : Nat} {x : Bool} (hx : hv[i]? = some x) : w.cell? ⟨g, i, none⟩ = some (.bool x) := by
  rw [cell_of h.box]
  simp [hvA, hx]
theorem Try.info_bool : (Try.prog.info? 4).map (fun i => (i.zero, i.size, i.bytes)) = some (some (.bool false), 1, 1) := by kernel_rfl
theorem heap_setCell_other' {w : World} {g d o : Nat} {x : Value} {ob : Obj} (h : w.heap[d]? = some ob) (hne : d ≠ g) : (w.setCell ⟨g, o, none⟩ x).heap[d]? = some ob := by
  rw [(Chg.set w ⟨g, o, none⟩ x).block d (lt_of_blk h) (fun e => hne e)]
  exact h
theorem make6 (w : World) : (Instr.makeSlice 35 (.int .i64 6) (.int .i64 6)).run Try.prog w = .ok (.slice (some ⟨w.heap.size, 0, none⟩) 6 6) (w.alloc (.cells #[.bool false, .bool false, .bool false, .bool false, .bool false, .bool false] 4)) := by
  kernel_rfl
set_option maxHeartbeats 12800000 in
set_option maxRecDepth 100000 in
theorem ViewKeepsWhatWasSettled_walk {At : World → (Nat → Prop) → SvT → Value → Prop} (sv : Serves At) (nodes from_ : Int) (v : Value) (l : List WhT) (w : World) (h : ActsAt w (fun b => b < w.heap.size) v l) (hl : l.length ≤ maxLen) :
    Calls Try.prog 4 #[.int .i64 nodes, v, .int .i64 from_] w fun e w' => e = .returned (.bool true) ∧ Below w.heap.size w w' := by
  unfold maxLen at hl
  obtain ⟨a, c, rfl, hc⟩ := RowAt.form h
  obtain ⟨m, hm⟩ : ∃ m, l.length = m := ⟨_, rfl⟩
  rw [hm] at h hl ⊢
  have HM : Hid (l.length = m) := hm
  have HLS : Hid (ActsAt w (fun b => b < w.heap.size) (.slice a m c) l) := h
  have HBE : Hid (∀ w, _) := fun w => begins_any sv w
  clear h hm hc
  by_cases hno : nodes < 1 ∨ 5 < nodes
  · have HN : Hid (∀ w, _) := fun w => sv.new_no w nodes hno
    clear hno
    go_enter Try.func4, Try.ntmps4
    go_wp2_with fail
    refine Calls.mono (HBE.out _) ?_
    rintro e w1 ⟨rfl, hb1⟩
    have HB1 : Hid _ := hb1
    clear hb1
    go_wp2_with fail
    refine Calls.mono (HN.out _) ?_
    rintro e w2 ⟨rfl, hb2⟩
    have HB2 : Hid _ := trans2 HB1.out hb2
    clear hb2
    go_wp2_with fail
    go_ret
    exact ⟨rfl, HB2.out⟩
  have h15 : 1 ≤ nodes ∧ nodes ≤ 5 := by omega
  have HN : Hid (∀ w, _) := fun w => sv.new_ok w nodes h15.1 h15.2
  have HK0 : Hid (KI (newV nodes) false 0 [false, false, false, false, false, false]) := new_ki nodes h15.1 h15.2
  clear hno h15
  go_enter Try.func4, Try.ntmps4
  go_wp2_with fail
  refine Calls.mono (HBE.out _) ?_
  rintro e w1 ⟨rfl, hb1⟩
  have HB1 : Hid (Below w.heap.size w w1) := hb1
  clear hb1
  go_wp2_with fail
  refine Calls.mono (HN.out _) ?_
  rintro e w2 ⟨sb, K, rfl, h1, h2, h3⟩
  obtain ⟨p, hp⟩ : ∃ p, Value.pointer (some ⟨sb, 0, none⟩) = p := ⟨_, rfl⟩
  have H2 : Hid (Nw At w w2 K (newV nodes) p) := ⟨by rw [← hp]; exact h1, trans2 HB1.out h2, fun j hj => Nat.le_trans HB1.out.size (h3 j hj)⟩
  rw [hp]
  clear h1 h2 h3 hp
  have hmk := make6
  go_wp2_with fail
  clear hmk
  obtain ⟨g, hg⟩ : ∃ g, w2.heap.size = g := ⟨_, rfl⟩
  obtain ⟨w3, hw3⟩ : ∃ w3, w2.alloc (.cells #[.bool false, .bool false, .bool false, .bool false, .bool false, .bool false] 4) = w3 := ⟨_, rfl⟩
  rw [hw3, hg]
  have H3 : Hid (KW At w w3 K (newV nodes) p g [false, false, false, false, false, false]) := by
    have hal : Below w2.heap.size w2 w3 := by rw [← hw3]; exact (Below.refl _ _).alloc (Nat.le_refl _) _
    exact ⟨H2.out.on sv hal, by rw [← hw3, ← hg]; exact heap_alloc_new _ _, fun hk => by have := sv.lt H2.out.at' g hk; omega, by have := H2.out.below.size; omega⟩
  clear hw3 hg H2
  go_wp2_with fail
  go_loopw [11, 12, 13] (fun gi si i wr => ∃ (q sn : Nat) (gv : Bool) (K : Nat → Prop) (V : SvT) (hv : List Bool), gi = .bool gv ∧ si = .int .i64 sn ∧ i = .int .i64 q ∧ q ≤ m ∧ Hid (KW At w wr K V p g hv) ∧ Hid (KI V gv sn hv)) (fun _ _ i _ => m - (intOf i).toNat)
  case atStart => exact ⟨0, 0, false, K, _, _, rfl, rfl, rfl, Nat.zero_le _, H3, HK0⟩
  case round =>
    clear H3 HK0
    obtain ⟨q, sn, gv, K, V, hv, rfl, rfl, rfl, hq, HW, HI⟩ := hrel
    by_cases hlt : q < m ∧ q < 160
    · obtain ⟨hlt, h160⟩ := hlt
      have hqi : (q : Int) < (m : Int) := by omega
      have h160' : (q : Int) < 160 := by omega
      obtain ⟨y, hy⟩ : ∃ y, l[q]? = some y := ⟨l[q]'(by rw [HM.out]; exact hlt), List.getElem?_eq_getElem _⟩
      obtain ⟨b, o, rfl, _, hb, cs, hat, hr⟩ := RowAt.get (ActsAt.keep HLS.out (Kp.of_below HW.out.nw.below _)) hy
      have HR : Hid (wr.rangeAt b (o + q * 24) cs ∧ y.At cs) := ⟨hr, hat⟩
      clear hy hb hat hr
      go_wp2_with (first
        | (refine wpList_load_mid rfl 49 _ rfl b (o + q * 24) rfl cs _ HR.out.1 Try.underlying49 rfl (by rw [HR.out.2.len]; exact Try.infoAct) ?_)
        | (go_at_call 15; refine Calls.mono (did_any sv wr K V p y cs HW.out.nw.at' HR.out.2) ?_; rintro e w4 ⟨rfl, he4⟩
           obtain ⟨K4, h4⟩ := HW.out.call he4
           have hm4 := HI.out.did (wholeT (lastV V.l) y)
           obtain ⟨V4, hV4⟩ : ∃ V4, V.does (wholeT (lastV V.l) y) = V4 := ⟨_, rfl⟩
           rw [hV4] at h4 hm4
           have H4 : Hid (KW At w w4 K4 V4 p g hv) := h4
           have HM4 : Hid (KM V4 gv sn hv) := hm4
           clear he4 h4 hm4 hV4)
        | (go_at_call 11; refine Calls.mono (sv.now w4 K4 V4 p H4.out.nw.at') ?_; rintro e w5 ⟨rfl, he5⟩
           obtain ⟨K5, h5⟩ := H4.out.call he5
           have H5 : Hid (KW At w w5 K5 V4 p g hv) := h5
           obtain ⟨pn, bn, ep, eb, p1, p5, b5, hne, en⟩ := HM4.out.nodes
           obtain ⟨N, hN⟩ : ∃ N, V4.l.length = N := ⟨_, rfl⟩
           rw [hN] at en
           rw [show vwV (lastV V4.l) = .agg #[.int .i64 (N : Int), .int .i64 (pn : Int), .int .i64 (bn : Int)] by unfold vwV; rw [ep, eb, en]]
           have HE : Hid ((lastV V4.l).p.toNat = pn ∧ (lastV V4.l).b.toNat = bn ∧ (lastV V4.l).n = N ∧ V4.l.length = N) := ⟨by omega, by omega, en, hN⟩
           have c1 : ¬ (pn : Int) < 1 := by omega
           have c2 : ¬ (5 : Int) < pn := by omega
           have c3 : ¬ (bn : Int) < 0 := by omega
           have c4 : ¬ (5 : Int) < bn := by omega
           have HP : Hid (1 ≤ pn ∧ pn ≤ 5 ∧ bn ≤ 5) := ⟨p1, p5, b5⟩
           clear he5 h5 ep eb en hN p1 p5 b5 hne)
        | fail)
      obtain ⟨w6, hw6⟩ : ∃ w6, w5.alloc (.cells #[.int .i64 (N : Int), .int .i64 (pn : Int), .int .i64 (bn : Int)] 28) = w6 := ⟨_, rfl⟩
      obtain ⟨d, hd⟩ : ∃ d, w5.heap.size = d := ⟨_, rfl⟩
      have H6 : Hid (KW At w w6 K5 V4 p g hv) := H5.out.on sv (by rw [← hw6]; exact (Below.refl _ _).alloc (Nat.le_refl _) _)
      have hbx : w6.heap[d]? = some (.cells #[.int .i64 (N : Int), .int .i64 (pn : Int), .int .i64 (bn : Int)] 28 (0, 0)) := by rw [← hw6, ← hd]; exact heap_alloc_new _ _
      have hkd : ¬ K5 d := fun hk => by have := sv.lt H5.out.nw.at' d hk; omega
      have HD : Hid (d ≠ g) := fun e => by have := lt_of_blk H5.out.box; omega
      rw [hw6, hd]
      clear hw6 hd H5 H4
      refine Calls.mono (sv.settled w6 K5 V4 p H6.out.nw.at') ?_
      rintro e w7 ⟨rfl, he7⟩
      obtain ⟨hb7, K7, h7⟩ := H6.out.calls hbx hkd he7
      have H7 : Hid (KW At w w7 K7 V4 p g hv) := h7
      clear he7 h7 hbx hkd H6
      cases hs : V4.set with
      | false =>
        clear hb7
        go_wp2_with fail
        exact ⟨⟨q + 1, sn, gv, K7, V4, hv, rfl, rfl, by go_num, by omega, H7, HM4.out.un' hs⟩, by simp [intOf]; omega⟩
      | true =>
        have HS : Hid (V4.set = true) := hs
        clear hs
        have d0 : w7.cell? ⟨d, 0, none⟩ = some (.int .i64 (N : Int)) := by rw [cell_of hb7]; rfl
        have d1 : w7.cell? ⟨d, 1, none⟩ = some (.int .i64 (pn : Int)) := by rw [cell_of hb7]; rfl
        have d2 : w7.cell? ⟨d, 2, none⟩ = some (.int .i64 (bn : Int)) := by rw [cell_of hb7]; rfl
        have HB7 : Hid _ := hb7
        clear hb7
        by_cases hsn : N = sn
        · subst hsn
          go_wp2_with fail
          exact ⟨⟨q + 1, N, gv, K7, V4, hv, rfl, rfl, by go_num, by omega, H7, HM4.out.same HE.out.2.2.1⟩, by simp [intOf]; omega⟩
        · have hsi : ¬ (N : Int) = (sn : Int) := by omega
          have HSN : Hid (sn ≠ N) := fun e => hsn e.symm
          clear hsn
          have hp6 : (pn : Int) < 6 := by omega
          have hb6 : (bn : Int) < 6 := by omega
          have fg : ∀ o, w7.frozen? ⟨g, o, none⟩ = false := free_of H7.out.box
          have hl6 := HM4.out.len
          have hPP := HP.out
          obtain ⟨xb, hxb⟩ : ∃ x, hv[bn]? = some x := ⟨_, List.getElem?_eq_getElem (by omega)⟩
          obtain ⟨xp, hxp⟩ : ∃ x, hv[pn]? = some x := ⟨_, List.getElem?_eq_getElem (by omega)⟩
          obtain ⟨xb', hxb'⟩ : ∃ x, (hv.set pn true)[bn]? = some x := ⟨_, List.getElem?_eq_getElem (by simp; omega)⟩
          have HXB : Hid ((hv.set pn true)[bn]? = some xb') := hxb'
          clear hl6 hPP hxb'
          cases gv with
          | true =>
            have hcb := H7.out.cell hxb
            clear hxb hxp
            have hpr := HM4.out.prim (by rw [HE.out.2.2.2]; exact HSN.out)
            rw [HE.out.1] at hpr
            have hcp := H7.out.cell hpr
            have H8 : Hid _ := H7.out.set sv bn
            have HI8 : Hid (KI V4 true N (hv.set bn true)) := by
              have hl := HM4.out.len
              have := HP.out
              have hk := HM4.out.seen (hv' := hv.set bn true) HS.out true (by simp [hl]) (fun _ => by rw [HE.out.1, HE.out.2.1]; exact ⟨by rw [List.getElem?_set]; split <;> simp_all <;> omega, by rw [List.getElem?_set]; simp [hl]; omega⟩)
              rwa [HE.out.2.2.2] at hk
            clear hpr
            go_wp2_with fail
            exact ⟨⟨q + 1, N, true, K7, V4, _, rfl, rfl, by go_num, by omega, H8, HI8⟩, by simp [intOf]; omega⟩
          | false =>
            by_cases hf : from_ < (N : Int)
            · have hcp7 := H7.out.cell hxp
              clear hxb hxp
              have H8 : Hid _ := H7.out.set sv pn
              have hcb := H8.out.cell HXB.out
              have H9 : Hid _ := H8.out.set sv bn
              have hcp := H8.out.cell (i := pn) (x := true) (by have := HP.out; rw [List.getElem?_set]; simp [HM4.out.len]; omega)
              have HI9 : Hid (KI V4 true N ((hv.set pn true).set bn true)) := by
                have hl := HM4.out.len
                have := HP.out
                have hk := HM4.out.seen (hv' := (hv.set pn true).set bn true) HS.out true (by simp [hl]) (fun _ => by
                  rw [HE.out.1, HE.out.2.1]
                  refine ⟨?_, by rw [List.getElem?_set]; simp [hl]; omega⟩
                  rw [List.getElem?_set, List.getElem?_set]
                  split
                  · simp_all; omega
                  · simp [hl]; omega)
                rwa [HE.out.2.2.2] at hk
              have e0 : (w7.setCell ⟨g, pn, none⟩ (.bool true)).cell? ⟨d, 0, none⟩ = some (.int .i64 (N : Int)) := by rw [cell_of (heap_setCell_other' HB7.out HD.out)]; rfl
              have e1 : (w7.setCell ⟨g, pn, none⟩ (.bool true)).cell? ⟨d, 1, none⟩ = some (.int .i64 (pn : Int)) := by rw [cell_of (heap_setCell_other' HB7.out HD.out)]; rfl
              have e2 : (w7.setCell ⟨g, pn, none⟩ (.bool true)).cell? ⟨d, 2, none⟩ = some (.int .i64 (bn : Int)) := by rw [cell_of (heap_setCell_other' HB7.out HD.out)]; rfl
              have fg8 : ∀ o, (w7.setCell ⟨g, pn, none⟩ (.bool true)).frozen? ⟨g, o, none⟩ = false := free_of H8.out.box
              go_wp2_with fail
              exact ⟨⟨q + 1, N, true, K7, V4, _, rfl, rfl, by go_num, by omega, H9, HI9⟩, by simp [intOf]; omega⟩
            · clear hxb hxp
              have HI8 : Hid (KI V4 false N hv) := by
                have hk := HM4.out.seen (hv' := hv) HS.out false HM4.out.len (fun hh => by cases hh)
                rwa [HE.out.2.2.2] at hk
              go_wp2_with fail
              exact ⟨⟨q + 1, N, false, K7, V4, hv, rfl, rfl, by go_num, by omega, H7, HI8⟩, by simp [intOf]; omega⟩
    · have HBW : Hid (Below w.heap.size w wr) := HW.out.nw.below
      have hexit : ((q : Int) < (m : Int) ∧ ¬ (q : Int) < 160) ∨ ¬ (q : Int) < (m : Int) := by omega
      clear hlt
      rcases hexit with ⟨h1', h2'⟩ | h1'
      all_goals (
        go_wp2_with fail
        go_ret
        exact ⟨rfl, HBW.out⟩)
end Go.Proofs.Ytlbhnlpdijhmlaa
