/-
  ViewChains: the walk, for any service that serves.
-/
import Derived.Test.YtlbhnlpdijhmlaaVSame
import Derived.Test.YtlbhnlpdijhmlaaVKeepP
import Derived.Deep.CutRange
namespace Go.Proofs.Ytlbhnlpdijhmlaa
open Go.RowKit
set_option linter.unusedVariables false
set_option linter.unusedSimpArgs false

/-- What an act tells of a service ahead and behind. -/
theorem does_facts {V : SvT} (x : WhT) (pr st : Bool) (hp : pr = decide (x.kind = 1 ∧ V.promC x.a x.b = 0)) (hs : st = decide (x.kind = 2 ∧ V.settC x.a x.b = 0)) :
    (pr = true ∧ st = false ∧ V.set = true ∧ (V.does x).set = false ∧ (V.does x).l.length = V.l.length + 1) ∨ (pr = false ∧ st = true ∧ (V.does x).set = true ∧ (V.does x).l.length = V.l.length) ∨ (pr = false ∧ st = false ∧ V.set = true ∧ (V.does x).set = true ∧ (V.does x).l.length = V.l.length) ∨ (pr = false ∧ st = false ∧ V.set = false ∧ (V.does x).l.length = V.l.length) := by
  have hset : ∀ n k, (V.sett n k).l = V.l ∧ (V.set = true → (V.sett n k).set = true) := fun n k => by
    unfold SvT.sett
    split
    · exact ⟨rfl, fun _ => rfl⟩
    · exact ⟨rfl, id⟩
  by_cases k1 : x.kind = 1
  · have e : V.does x = V.prom x.a x.b := by unfold SvT.does; rw [if_pos k1]
    have hst : st = false := by rw [hs]; simp [k1]
    by_cases hc : V.promC x.a x.b = 0
    · have e2 : V.prom x.a x.b = ⟨V.nodes, V.l ++ [⟨(lastV V.l).n + 1, x.a, x.b⟩], false⟩ := by unfold SvT.prom; rw [if_pos hc]
      have hvs : V.set = true := by
        cases hv : V.set with
        | true => rfl
        | false => unfold SvT.promC at hc; rw [if_pos hv] at hc; cases hc
      refine .inl ⟨by rw [hp]; simp [k1, hc], hst, hvs, by rw [e, e2], by rw [e, e2]; simp⟩
    · have e2 : V.prom x.a x.b = V := by unfold SvT.prom; rw [if_neg hc]
      have hpr : pr = false := by rw [hp]; simp [hc]
      rw [e, e2]
      cases hv : V.set with
      | true => exact .inr (.inr (.inl ⟨hpr, hst, rfl, rfl, rfl⟩))
      | false => exact .inr (.inr (.inr ⟨hpr, hst, rfl, rfl⟩))
  · have hpr : pr = false := by rw [hp]; simp [k1]
    by_cases k2 : x.kind = 2
    · have e : V.does x = V.sett x.a x.b := by unfold SvT.does; rw [if_neg k1, if_pos k2]
      by_cases hc : V.settC x.a x.b = 0
      · have e2 : V.sett x.a x.b = ⟨V.nodes, V.l, true⟩ := by unfold SvT.sett; rw [if_pos hc]
        exact .inr (.inl ⟨hpr, by rw [hs]; simp [k2, hc], by rw [e, e2], by rw [e, e2]⟩)
      · have e2 : V.sett x.a x.b = V := by unfold SvT.sett; rw [if_neg hc]
        have hst : st = false := by rw [hs]; simp [hc]
        rw [e, e2]
        cases hv : V.set with
        | true => exact .inr (.inr (.inl ⟨hpr, hst, rfl, rfl, rfl⟩))
        | false => exact .inr (.inr (.inr ⟨hpr, hst, rfl, rfl⟩))
    · have hst : st = false := by rw [hs]; simp [k2]
      have hh : (V.does x).l = V.l ∧ (V.set = true → (V.does x).set = true) := by
        unfold SvT.does
        rw [if_neg k1, if_neg k2]
        split
        · unfold SvT.took
          split
          · exact hset _ _
          · exact ⟨rfl, id⟩
        · exact ⟨rfl, id⟩
      cases hv : V.set with
      | true => exact .inr (.inr (.inl ⟨hpr, hst, rfl, hh.2 hv, by rw [hh.1]⟩))
      | false => exact .inr (.inr (.inr ⟨hpr, hst, rfl, by rw [hh.1]⟩))
/-- A service, and all views as they were told. -/
structure Cn (At : World → (Nat → Prop) → SvT → Value → Prop) (w0 w : World) (K : Nat → Prop) (V : SvT) (p u : Value) : Prop where
  nw : Nw At w0 w K V p
  tol : VwsAt w (fun j => j < w.heap.size ∧ ¬ K j) u V.l
theorem Cn.call {At : World → (Nat → Prop) → SvT → Value → Prop} {w0 w w' : World} {K : Nat → Prop} {V : SvT} {p u : Value} (h : Cn At w0 w K V p u) (he : SvE At w K V p w') : ∃ K', Cn At w0 w' K' V p u := by
  obtain ⟨K', h1, h2, h3⟩ := he
  refine ⟨K', ⟨h1, ?_, fun j hj => (h3 j hj).elim (h.nw.new j) (fun hh => Nat.le_trans h.nw.below.size hh)⟩, VwsAt.mono (VwsAt.keep h.tol (Kp.of_chg h2 (fun j hj hS => hS.2))) (fun j hj hS => ⟨hj, fun hk => (h3 j hk).elim hS.2 (fun hh => by have := hS.1; omega)⟩)⟩
  exact ⟨h2.os.trans h.nw.below.os, h2.tape.trans h.nw.below.tape, h2.output.trans h.nw.below.output, Nat.le_trans h.nw.below.size h2.size, fun j hj => by rw [h2.block j (Nat.lt_of_lt_of_le hj h.nw.below.size) (fun e => by have := h.nw.new j e; omega)]; exact h.nw.below.block j hj⟩
theorem Cn.on {At : World → (Nat → Prop) → SvT → Value → Prop} (sv : Serves At) {w0 w w' : World} {K : Nat → Prop} {V : SvT} {p u : Value} (h : Cn At w0 w K V p u) (hb : Below w.heap.size w w') : Cn At w0 w' K V p u :=
  ⟨h.nw.on sv hb, VwsAt.mono (VwsAt.keep h.tol (Kp.of_below hb _)) (fun j hj hS => ⟨hj, hS.2⟩)⟩
theorem does_nodes' (V : SvT) (x : WhT) : (V.does x).nodes = V.nodes := by
  have hs : ∀ n k, (V.sett n k).nodes = V.nodes := fun n k => by unfold SvT.sett; split <;> rfl
  unfold SvT.does
  split
  · unfold SvT.prom; split <;> rfl
  · split
    · exact hs _ _
    · split
      · unfold SvT.took
        split
        · exact hs _ _
        · rfl
      · rfl
theorem does_ne' {V : SvT} (h : V.l ≠ []) (x : WhT) : (V.does x).l ≠ [] := by
  rcases does_cases V x with e | ⟨t, hs, e⟩ | e
  · rw [e]; exact h
  · rw [e]; simp
  · rw [e]; exact h
set_option maxHeartbeats 25600000 in
set_option maxRecDepth 100000 in
theorem ViewChains_walk {At : World → (Nat → Prop) → SvT → Value → Prop} (sv : Serves At) (nodes : Int) (v : Value) (l : List WhT) (w : World) (h : ActsAt w (fun b => b < w.heap.size) v l) (hl : l.length ≤ maxLen) :
    Calls Try.prog 5 #[.int .i64 nodes, v] w fun e w' => e = .returned (.bool true) ∧ Below w.heap.size w w' := by
  unfold maxLen at hl
  obtain ⟨a, c, rfl, hc⟩ := RowAt.form h
  obtain ⟨m, hm⟩ : ∃ m, l.length = m := ⟨_, rfl⟩
  rw [hm] at h hl ⊢
  have HM : Hid (l.length = m) := hm
  have HLS : Hid (ActsAt w (fun b => b < w.heap.size) (.slice a m c) l) := h
  have HBE : Hid (∀ w, _) := fun w => begins_any sv w
  clear h hm hc
  by_cases hno : nodes < 1 ∨ (¬ nodes < 1 ∧ 5 < nodes)
  · have HN : Hid (∀ w, _) := fun w => sv.new_no w nodes (hno.imp id (fun h => h.2))
    rcases hno with h1 | ⟨h1, h2⟩
    all_goals
      go_enter Try.func5, Try.ntmps5
      go_wp2_with fail
      refine Calls.mono (HBE.out _) ?_
      rintro e w1 ⟨rfl, hb1⟩
      have HB1 : Hid (Below w.heap.size w w1) := hb1
      clear hb1
      go_wp2_with fail
      refine Calls.mono (HN.out _) ?_
      rintro e w2 ⟨rfl, hb2⟩
      have HB2 : Hid (Below w.heap.size w w2) := trans2 HB1.out hb2
      clear hb2
      go_wp2_with fail
      go_ret
      exact ⟨rfl, HB2.out⟩
  have h15 : 1 ≤ nodes ∧ nodes ≤ 5 := by omega
  have HN : Hid (∀ w, _) := fun w => sv.new_ok w nodes h15.1 h15.2
  clear hno h15
  go_enter Try.func5, Try.ntmps5
  go_wp2_with fail
  refine Calls.mono (HBE.out _) ?_
  rintro e w1 ⟨rfl, hb1⟩
  have HB1 : Hid (Below w.heap.size w w1) := hb1
  clear hb1
  go_wp2_with fail
  refine Calls.mono (HN.out _) ?_
  rintro e w2 ⟨sb, K, rfl, g1, g2, g3⟩
  obtain ⟨p, hp⟩ : ∃ p, Value.pointer (some ⟨sb, 0, none⟩) = p := ⟨_, rfl⟩
  have H2 : Hid (Nw At w w2 K (newV nodes) p) := ⟨by rw [← hp]; exact g1, trans2 HB1.out g2, fun j hj => Nat.le_trans HB1.out.size (g3 j hj)⟩
  rw [hp]
  clear g1 g2 g3 hp
  go_wp2_with fail
  go_loopw [8] (fun i wr => ∃ (q : Nat) (K : Nat → Prop) (V : SvT), i = .int .i64 q ∧ q ≤ m ∧ Hid (Nw At w wr K V p) ∧ Hid (V.nodes = nodes ∧ V.l ≠ [])) (fun i _ => m - (intOf i).toNat)
  case atStart => exact ⟨0, K, _, rfl, Nat.zero_le _, H2, ⟨rfl, by simp [newV]⟩⟩
  case round =>
    clear H2
    obtain ⟨q, K, V, rfl, hq, HW, HV⟩ := hrel
    by_cases hlt : q < m ∧ q < 160
    · obtain ⟨hlt, h160⟩ := hlt
      have hqi : (q : Int) < (m : Int) := by omega
      have h160' : (q : Int) < 160 := by omega
      obtain ⟨y, hy⟩ : ∃ y, l[q]? = some y := ⟨l[q]'(by rw [HM.out]; exact hlt), List.getElem?_eq_getElem _⟩
      obtain ⟨b, o, rfl, _, hb, cs, hat, hr⟩ := RowAt.get HLS.out hy
      have HR : Hid (w.rangeAt b (o + q * 24) cs ∧ y.At cs ∧ b < w.heap.size) := ⟨hr, hat, hb⟩
      clear hy hb hat hr
      go_wp2_with fail
      refine Calls.mono (sv.settled wr K V p HW.out.at') ?_
      rintro e w3 ⟨rfl, he3⟩
      obtain ⟨K3, h3⟩ := HW.out.call he3
      have H3 : Hid (Nw At w w3 K3 V p) := h3
      clear he3 h3 HW
      obtain ⟨was, hwas⟩ : ∃ was, V.set = was := ⟨_, rfl⟩
      have HWAS : Hid (V.set = was) := hwas
      rw [hwas]
      clear hwas
      go_wp2_with fail
      refine Calls.mono (sv.all w3 K3 V p H3.out.at') ?_
      rintro e w4 ⟨u4, K4, rfl, hu4, h4, hc4, hn4⟩
      obtain ⟨ua4, uc4, rfl, -⟩ := RowAt.form hu4
      obtain ⟨K5, h5⟩ := H3.out.call ⟨K4, h4, hc4, hn4⟩
      have H5 : Hid (Nw At w w4 K5 V p) := h5
      obtain ⟨n, hn⟩ : ∃ n, V.l.length = n := ⟨_, rfl⟩
      have hn401 : n ≤ 401 := by rw [← hn]; exact (sv.ok h5.at').len
      have HNN : Hid (V.l.length = n) := hn
      rw [hn]
      clear hu4 h4 hc4 hn4 h5 H3 hn
      have HR4 : Hid (w4.rangeAt b (o + q * 24) cs) := fun j u hu => by
        rw [H5.out.below.cell (p := ⟨b, o + q * 24 + j, none⟩) HR.out.2.2]
        exact HR.out.1 j u hu
      go_wp2_with (first
        | (refine wpList_load_mid rfl 49 _ rfl b (o + q * 24) rfl cs _ HR4.out Try.underlying49 rfl (by rw [HR.out.2.1.len]; exact Try.infoAct) ?_)
        | fail)
      refine Calls.mono (did_any sv w4 K5 V p y cs H5.out.at' HR.out.2.1) ?_
      rintro e w6 ⟨rfl, he6⟩
      obtain ⟨K6, h6⟩ := H5.out.call he6
      obtain ⟨pr, hpr⟩ : ∃ pr, decide ((wholeT (lastV V.l) y).kind = 1 ∧ V.promC (wholeT (lastV V.l) y).a (wholeT (lastV V.l) y).b = 0) = pr := ⟨_, rfl⟩
      obtain ⟨st, hst⟩ : ∃ st, decide ((wholeT (lastV V.l) y).kind = 2 ∧ V.settC (wholeT (lastV V.l) y).a (wholeT (lastV V.l) y).b = 0) = st := ⟨_, rfl⟩
      have hfa := does_facts (wholeT (lastV V.l) y) pr st hpr.symm hst.symm
      have hdn := does_nodes' V (wholeT (lastV V.l) y)
      have hdl := does_ne' HV.out.2 (wholeT (lastV V.l) y)
      rw [hpr, hst]
      obtain ⟨V6, hV6⟩ : ∃ V6, V.does (wholeT (lastV V.l) y) = V6 := ⟨_, rfl⟩
      rw [hV6] at h6 hfa hdn hdl
      rw [HNN.out, HWAS.out] at hfa
      have H6 : Hid (Nw At w w6 K6 V6 p) := h6
      have HV6 : Hid (V6.nodes = nodes ∧ V6.l ≠ []) := ⟨by rw [hdn]; exact HV.out.1, hdl⟩
      have HFA : Hid _ := hfa
      clear he6 h6 hpr hst hfa hdn hdl hV6 H5 HR4 HR HWAS HNN
      go_wp2_with fail
      refine Calls.mono (sv.all w6 K6 V6 p H6.out.at') ?_
      rintro e w7 ⟨u7, K7, rfl, hu7, h7, hc7, hn7⟩
      have H7 : Hid (Cn At w w7 K7 V6 p u7) := by
        refine ⟨⟨h7, ?_, fun j hj => (hn7 j hj).elim (H6.out.new j) (fun hh => Nat.le_trans H6.out.below.size hh)⟩, VwsAt.mono hu7 (fun j hj hS => ⟨hj, hS.2⟩)⟩
        exact ⟨hc7.os.trans H6.out.below.os, hc7.tape.trans H6.out.below.tape, hc7.output.trans H6.out.below.output, Nat.le_trans H6.out.below.size hc7.size, fun j hj => by rw [hc7.block j (Nat.lt_of_lt_of_le hj H6.out.below.size) (fun e => by have := H6.out.new j e; omega)]; exact H6.out.below.block j hj⟩
      obtain ⟨ua, uc, rfl, -⟩ := RowAt.form hu7
      obtain ⟨N, hN⟩ : ∃ N, V6.l.length = N := ⟨_, rfl⟩
      have hN401 : N ≤ 401 := by rw [← hN]; exact (sv.ok h7).len
      have HOK : Hid V6.Ok := sv.ok h7
      rw [hN] at HFA H7
      rw [hN]
      have HNL : Hid (V6.l.length = N) := hN
      clear hu7 h7 hc7 hn7 hN H6
      go_upto_region 14 with fail
      have hnw : IntKind.i64.wrap ((n : Int) + 1) = (n : Int) + 1 := by rw [IntKind.wrap_i64]; omega
      go_cut [107] from 36 to 189 (fun s107 wc => s107 = .bool false ∧ ∃ K', Hid (Cn At w wc K' V6 p (.slice ua N uc)))
      case first =>
        rcases HFA.out with ⟨rfl, rfl, rfl, hs6, hN⟩ | ⟨rfl, rfl, hs6, hN⟩ | ⟨rfl, rfl, rfl, hs6, hN⟩ | ⟨rfl, rfl, rfl, hN⟩
        · have hNi : (N : Int) = (n : Int) + 1 := by omega
          have HS6 : Hid (V6.set = false) := hs6
          clear hs6 hN HFA
          go_wp2_with (first
            | (go_at_call 16; refine Calls.mono (sv.settled w7 K7 V6 p H7.out.nw.at') ?_; rintro e w8 ⟨rfl, he8⟩
               obtain ⟨K8, h8⟩ := H7.out.call he8
               have H8 : Hid (Cn At w w8 K8 V6 p (.slice ua N uc)) := h8
               rw [HS6.out]
               clear he8 h8)
            | fail)
          go_meet
          case rel => exact ⟨rfl, K8, H8⟩
        · have HS6 : Hid (V6.set = true) := hs6
          subst hN
          clear hs6 HFA
          cases was
          all_goals
            go_wp2_with fail
            refine Calls.mono (sv.settled w7 K7 V6 p H7.out.nw.at') ?_
            rintro e w8 ⟨rfl, he8⟩
            obtain ⟨K8, h8⟩ := H7.out.call he8
            have H8 : Hid (Cn At w w8 K8 V6 p (.slice ua N uc)) := h8
            rw [HS6.out]
            clear he8 h8
            go_wp2_with (first
              | (go_at_call 16; refine Calls.mono (sv.settled w8 K8 V6 p H8.out.nw.at') ?_; rintro e w9 ⟨rfl, he9⟩
                 obtain ⟨K9, h9⟩ := H8.out.call he9
                 have H9 : Hid (Cn At w w9 K9 V6 p (.slice ua N uc)) := h9
                 rw [HS6.out]
                 clear he9 h9)
              | fail)
            go_meet
            case rel => first | exact ⟨rfl, K9, H9⟩ | exact ⟨rfl, K8, H8⟩
        · have HS6 : Hid (V6.set = true) := hs6
          subst hN
          clear hs6 HFA
          go_wp2_with (first
            | (go_at_call 16; refine Calls.mono (sv.settled w7 K7 V6 p H7.out.nw.at') ?_; rintro e w8 ⟨rfl, he8⟩
               obtain ⟨K8, h8⟩ := H7.out.call he8
               have H8 : Hid (Cn At w w8 K8 V6 p (.slice ua N uc)) := h8
               rw [HS6.out]
               clear he8 h8)
            | fail)
          go_meet
          case rel => exact ⟨rfl, K8, H8⟩
        · subst hN
          clear HFA
          go_wp2_with fail
          go_meet
          case rel => exact ⟨rfl, K7, H7⟩
      case rest =>
        obtain ⟨rfl, K8, H8⟩ := hcut
        clear HFA H7 hnw
        go_wp2_with fail
        go_loopw [14] (fun i wk => ∃ kk : Nat, i = .int .i64 kk ∧ kk ≤ N ∧ Hid (Cn At w wk K8 V6 p (.slice ua N uc))) (fun i _ => N - (intOf i).toNat)
        case atStart => exact ⟨0, rfl, Nat.zero_le _, H8⟩
        case round =>
          clear H8
          obtain ⟨kk, rfl, hkk, HC⟩ := hrel
          by_cases hltk : kk < N
          · have hki : (kk : Int) < (N : Int) := by omega
            obtain ⟨t, ht⟩ : ∃ t, V6.l[kk]? = some t := ⟨V6.l[kk]'(by rw [HNL.out]; exact hltk), List.getElem?_eq_getElem _⟩
            obtain ⟨tn, tp, tb⟩ := t
            have hnum := HOK.out.num kk _ ht
            rw [HV6.out.1] at hnum
            dsimp only at hnum
            obtain ⟨f1, f2, f3, f4, f5, f6⟩ := hnum
            subst f1
            obtain ⟨gb, go, rfl, _, hgb, x0, x1, x2⟩ := RowAt.get HC.out.tol ht
            dsimp only at x0 x1 x2
            have c1 : ¬ tp < 1 := by omega
            have c2 : ¬ nodes < tp := by omega
            have c3 : ¬ tb < 0 := by omega
            have c4 : ¬ nodes < tb := by omega
            have c5 : (tp == tb) = false := by simpa using f6
            have hkw : IntKind.i64.wrap ((kk : Int) + 1) = (kk : Int) + 1 := by rw [IntKind.wrap_i64]; omega
            have HT : Hid (V6.l[kk]? = some ⟨(kk : Int) + 1, tp, tb⟩) := ht
            have HGB : Hid (gb < wr.heap.size) := hgb
            clear ht f2 f3 f4 f5 f6 hgb
            go_upto_region 22 with fail
            obtain ⟨w9, hw9⟩ : ∃ w9, wr.alloc (.cells #[.int .i64 ((kk : Int) + 1), .int .i64 tp, .int .i64 tb] 28) = w9 := ⟨_, rfl⟩
            obtain ⟨d, hd⟩ : ∃ d, wr.heap.size = d := ⟨_, rfl⟩
            have H9 : Hid (Cn At w w9 K8 V6 p (.slice (some ⟨gb, go, none⟩) N uc)) := HC.out.on sv (by rw [← hw9]; exact (Below.refl _ _).alloc (Nat.le_refl _) _)
            obtain ⟨d0, d1, d2⟩ : w9.cell? ⟨d, 0, none⟩ = some (.int .i64 ((kk : Int) + 1)) ∧ w9.cell? ⟨d, 1, none⟩ = some (.int .i64 tp) ∧ w9.cell? ⟨d, 2, none⟩ = some (.int .i64 tb) := by rw [← hw9, ← hd]; exact cells_3 (heap_alloc_new _ _)
            rw [hw9, hd]
            clear hw9 hd x0 x1 x2 HC
            by_cases hk0 : kk = 0
            · subst hk0
              go_quiet (fail)
              go_wp2_with fail
              exact ⟨⟨1, by go_num, by omega, H9.out.on sv (below_drewN (Below.refl _ _) _)⟩, by simp [intOf]; omega⟩
            · obtain ⟨k1, rfl⟩ : ∃ k1, kk = k1 + 1 := ⟨kk - 1, by omega⟩
              obtain ⟨t', ht'⟩ : ∃ t', V6.l[k1]? = some t' := ⟨V6.l[k1]'(by rw [HNL.out]; omega), List.getElem?_eq_getElem _⟩
              have hch := HOK.out.chain k1 _ _ ht' HT.out
              obtain ⟨pn, pp, pb⟩ := t'
              dsimp only at hch
              obtain ⟨gb', go', hgg, _, hgb', y0, y1, y2⟩ := RowAt.get H9.out.tol ht'
              simp only [Option.some.injEq, Addr.mk.injEq, and_true] at hgg
              obtain ⟨rfl, rfl⟩ := hgg
              dsimp only at y0 y1 y2
              have hz : ((k1 + 1 : Nat) : Int) = (k1 : Int) + 1 := by omega
              have hz3 : (k1 : Int) + 1 - 1 = k1 := by omega
              have hz4 : (0 : Int) < (k1 : Int) + 1 := by omega
              have hd4 : decide ((0 : Int) < (k1 : Int) + 1) = true := decide_eq_true hz4
              have hk1N : (k1 : Int) < (N : Int) := by omega
              have HK1 : Hid (k1 + 1 + 1 ≤ N ∧ k1 + 1 < N) := ⟨by omega, by omega⟩
              clear hk0 ht' hgb' hkk hltk
              have hcase : (tp != pp) = false ∨ ((tp != pp) = true ∧ (tp != pb) = false) := by
                by_cases e1 : tp = pp
                · exact .inl (by simpa using e1)
                · exact .inr ⟨by simpa using e1, by simpa using hch.resolve_left e1⟩
              clear hch
              rcases hcase with e1 | ⟨e1, e2⟩
              all_goals
                go_quiet (fail)
                go_wp2_with fail
                exact ⟨⟨k1 + 1 + 1, by go_num, HK1.out.1, H9.out.on sv (below_drewN (Below.refl _ _) _)⟩, by have := HK1.out; simp [intOf]; omega⟩
          · obtain rfl : kk = N := by omega
            have hge : ¬ (kk : Int) < (kk : Int) := by omega
            obtain ⟨N1, rfl⟩ : ∃ N1, kk = N1 + 1 := ⟨kk - 1, by have := List.length_pos_iff.2 HV6.out.2; have := HNL.out; omega⟩
            have hla := lastV_at HV6.out.2
            rw [HNL.out] at hla
            obtain ⟨t, ht⟩ : ∃ t, lastV V6.l = t := ⟨_, rfl⟩
            rw [ht] at hla
            have HT : Hid (lastV V6.l = t) := ht
            obtain ⟨tn, tp, tb⟩ := t
            have hla' : V6.l[N1]? = some ⟨tn, tp, tb⟩ := hla
            have HLA : Hid (V6.l[N1]? = some ⟨tn, tp, tb⟩) := hla'
            obtain ⟨gb, go, rfl, _⟩ := RowAt.get HC.out.tol hla'
            have HSS : Hid (∀ {w' : World} {K : Nat → Prop}, Cn At w w' K V6 p (.slice (some ⟨gb, go, none⟩) (N1 + 1) uc) → w'.cell? ⟨gb, go + N1 * 3, none⟩ = some (.int .i64 tn) ∧ w'.cell? ⟨gb, go + N1 * 3 + 1, none⟩ = some (.int .i64 tp) ∧ w'.cell? ⟨gb, go + N1 * 3 + 2, none⟩ = some (.int .i64 tb)) := fun {w' K} hc => by
              obtain ⟨gb', go', hgg, _, _, y0, y1, y2⟩ := RowAt.get hc.tol HLA.out
              simp only [Option.some.injEq, Addr.mk.injEq, and_true] at hgg
              obtain ⟨rfl, rfl⟩ := hgg
              exact ⟨y0, y1, y2⟩
            clear hla hla' ht hltk hkk
            go_wp2_with fail
            have hz : ((N1 + 1 : Nat) : Int) = (N1 : Int) + 1 := by omega
            have hz2 : (((N1 : Int) + 1) == 0) = false := by simp; omega
            have hz3 : (N1 : Int) + 1 - 1 = N1 := by omega
            have hz5 : IntKind.i64.wrap (N1 : Int) = (N1 : Int) := by rw [IntKind.wrap_i64]; omega
            have hz6 : (N1 : Int) < (N1 : Int) + 1 := by omega
            obtain ⟨w9, hw9⟩ : ∃ w9, wr.drew = w9 := ⟨_, rfl⟩
            have H9 : Hid (Cn At w w9 K8 V6 p (.slice (some ⟨gb, go, none⟩) (N1 + 1) uc)) := by rw [← hw9]; exact HC.out.on sv (below_drew (Below.refl _ _))
            refine wp_region_held_drew (S := (fun w' => w'.cell? ⟨gb, go + N1 * 3, none⟩ = some (.int .i64 tn) ∧ w'.cell? ⟨gb, go + N1 * 3 + 1, none⟩ = some (.int .i64 tp) ∧ w'.cell? ⟨gb, go + N1 * 3 + 2, none⟩ = some (.int .i64 tb))) (by kernel_rfl) (by rw [hw9]; exact HSS.out H9.out) (fun hHeld => ?_)
            rw [hw9] at hHeld ⊢
            clear hw9 HC
            refine wpAnyH_take (i := 0) (v := ?_) rfl (by kernel_rfl) (by kernel_rfl) (by kernel_rfl) (fun _ _ _ h => h) ?_ hHeld ?_
            rotate_left
            · refine Or.inl ⟨by rfl, ?_⟩; intro w hSw; obtain ⟨hh0, hh1, hh2⟩ := hSw; go_simp <;> with_reducible rfl
            try simp only [List.getElem_toArray, List.getElem_cons_succ, List.getElem_cons_zero, Act.put, List.setIfInBounds_toArray, List.set_cons_zero, List.set_cons_succ]
            refine wpAnyH_take (i := 1) (v := ?_) rfl (by kernel_rfl) (by kernel_rfl) (by kernel_rfl) (fun _ _ _ h => h) ?_ hHeld ?_
            rotate_left
            · refine Or.inl ⟨by rfl, ?_⟩; intro w hSw; obtain ⟨hh0, hh1, hh2⟩ := hSw; go_simp <;> with_reducible rfl
            try simp only [List.getElem_toArray, List.getElem_cons_succ, List.getElem_cons_zero, Act.put, List.setIfInBounds_toArray, List.set_cons_zero, List.set_cons_succ]
            refine wpAnyH_take (i := 2) (v := ?_) rfl (by kernel_rfl) (by kernel_rfl) (by kernel_rfl) (fun _ _ _ h => h) ?_ hHeld ?_
            rotate_left
            · refine Or.inl ⟨by rfl, ?_⟩; intro w hSw; obtain ⟨hh0, hh1, hh2⟩ := hSw; go_simp <;> with_reducible rfl
            try simp only [List.getElem_toArray, List.getElem_cons_succ, List.getElem_cons_zero, Act.put, List.setIfInBounds_toArray, List.set_cons_zero, List.set_cons_succ]
            refine wpAnyH_take (i := 3) (v := ?_) rfl (by kernel_rfl) (by kernel_rfl) (by kernel_rfl) (fun _ _ _ h => h) ?_ hHeld ?_
            rotate_left
            · refine Or.inl ⟨by rfl, ?_⟩; intro w hSw; obtain ⟨hh0, hh1, hh2⟩ := hSw; go_simp <;> with_reducible rfl
            try simp only [List.getElem_toArray, List.getElem_cons_succ, List.getElem_cons_zero, Act.put, List.setIfInBounds_toArray, List.set_cons_zero, List.set_cons_succ]
            refine wpAnyH_take (i := 4) (v := ?_) rfl (by kernel_rfl) (by kernel_rfl) (by kernel_rfl) (fun _ _ _ h => h) ?_ hHeld ?_
            rotate_left
            · refine Or.inl ⟨by rfl, ?_⟩; intro w hSw; obtain ⟨hh0, hh1, hh2⟩ := hSw; go_simp <;> with_reducible rfl
            try simp only [List.getElem_toArray, List.getElem_cons_succ, List.getElem_cons_zero, Act.put, List.setIfInBounds_toArray, List.set_cons_zero, List.set_cons_succ]
            refine wpAnyH_take (i := 6) (v := ?_) rfl (by kernel_rfl) (by kernel_rfl) (by kernel_rfl) (fun _ _ _ h => h) ?_ hHeld ?_
            rotate_left
            · refine Or.inl ⟨by rfl, ?_⟩; intro w hSw; obtain ⟨hh0, hh1, hh2⟩ := hSw; go_simp <;> with_reducible rfl
            try simp only [List.getElem_toArray, List.getElem_cons_succ, List.getElem_cons_zero, Act.put, List.setIfInBounds_toArray, List.set_cons_zero, List.set_cons_succ]
            refine wpAnyH_take (i := 7) (v := ?_) rfl (by kernel_rfl) (by kernel_rfl) (by kernel_rfl) (fun _ _ _ h => h) ?_ hHeld ?_
            rotate_left
            · refine Or.inl ⟨by rfl, ?_⟩; intro w hSw; obtain ⟨hh0, hh1, hh2⟩ := hSw; go_simp <;> with_reducible rfl
            try simp only [List.getElem_toArray, List.getElem_cons_succ, List.getElem_cons_zero, Act.put, List.setIfInBounds_toArray, List.set_cons_zero, List.set_cons_succ]
            refine wpAnyH_take (i := 8) (v := ?_) rfl (by kernel_rfl) (by kernel_rfl) (by kernel_rfl) (fun _ _ _ h => h) ?_ hHeld ?_
            rotate_left
            · refine Or.inl ⟨by rfl, ?_⟩; intro w hSw; obtain ⟨hh0, hh1, hh2⟩ := hSw; go_simp <;> with_reducible rfl
            try simp only [List.getElem_toArray, List.getElem_cons_succ, List.getElem_cons_zero, Act.put, List.setIfInBounds_toArray, List.set_cons_zero, List.set_cons_succ]
            refine wpAnyH_take (i := 9) (v := ?_) rfl (by kernel_rfl) (by kernel_rfl) (by kernel_rfl) (fun _ _ _ h => h) ?_ hHeld ?_
            rotate_left
            · refine Or.inl ⟨by rfl, ?_⟩; intro w hSw; obtain ⟨hh0, hh1, hh2⟩ := hSw; go_simp <;> with_reducible rfl
            try simp only [List.getElem_toArray, List.getElem_cons_succ, List.getElem_cons_zero, Act.put, List.setIfInBounds_toArray, List.set_cons_zero, List.set_cons_succ]
            refine wpAnyH_take (i := 10) (v := ?_) rfl (by kernel_rfl) (by kernel_rfl) (by kernel_rfl) (fun _ _ _ h => h) ?_ hHeld ?_
            rotate_left
            · refine Or.inl ⟨by rfl, ?_⟩; intro w hSw; obtain ⟨hh0, hh1, hh2⟩ := hSw; go_simp <;> with_reducible rfl
            try simp only [List.getElem_toArray, List.getElem_cons_succ, List.getElem_cons_zero, Act.put, List.setIfInBounds_toArray, List.set_cons_zero, List.set_cons_succ]
            refine wpAnyH_take (i := 11) (v := ?_) rfl (by kernel_rfl) (by kernel_rfl) (by kernel_rfl) (fun _ _ _ h => h) ?_ hHeld ?_
            rotate_left
            · refine Or.inl ⟨by rfl, ?_⟩; intro w hSw; obtain ⟨hh0, hh1, hh2⟩ := hSw; go_simp <;> with_reducible rfl
            try simp only [List.getElem_toArray, List.getElem_cons_succ, List.getElem_cons_zero, Act.put, List.setIfInBounds_toArray, List.set_cons_zero, List.set_cons_succ]
            refine wpAnyH_ready (rs := [5]) (by kernel_rfl) (by simp) ?_
            refine AllReadyH.cons rfl (fun K hK => ?_) AllReadyH.nil
            refine step_callx (by rfl) 11 _ _ (by rfl) (fun _ _ => by rfl) [p] (by rfl) (sv.now w9 K8 V6 p H9.out.nw.at') ?_
            rintro e w10 ⟨rfl, he10⟩
            obtain ⟨K10, h10⟩ := H9.out.call he10
            have H10 : Hid (Cn At w w10 K10 V6 p (.slice (some ⟨gb, go, none⟩) (N1 + 1) uc)) := h10
            rw [HT.out]
            unfold vwV
            clear he10 h10 H9
            refine ⟨_, rfl, hK.out _ _ (HSS.out H10.out) (fun hHeld => ?_)⟩
            clear hK K
            try simp only [List.getElem_toArray, List.getElem_cons_succ, List.getElem_cons_zero, Act.put, List.setIfInBounds_toArray, List.set_cons_zero, List.set_cons_succ]
            refine wpAnyH_take (i := 12) (v := ?_) rfl (by kernel_rfl) (by kernel_rfl) (by kernel_rfl) (fun _ _ _ h => h) ?_ hHeld ?_
            rotate_left
            · refine Or.inl ⟨by rfl, ?_⟩; intro w hSw; obtain ⟨hh0, hh1, hh2⟩ := hSw; go_simp <;> with_reducible rfl
            try simp only [List.getElem_toArray, List.getElem_cons_succ, List.getElem_cons_zero, Act.put, List.setIfInBounds_toArray, List.set_cons_zero, List.set_cons_succ]
            refine wpAnyH_take (i := 13) (v := ?_) rfl (by kernel_rfl) (by kernel_rfl) (by kernel_rfl) (fun _ _ _ h => h) ?_ hHeld ?_
            rotate_left
            · refine Or.inl ⟨by rfl, ?_⟩; intro w hSw; obtain ⟨hh0, hh1, hh2⟩ := hSw; go_simp <;> with_reducible rfl
            try simp only [List.getElem_toArray, List.getElem_cons_succ, List.getElem_cons_zero, Act.put, List.setIfInBounds_toArray, List.set_cons_zero, List.set_cons_succ]
            refine wpAnyH_done (by kernel_rfl) ?_ _
            go_wp2_with fail
            exact ⟨⟨q + 1, K10, V6, by go_num, by omega, H10.out.nw, HV6⟩, by simp [intOf]; omega⟩
    · have hexit : ((q : Int) < (m : Int) ∧ ¬ (q : Int) < 160) ∨ ¬ (q : Int) < (m : Int) := by omega
      have HBW : Hid (Below w.heap.size w wr) := HW.out.below
      clear hlt
      rcases hexit with ⟨h1', h2'⟩ | h1'
      all_goals (
        go_wp2_with fail
        go_ret
        exact ⟨rfl, HBW.out⟩)
end Go.Proofs.Ytlbhnlpdijhmlaa
