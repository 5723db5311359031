/-
  TrieMayStop: the walk.
-/
import Derived.Test.YtbblckcjedjbcaaGreatDoorXMayQ
import Derived.Test.YtbblckcjedjbcaaGreatDoorXFit
import Derived.Test.YtbblckcjedjbcaaGreatDoorXRowsy
import Derived.Test.YtbblckcjedjbcaaGreatDoorRRangeN
namespace Go.Proofs.YtbblckcjedjbcaaGreatDoor
open Go.RowKit Go.Shelf Go.Maps Classical
set_option linter.unusedVariables false
set_option linter.unusedSimpArgs false
attribute [local go_sem] Oper.semAt_some
theorem store_funcX (P : Program) (w : World) (a : Addr) (f : Fn) (x y : Array Value) (m : Mode) : (store a (.func f x y) m).run P w = stored P w a (.func f x y) m := run_store P w a _ m rfl
attribute [local go_sem] store_funcX

theorem scs_at (L : List He) (j t : Nat) (x : He) (v : Value) (h : L[j]? = some x) (hv : x.sc[t]? = some v) : (scs L)[j * 3 + t]? = some v := by
  rw [sc_on]
  exact scO_at _ _ _ x.on _ (by rw [List.getElem?_map, h]; rfl) hv
set_option maxRecDepth 100000 in
set_option maxHeartbeats 6400000 in
theorem TrieMayStop_walk (a : Option Addr) (c : Nat) (L : List On) (k : Int) (w : World) (hL : OsAt w a L) (hlen : (L.length : Int) ≤ 9223372036854775807) (hwf : ∀ o ∈ L, wfI o.s) (hg : Ground w) :
    Calls Tryz.prog 4 #[.slice a L.length c, .int .i64 k] w fun e w' => e = .returned (.bool true) ∧ Below w.heap.size w w' := by
  have HL : Hid (OsAt w a L) := hL
  have HG : Hid (Ground w) := hg
  have HWF : Hid (∀ o ∈ L, wfI o.s) := hwf
  obtain ⟨Tr9, Tk, hT⟩ : ∃ A B, laidR L = (A, B) := ⟨_, _, rfl⟩
  have HT : Hid (laidR L = (Tr9, Tk)) := hT
  have HPM : Hid (Tr9.Perm Tk) := by have := laid_perm L; rw [hT] at this; exact this
  have HTW : Hid (∀ o ∈ Tk, wfI o.s) := fun o ho => hwf o (laid_sub L o (by rw [hT]; exact ho))
  have HTL : Hid (Tr9.length ≤ 60 ∧ Tk.length ≤ 60) := by
    have := laidJ_len L 60
    have e : laidJ L 60 = laidR L := rfl
    rw [e, hT] at this
    exact this
  clear hL hg hwf hT
  have heq := eql2_func_nil
  refine (callsIn_wide (n := 6)).1 ?_
  refine callsIn_of_wp_marks Tryz.func4 rfl trivial ?_ rfl
  simp only [Tryz.ntmps4, List.size_toArray, List.length_cons, List.length_nil, Nat.reduceAdd, Nat.reduceSub, Array.replicate_succ, Array.replicate_zero, List.push_toArray, List.append_toArray, List.nil_append, List.cons_append]
  gi_wp2_with fail
  obtain ⟨w0, hw0⟩ : ∃ w0, (w.alloc (.cells #[.int .i64 k] 3)).alloc (.cells #[.bool false] 4) = w0 := ⟨_, rfl⟩
  have HB0 : Hid (Below w.heap.size w w0) := by rw [← hw0]; exact ((Below.refl _ w).alloc (Nat.le_refl _) _).alloc (by simp) _
  have HX0 : Hid (w0.heap[w.heap.size]? = some (.cells #[.int .i64 k] 3 (0, 0)) ∧ w0.heap[w.heap.size + 1]? = some (.cells #[.bool false] 4 (0, 0))) := by
    rw [← hw0]
    exact ⟨new_old (heap_alloc_new _ _) _, heap_new' (by simp)⟩
  have HZ0 : Hid (w0.heap.size = w.heap.size + 2) := by show _ = _; rw [← hw0]; simp
  rw [hw0]
  clear hw0
  refine ⟨trivial, ?_⟩
  refine (callsIn_wide.2 (begins_any w0 (HG.out.below HB0.out))).mono ?_
  rintro e w1 ⟨rfl, hb1⟩
  have HB1 : Hid (Below w0.heap.size w0 w1) := hb1
  have HW1 : Hid (Below w.heap.size w w1) := xtrans2 HB0.out hb1
  clear hb1
  gi_wp2_with fail
  refine ⟨trivial, ?_⟩
  refine (callsIn_wide.2 (laid_any a c L w1 (HL.out.below HW1.out) hlen HWF.out (HG.out.below HW1.out))).mono ?_
  rintro e w2 ⟨K, vt, rfl, hla⟩
  rw [HT.out] at hla
  obtain ⟨lo, hlo⟩ : ∃ lo, w1.heap.size = lo := ⟨_, rfl⟩
  have HLO : Hid (w.heap.size + 2 ≤ lo ∧ lo ≤ w2.heap.size) := by
    have g1 := HZ0.out
    have g2 := HB1.out.size
    have g3 := hla.own.bel.size
    show _ ∧ _
    omega
  obtain ⟨y0, D0, σ0, τ0, hs0, hTA, hmap, hKF, hKH, hKz⟩ := hla.own.at'
  have hlow := hla.own.low
  have hmap : hs0.map He.on = Tr9 := hmap
  rw [hlo] at hTA hlow ⊢
  obtain ⟨t0, ht0⟩ : ∃ t0 : TrX, t0 = ⟨y0, D0, σ0, τ0, hs0⟩ := ⟨_, rfl⟩
  have HF0 : Hid (∀ x, t0.F x → lo ≤ x ∧ x < w2.heap.size) := by rw [ht0]; exact fun x hx => ⟨hlow x (hKF x hx), hKz x (hKF x hx)⟩
  have HA2 : Hid (t0.At w2 lo) := by rw [ht0]; exact hTA
  have HS0 : Hid (t0.hs.length ≤ 60) := by
    show _ ≤ _
    rw [ht0]
    have h1 : hs0.length = Tr9.length := by rw [← hmap, List.length_map]
    have h2 := HTL.out
    show hs0.length ≤ 60
    omega
  have HWS : Hid (∀ x ∈ t0.hs, wfI x.s) := by
    rw [ht0]
    intro x hx
    exact HTW.out x.on (HPM.out.mem_iff.1 (by show x.on ∈ Tr9; rw [← hmap]; exact List.mem_map_of_mem (f := He.on) hx))
  have HB2 : Hid (Below w.heap.size w w2) := xtrans2 HW1.out hla.own.bel
  have HK2 : Hid (w2.heap[w.heap.size]? = some (.cells #[.int .i64 k] 3 (0, 0)) ∧ w2.heap[w.heap.size + 1]? = some (.cells #[.bool false] 4 (0, 0))) := ⟨kept_block hla.own.bel (kept_block HB1.out HX0.out.1), kept_block hla.own.bel (kept_block HB1.out HX0.out.2)⟩
  clear hla hTA hmap hKF hKH hKz hlow ht0 hlo
  gi_wp2_with fail
  obtain ⟨w3, hw3⟩ : ∃ w3, w2.alloc (.cells #[ndV lo] 26) = w3 := ⟨_, rfl⟩
  have hb3 : Below w2.heap.size w2 w3 := by rw [← hw3]; exact (Below.refl _ _).alloc (Nat.le_refl _) _
  have HX3 : Hid (w3.heap[w2.heap.size]? = some (.cells #[ndV lo] 26 (0, 0))) := by show _ = _; rw [← hw3]; exact heap_alloc_new _ _
  have HA3 : Hid (t0.At w3 lo) := HA2.out.below hb3
  have HB3 : Hid (Below w.heap.size w w3) := xtrans2 HB2.out hb3
  have HK3 : Hid (w3.heap[w.heap.size]? = some (.cells #[.int .i64 k] 3 (0, 0)) ∧ w3.heap[w.heap.size + 1]? = some (.cells #[.bool false] 4 (0, 0))) := ⟨kept_block hb3 HK2.out.1, kept_block hb3 HK2.out.2⟩
  have HS3 : Hid (w2.heap.size < w3.heap.size) := by show _ < _; rw [← hw3, World.size_alloc]; omega
  rw [hw3]
  clear hb3 hw3
  refine ⟨trivial, ?_⟩
  refine (callsIn_wide.2 (walkL_any lo t0.y t0.D t0.σ t0.τ t0.hs w3 HA3.out (by have := HS0.out; omega))).mono ?_
  rintro e w4 ⟨v, rfl, hrow, hb4⟩
  obtain ⟨P, hP⟩ : ∃ P, wkL t0.D t0.hs = P := ⟨_, rfl⟩
  have HP : Hid (wkL t0.D t0.hs = P) := hP
  have HPS : Hid (P.length ≤ t0.hs.length) := by show _ ≤ _; rw [← hP]; exact wk_le HA3.out
  have HPH : Hid (∀ x ∈ P, x ∈ t0.hs) := by rw [← hP]; exact fun x hx => (wk_mem HA3.out x).1 hx
  rw [hP] at hrow
  obtain ⟨m, hm⟩ : ∃ m, P.length = m := ⟨_, rfl⟩
  have HM : Hid (P.length = m) := hm
  have hm60 : m ≤ 60 := by have := HPS.out; have := HS0.out; omega
  rw [hm] at hrow
  obtain ⟨wa, wc, hv⟩ := owns_shape hrow
  subst hv
  have c4 : w4.cell? ⟨w2.heap.size, 0, none⟩ = some (ndV lo) := by rw [cell_blkX (kept_block hb4 HX3.out)]; rfl
  have hn2 : w2.heap.size < w4.heap.size := Nat.lt_of_lt_of_le HS3.out hb4.size
  have HX4 : Hid (w4.heap[w2.heap.size]? = some (.cells #[ndV lo] 26 (0, 0))) := kept_block hb4 HX3.out
  have HA4 : Hid (t0.At w4 lo) := HA3.out.below hb4
  have HB4 : Hid (Below w.heap.size w w4) := xtrans2 HB3.out hb4
  have HR4 : Hid (w4.ownsRow w3.heap.size 36 3 (.slice wa m wc) m (scs P)) := hrow
  have HKR : Hid (w4.heap[w.heap.size]? = some (.cells #[.int .i64 k] 3 (0, 0)) ∧ w4.heap[w.heap.size + 1]? = some (.cells #[.bool false] 4 (0, 0))) := ⟨kept_block hb4 HK3.out.1, kept_block hb4 HK3.out.2⟩
  clear hrow hb4 hm hP HX3 HA3 HB3 HA2 HB2
  gi_wp2_with (
    refine ⟨trivial, ?_⟩
    gi_at_call 18
    refine (callsIn_wide.2 (walk_func _ _)).mono ?_
    rintro e w5 ⟨rfl, hw5⟩
    have hb5 : Below w4.heap.size w4 w5 := by rw [hw5]; exact ((Below.refl _ _).alloc (Nat.le_refl _) _).alloc (by simp) _
    have HX5 : Hid (w5.heap[w4.heap.size]? = some (.cells #[.slice wa m wc] 29 (0, 0)) ∧ w5.heap[w4.heap.size + 1]? = some (.cells #[ndV lo] 26 (0, 0))) := by
      rw [hw5]
      exact ⟨new_old (heap_alloc_new _ _) _, heap_new' (by simp)⟩
    have HB5 : Hid (Below w4.heap.size w4 w5) := hb5
    clear hb5 hw5 c4)
  obtain ⟨W0, hW0⟩ : ∃ W0, (w5.alloc (.cells #[.func (.func 42) #[] #[.pointer (some ⟨w4.heap.size + 1, 0, none⟩)]] 51)).alloc (.cells #[.int .i64 0] 3) = W0 := ⟨_, rfl⟩
  have hb0 : Below w5.heap.size w5 W0 := by rw [← hW0]; exact ((Below.refl _ _).alloc (Nat.le_refl _) _).alloc (by simp) _
  have hb40 : Below w4.heap.size w4 W0 := xtrans2 HB5.out hb0
  have LIE : Hid (LieX w.heap.size lo w2.heap.size w4.heap.size w5.heap.size) := ⟨HLO.out.1, HLO.out.2, hn2, lt_of_blk HX5.out.2⟩
  have HSX : Hid (SX w.heap.size w2.heap.size w4.heap.size w5.heap.size lo k (.slice wa m wc) P W0) := by
    refine ⟨kept_block hb40 HKR.out.1, kept_block hb40 HKR.out.2, kept_block hb40 HX4.out, kept_block hb0 HX5.out.1, kept_block hb0 HX5.out.2, ?_, ?_, fun x hx => ?_⟩
    · rw [← hW0]
      exact new_old (heap_alloc_new _ _) _
    · rw [HM.out]
      exact owns_below (owns_lo HR4.out (Nat.le_of_lt HS3.out)) hb40
    · exact (HR4.out.lt x hx).2
  have hat0 : W0.heap[w5.heap.size + 1]? = some (.cells #[.int .i64 ((0 : Nat) : Int)] 3 (0, 0)) := by
    rw [← hW0]
    exact heap_new' (by simp)
  have HST : Hid (StX w m w5.heap.size lo t0 W0 0 t0 W0) := ⟨Cb.refl _ _, hat0, HA4.out.below hb40, by have := HS0.out; omega, fun _ h => .inl h, fun _ => rfl, Nat.zero_le _, xtrans2 HB4.out hb40⟩
  have hB0 : w.heap.size ≤ W0.heap.size := HST.out.bel.size
  have hZ5 : w5.heap.size + 1 < W0.heap.size := lt_of_blk hat0
  rw [hW0]
  clear hW0 hb0 hb40 hat0 HX0 HX4 HX5 HR4 HA4 HB4 HB5 HB0 HB1 HW1 HZ0 hn2 HS3 HK2 HK3 HKR
  generalize hz2 : w2.heap.size = z2 at LIE HSX HF0 HLO ⊢
  generalize hz4 : w4.heap.size = z4 at LIE HSX ⊢
  generalize hz5 : w5.heap.size = z5 at LIE HSX HST hZ5 ⊢
  clear hz2 hz4 hz5
  have HZW : Hid (w.heap.size ≤ z5 + 1 ∧ z2 < z5) := by
    obtain ⟨o1, o2, o3, o4⟩ := LIE.out
    show _ ∧ _
    omega
  have HFZ : Hid (∀ x, t0.F x → w.heap.size ≤ x ∧ x < z5) := fun x hx => by
    have g1 := HF0.out x hx
    have g2 := LIE.out.a
    have g3 := HZW.out.2
    omega
  have HSJ : Hid (∀ q t W, StX w m z5 lo t0 W0 q t W → SX w.heap.size z2 z4 z5 lo k (.slice wa m wc) P W) := fun q t W h => HSX.out.kp LIE.out h.cb.kp (fun x hx => by
    rcases hx with hx | hx
    · exact .inl (HF0.out x hx)
    · exact .inr (by omega))
  refine wpIn_range_sab (σ := WkS) (α := He × World) rfl (by decide) (gf := 42) (lb := #[.pointer (some ⟨z4 + 1, 0, none⟩)]) rfl trivial (enters_of Tryz.func42 (by kernel_rfl) rfl)
    (encs := fun x => #[.string x.1.p, tagV x.1.s x.1.i]) (fun _ => rfl)
    (I := WkI (OJX w m z5 lo k t0 W0)) (Y := WkY P (OJX w m z5 lo k t0 W0)) (N := WkN) (X := OXX w m z5 lo k t0 W0) (E := OEX w m z5 lo k t0 W0) (s0 := (0, W0, OMX t0 z5))
    ?sq ?oI ?oY ?oX ?oE ?st
    (A := OAX P W0 (OJX w m z5 lo k t0 W0) ?G) ?oA ?assign ?body ?done ?stop
  case sq =>
    have h1 := walk_seq (6 - 1) lo t0.y t0.D t0.σ t0.τ t0.hs (z4 + 1) W0.heap.size (OMX t0 z5) (OJX w m z5 lo k t0 W0) (OXX w m z5 lo k t0 W0) (OEX w m z5 lo k t0 W0) W0 (by have := HS0.out; omega) ?ej ?byy
    · rw [HP.out] at h1
      exact h1
    · rw [HP.out, HM.out]
      exact fun M W ⟨t, _, h2, h3⟩ => ⟨h2, t, h3⟩
    · refine ⟨fun W ⟨t, _, _, h⟩ => (by rw [cell_blkX (HSJ.out _ _ _ h).al]; rfl), fun W ⟨t, _, _, h⟩ => ?_, fun W ⟨t, _, _, h⟩ x hx => ?_, fun q M W W' ⟨t, g1, g2, h⟩ hb => ⟨t, g1, g2, h.below hb⟩⟩
      · have h9 := h.tr
        rw [h.z rfl] at h9
        exact h9
      · have h9 := h.tr
        rw [h.z rfl] at h9
        rcases hx with hx | rfl
        · exact h9.outH hx
        · refine ⟨lt_of_blk h.at', fun y hy e => ?_⟩
          exact hd_int ((TrieAt.tr h9).held y hy) e h.at'
  case oI =>
    intro s A C row hs hg hr
    obtain ⟨g1, t, g2, g3, g4⟩ := hs
    exact ⟨g1.grown hg (fun r e => by obtain ⟨q1, o, q2, q3⟩ := hr r e; exact ⟨q1, o, q2, bk_other q3⟩), t, g2, g3, g4.grown hB0 hg hr⟩
  case oY =>
    intro s x _ A C row hs hg hr
    obtain ⟨g1, ⟨t, g2, g3, g4⟩, g5⟩ := hs
    exact ⟨g1.grown hg (fun r e => by obtain ⟨q1, o, q2, q3⟩ := hr r e; exact ⟨q1, o, q2, bk_other q3⟩), ⟨t, g2, g3, g4.grown hB0 hg hr⟩, g5⟩
  case oX =>
    intro c A C row hs hg hr
    obtain ⟨g1, q, t, g2, g3, g4⟩ := hs
    exact ⟨g1, q, t, g2, g3, g4.grown hB0 hg hr⟩
  case oE =>
    intro _ A C row hs hg hr
    obtain ⟨g1, t, g4⟩ := hs
    exact ⟨g1, t, g4.grown hB0 hg hr⟩
  case st => exact ⟨Kp.refl _ _, t0, rfl, by omega, HST.out⟩
  case oA =>
    intro s x a' _ A C row hs hg hr
    obtain ⟨ge, y, g0, g1, g4, g5, g6, ⟨t, g7, g8, g9⟩, g10⟩ := hs
    have hk : Kp NoB A C := (Kp.refl NoB _).grown hg (fun r e => by obtain ⟨q1, o, q2, q3⟩ := hr r e; exact ⟨q1, o, q2, bk_other q3⟩)
    exact ⟨ge, y, g0, g1, hk.cells _ _ _ _ g4 (fun h => h), g5, g6.trans hk, ⟨t, g7, g8, g9.grown hB0 hg hr⟩, g10⟩
  case assign =>
    rintro l s ⟨x, U⟩ W K ⟨g1, ⟨t, g2, g3, g4⟩, g5⟩ hK
    simp only at g1 g2 g3 g4 g5
    have HK : Hid (∀ a' W', _ → KeepsFrom W0.heap.size W W' → K a' W') := hK
    have H1 : Hid (Kp NoB U W) := g1
    have H2 : Hid (OJX w m z5 lo k t0 W0 s.1 s.2.2 W) := ⟨t, g2, g3, g4⟩
    have H3 : Hid (P[s.1]? = some x) := g5
    have HSZ : Hid (W0.heap.size ≤ W.heap.size) := Chg.size g4.cb
    clear hK g1 g2 g3 g4 g5
    gi_wp2
    have hbW : Below W.heap.size W (W.alloc (.cells #[.int .i64 x.s, .int .i64 x.i] 34)) := (Below.refl _ _).alloc (Nat.le_refl _) _
    have hblk := heap_alloc_new W (.cells #[.int .i64 x.s, .int .i64 x.i] 34)
    have hsz := HSZ.out
    generalize hge : W.heap.size = ge at hblk hsz ⊢
    refine HK.out _ _ ⟨ge, x, rfl, H3.out, hblk, hsz, H1.out.trans (Kp.of_below hbW _), ?_, ?_⟩ (keeps_below hbW _)
    · obtain ⟨t, q1, q2, q3⟩ := H2.out
      exact ⟨t, q1, q2, q3.below hbW⟩
    · rfl
  case body =>
    rintro l ⟨q, V, M⟩ ⟨x', U⟩ a' W hlB ⟨r, hr⟩ ⟨ge, x, g0, g1, g4, g5, g6, ⟨t, g7, g8, g9⟩, rfl⟩
    simp only at g0 g1 g4 g6 g7 g8 g9
    have g0 := g0.symm
    subst g0
    have hq : q < m := by rw [← HM.out]; exact (List.getElem?_eq_some_iff.1 g1).1
    have sb := HSJ.out q t W g9
    have hR := sb.row
    rw [HM.out] at hR
    obtain ⟨wg, hwa⟩ := row_addr hR (by omega : m ≠ 0)
    subst hwa
    obtain ⟨x1, x2⟩ := cells_2 g4
    have y0 : W.cell? ⟨wg, q * 3, none⟩ = some (.string x.p) := cell_n hR (scs_at P q 0 x _ g1 rfl)
    have y1 : W.cell? ⟨wg, q * 3 + 1, none⟩ = some (.int .i64 x.s) := cell_n hR (scs_at P q 1 x _ g1 rfl)
    have y2 : W.cell? ⟨wg, q * 3 + 2, none⟩ = some (.int .i64 x.i) := cell_n hR (scs_at P q 2 x _ g1 rfl)
    have ca : W.cell? ⟨z5 + 1, 0, none⟩ = some (.int .i64 (q : Int)) := by rw [cell_blkX g9.at']; rfl
    have cw : W.cell? ⟨z4, 0, none⟩ = some (.slice (some ⟨wg, 0, none⟩) m wc) := by rw [cell_blkX sb.ws]; rfl
    have hdq : decide ((m : Int) ≤ (q : Int)) = false := by simp; omega
    have hdn : decide (m ≤ q) = false := by simp; omega
    have hqm : q < m := hq
    have hq64 : q < 64 := by omega
    have HST1 : Hid (StX w m z5 lo t0 W0 q t W) := g9
    have HNO : Hid (¬ (1 ≤ k ∧ k ≤ (q : Int))) := g8
    have HKU : Hid (Kp NoB U W) := g6
    have HMM : Hid (M = OMX t z5) := g7
    have HSX1 : Hid _ := sb
    have cg1 : W.cell? ⟨z2, 0, none⟩ = some (ndV lo) := by rw [cell_blkX sb.gb]; rfl
    clear g1 g4 g5 g6 g7 g8 g9 sb hq hR heq
    gi_wp2_with fail
    refine region_round (S := (fun w' => w'.cell? ⟨z5 + 1, 0, none⟩ = some (.int .i64 (q : Int)) ∧ w'.cell? ⟨z4, 0, none⟩ = some (.slice (some ⟨wg, 0, none⟩) m wc) ∧ w'.cell? ⟨ge, 0, none⟩ = some (.int .i64 x.s) ∧ w'.cell? ⟨ge, 1, none⟩ = some (.int .i64 x.i) ∧ w'.cell? ⟨wg, q * 3, none⟩ = some (.string x.p) ∧ w'.cell? ⟨wg, q * 3 + 1, none⟩ = some (.int .i64 x.s) ∧ w'.cell? ⟨wg, q * 3 + 2, none⟩ = some (.int .i64 x.i))) (by kernel_rfl) (by kernel_rfl) (by rintro ⟨a, w, h⟩; exact h) ⟨ca, cw, x1, x2, y0, y1, y2⟩ (fun hHeld => ?_)
    refine wpAnyH_take (i := 0) (v := ?va_a0) rfl (by kernel_rfl) (by kernel_rfl) (by kernel_rfl) (fun _ _ _ h => h) ?hy_a0 hHeld ?ha_a0
    case hy_a0 => refine Or.inl ⟨by rfl, ?_⟩; intro w hSw; obtain ⟨hh0, hh1, hh2, hh3, hh4, hh5, hh6⟩ := hSw; go_simp <;> with_reducible rfl
    try simp only [List.getElem_toArray, List.getElem_cons_succ, List.getElem_cons_zero, Act.put, List.setIfInBounds_toArray, List.set_cons_zero, List.set_cons_succ]
    refine wpAnyH_take (i := 1) (v := ?va_a1) rfl (by kernel_rfl) (by kernel_rfl) (by kernel_rfl) (fun _ _ _ h => h) ?hy_a1 hHeld ?ha_a1
    case hy_a1 => refine Or.inl ⟨by rfl, ?_⟩; intro w hSw; obtain ⟨hh0, hh1, hh2, hh3, hh4, hh5, hh6⟩ := hSw; go_simp <;> with_reducible rfl
    try simp only [List.getElem_toArray, List.getElem_cons_succ, List.getElem_cons_zero, Act.put, List.setIfInBounds_toArray, List.set_cons_zero, List.set_cons_succ]
    refine wpAnyH_take (i := 2) (v := ?va_a2) rfl (by kernel_rfl) (by kernel_rfl) (by kernel_rfl) (fun _ _ _ h => h) ?hy_a2 hHeld ?ha_a2
    case hy_a2 => refine Or.inl ⟨by rfl, ?_⟩; intro w hSw; obtain ⟨hh0, hh1, hh2, hh3, hh4, hh5, hh6⟩ := hSw; go_simp <;> with_reducible rfl
    try simp only [List.getElem_toArray, List.getElem_cons_succ, List.getElem_cons_zero, Act.put, List.setIfInBounds_toArray, List.set_cons_zero, List.set_cons_succ]
    refine wpAnyH_take (i := 3) (v := ?va_a3) rfl (by kernel_rfl) (by kernel_rfl) (by kernel_rfl) (fun _ _ _ h => h) ?hy_a3 hHeld ?ha_a3
    case hy_a3 => refine Or.inl ⟨by rfl, ?_⟩; intro w hSw; obtain ⟨hh0, hh1, hh2, hh3, hh4, hh5, hh6⟩ := hSw; go_simp <;> with_reducible rfl
    try simp only [List.getElem_toArray, List.getElem_cons_succ, List.getElem_cons_zero, Act.put, List.setIfInBounds_toArray, List.set_cons_zero, List.set_cons_succ]
    refine wpAnyH_take (i := 4) (v := ?va_a4) rfl (by kernel_rfl) (by kernel_rfl) (by kernel_rfl) (fun _ _ _ h => h) ?hy_a4 hHeld ?ha_a4
    case hy_a4 => refine Or.inl ⟨by rfl, ?_⟩; intro w hSw; obtain ⟨hh0, hh1, hh2, hh3, hh4, hh5, hh6⟩ := hSw; go_simp <;> with_reducible rfl
    try simp only [List.getElem_toArray, List.getElem_cons_succ, List.getElem_cons_zero, Act.put, List.setIfInBounds_toArray, List.set_cons_zero, List.set_cons_succ]
    refine wpAnyH_take (i := 5) (v := ?va_a5) rfl (by kernel_rfl) (by kernel_rfl) (by kernel_rfl) (fun _ _ _ h => h) ?hy_a5 hHeld ?ha_a5
    case hy_a5 => refine Or.inl ⟨by rfl, ?_⟩; intro w hSw; obtain ⟨hh0, hh1, hh2, hh3, hh4, hh5, hh6⟩ := hSw; go_simp <;> with_reducible rfl
    try simp only [List.getElem_toArray, List.getElem_cons_succ, List.getElem_cons_zero, Act.put, List.setIfInBounds_toArray, List.set_cons_zero, List.set_cons_succ]
    refine wpAnyH_take (i := 6) (v := ?va_a6) rfl (by kernel_rfl) (by kernel_rfl) (by kernel_rfl) (fun _ _ _ h => h) ?hy_a6 hHeld ?ha_a6
    case hy_a6 => refine Or.inl ⟨by rfl, ?_⟩; intro w hSw; obtain ⟨hh0, hh1, hh2, hh3, hh4, hh5, hh6⟩ := hSw; go_simp <;> with_reducible rfl
    try simp only [List.getElem_toArray, List.getElem_cons_succ, List.getElem_cons_zero, Act.put, List.setIfInBounds_toArray, List.set_cons_zero, List.set_cons_succ]
    refine wpAnyH_take (i := 7) (v := ?va_a7) rfl (by kernel_rfl) (by kernel_rfl) (by kernel_rfl) (fun _ _ _ h => h) ?hy_a7 hHeld ?ha_a7
    case hy_a7 => refine Or.inl ⟨by rfl, ?_⟩; intro w hSw; obtain ⟨hh0, hh1, hh2, hh3, hh4, hh5, hh6⟩ := hSw; go_simp <;> with_reducible rfl
    try simp only [List.getElem_toArray, List.getElem_cons_succ, List.getElem_cons_zero, Act.put, List.setIfInBounds_toArray, List.set_cons_zero, List.set_cons_succ]
    refine wpAnyH_take (i := 8) (v := ?va_a8) rfl (by kernel_rfl) (by kernel_rfl) (by kernel_rfl) (fun _ _ _ h => h) ?hy_a8 hHeld ?ha_a8
    case hy_a8 => refine Or.inl ⟨by rfl, ?_⟩; intro w hSw; obtain ⟨hh0, hh1, hh2, hh3, hh4, hh5, hh6⟩ := hSw; go_simp <;> with_reducible rfl
    try simp only [List.getElem_toArray, List.getElem_cons_succ, List.getElem_cons_zero, Act.put, List.setIfInBounds_toArray, List.set_cons_zero, List.set_cons_succ]
    refine wpAnyH_take (i := 9) (v := ?va_a9) rfl (by kernel_rfl) (by kernel_rfl) (by kernel_rfl) (fun _ _ _ h => h) ?hy_a9 hHeld ?ha_a9
    case hy_a9 => refine Or.inl ⟨by rfl, ?_⟩; intro w hSw; obtain ⟨hh0, hh1, hh2, hh3, hh4, hh5, hh6⟩ := hSw; go_simp <;> with_reducible rfl
    try simp only [List.getElem_toArray, List.getElem_cons_succ, List.getElem_cons_zero, Act.put, List.setIfInBounds_toArray, List.set_cons_zero, List.set_cons_succ]
    refine wpAnyH_take (i := 10) (v := ?va_a10) rfl (by kernel_rfl) (by kernel_rfl) (by kernel_rfl) (fun _ _ _ h => h) ?hy_a10 hHeld ?ha_a10
    case hy_a10 => refine Or.inl ⟨by rfl, ?_⟩; intro w hSw; obtain ⟨hh0, hh1, hh2, hh3, hh4, hh5, hh6⟩ := hSw; go_simp <;> with_reducible rfl
    try simp only [List.getElem_toArray, List.getElem_cons_succ, List.getElem_cons_zero, Act.put, List.setIfInBounds_toArray, List.set_cons_zero, List.set_cons_succ]
    refine wpAnyH_take (i := 11) (v := ?va_a11) rfl (by kernel_rfl) (by kernel_rfl) (by kernel_rfl) (fun _ _ _ h => h) ?hy_a11 hHeld ?ha_a11
    case hy_a11 => refine Or.inl ⟨by rfl, ?_⟩; intro w hSw; obtain ⟨hh0, hh1, hh2, hh3, hh4, hh5, hh6⟩ := hSw; go_simp <;> with_reducible rfl
    try simp only [List.getElem_toArray, List.getElem_cons_succ, List.getElem_cons_zero, Act.put, List.setIfInBounds_toArray, List.set_cons_zero, List.set_cons_succ]
    refine wpAnyH_take (i := 12) (v := ?va_a12) rfl (by kernel_rfl) (by kernel_rfl) (by kernel_rfl) (fun _ _ _ h => h) ?hy_a12 hHeld ?ha_a12
    case hy_a12 => refine Or.inl ⟨by rfl, ?_⟩; intro w hSw; obtain ⟨hh0, hh1, hh2, hh3, hh4, hh5, hh6⟩ := hSw; go_simp <;> with_reducible rfl
    try simp only [List.getElem_toArray, List.getElem_cons_succ, List.getElem_cons_zero, Act.put, List.setIfInBounds_toArray, List.set_cons_zero, List.set_cons_succ]
    refine wpAnyH_take (i := 13) (v := ?va_a13) rfl (by kernel_rfl) (by kernel_rfl) (by kernel_rfl) (fun _ _ _ h => h) ?hy_a13 hHeld ?ha_a13
    case hy_a13 => refine Or.inl ⟨by rfl, ?_⟩; intro w hSw; obtain ⟨hh0, hh1, hh2, hh3, hh4, hh5, hh6⟩ := hSw; go_simp <;> with_reducible rfl
    try simp only [List.getElem_toArray, List.getElem_cons_succ, List.getElem_cons_zero, Act.put, List.setIfInBounds_toArray, List.set_cons_zero, List.set_cons_succ]
    refine wpAnyH_done (by kernel_rfl) ?_ _
    have hbd : Below W.heap.size W W.drew := below_drew (Below.refl _ _)
    have cgd : W.drew.cell? ⟨z2, 0, none⟩ = some (ndV lo) := cg1
    obtain ⟨W1, hW1⟩ : ∃ W1, W.drew = W1 := ⟨_, rfl⟩
    have HB1 : Hid (Below W.heap.size W W1) := by rw [← hW1]; exact hbd
    rw [hW1] at cgd ⊢
    have HA1 : Hid (t.At W1 lo) := HST1.out.tr.below HB1.out
    clear hHeld hW1 hbd ca cw x1 x2 y0 y1 y2 cg1 hdq hdn
    gi_wp2_with fail
    refine ⟨trivial, ?_⟩
    have hfew := HST1.out.few
    refine (calls_roundX (walkL_any lo t.y t.D t.σ t.τ t.hs W1 HA1.out (by omega))).mono ?_
    rintro e' W3 ⟨nv, rfl, hro3, hb3⟩
    obtain ⟨P2, hP2⟩ : ∃ P2, wkL t.D t.hs = P2 := ⟨_, rfl⟩
    have HP2 : Hid (wkL t.D t.hs = P2) := hP2
    have HPL2 : Hid (P2.length ≤ t.hs.length) := by show _ ≤ _; rw [← hP2]; exact wk_le HA1.out
    rw [hP2] at hro3
    obtain ⟨m2, hm2⟩ : ∃ m2, P2.length = m2 := ⟨_, rfl⟩
    have HM2 : Hid (P2.length = m2) := hm2
    have hm2l : m2 ≤ 1000 := by have := HPL2.out; omega
    rw [hm2] at hro3
    obtain ⟨na, nc, hnv⟩ := owns_shape hro3
    subst hnv
    have HR3 : Hid (W3.ownsRow W1.heap.size 36 3 (.slice na m2 nc) m2 (scs P2)) := hro3
    have HB3 : Hid (Below W.heap.size W W3) := xtrans2 HB1.out hb3
    have HIN0 : Hid (W.heap.size ≤ W3.heap.size) := HB3.out.size
    have HQ3 : Hid (W3.heap[z5]? = some (.cells #[.func (.func 42) #[] #[.pointer (some ⟨z4 + 1, 0, none⟩)]] 51 (0, 0))) := kept_block HB3.out HSX1.out.sq
    have cq3 : W3.cell? ⟨z5, 0, none⟩ = some (.func (.func 42) #[] #[.pointer (some ⟨z4 + 1, 0, none⟩)]) := by rw [cell_blkX HQ3.out]; rfl
    have HBX3 : Hid (Below W3.heap.size W3 (((W3.alloc (.cells #[.slice na m2 nc] 29)).alloc (.cells #[.bool true] 4)).alloc (.cells #[.int .i64 0] 3))) := (((Below.refl _ _).alloc (Nat.le_refl _) _).alloc (by simp) _).alloc (by simp; omega) _
    have cq4 : (((W3.alloc (.cells #[.slice na m2 nc] 29)).alloc (.cells #[.bool true] 4)).alloc (.cells #[.int .i64 0] 3)).cell? ⟨z5, 0, none⟩ = some (.func (.func 42) #[] #[.pointer (some ⟨z4 + 1, 0, none⟩)]) := (HBX3.out.cell (World.block_lt_of_cell? _ _ cq3)).trans cq3
    clear hro3 hb3 hP2 hm2 cgd HQ3 cq3
    gi_wp2_with fail
    obtain ⟨V1, hV1⟩ : ∃ V1, (((W3.alloc (.cells #[.slice na m2 nc] 29)).alloc (.cells #[.bool true] 4)).alloc (.cells #[.int .i64 0] 3)) = V1 := ⟨_, rfl⟩
    have hbv : Below W3.heap.size W3 V1 := by rw [← hV1]; exact HBX3.out
    have HBV : Hid (Below W.heap.size W V1) := xtrans2 HB3.out hbv
    have HNB : Hid (V1.heap[W3.heap.size]? = some (.cells #[.slice na m2 nc] 29 (0, 0)) ∧ V1.heap[W3.heap.size + 1]? = some (.cells #[.bool true] 4 (0, 0)) ∧ V1.heap[W3.heap.size + 1 + 1]? = some (.cells #[.int .i64 ((0 : Nat) : Int)] 3 (0, 0))) := by
      show _ ∧ _ ∧ _
      rw [← hV1]
      exact ⟨new_old (new_old (heap_alloc_new _ _) _) _, new_old (heap_new' (by simp)) _, heap_new' (by simp)⟩
    have HAV : Hid (t.At V1 lo) := HST1.out.tr.below HBV.out
    have HRV : Hid (V1.ownsRow W1.heap.size 36 3 (.slice na m2 nc) m2 (scs P2)) := owns_below HR3.out hbv
    have HRN : Hid (∀ y, (Value.slice na m2 nc).ownBlock = some y → y < W3.heap.size) := fun y hy => (HR3.out.lt y hy).2
    have HSV : Hid (SX w.heap.size z2 z4 z5 lo k (.slice (some ⟨wg, 0, none⟩) m wc) P V1) := HSX1.out.kpn (Kp.of_below HBV.out NoB)
    have HLV : Hid (V1.heap[l]? = some (.loop r)) := kept_block HBV.out hr
    have hwV : w.heap.size ≤ V1.heap.size := Nat.le_trans HST1.out.bel.size HBV.out.size
    have HWI : Hid (w.heap.size ≤ W3.heap.size + 1 + 1 ∧ z5 + 1 < W3.heap.size + 1 + 1 ∧ W.heap.size ≤ W3.heap.size + 1 + 1) := by
      have t1 := HIN0.out
      have t2 := lt_of_blk HST1.out.at'
      have t3 := HST1.out.bel.size
      show _ ∧ _ ∧ _
      omega
    rw [hV1]
    clear hV1 cq4 HB3 hbv HBX3 HR3
    obtain ⟨nb, hnb⟩ : ∃ nb, W3.heap.size = nb := ⟨_, rfl⟩
    obtain ⟨inn, hinn⟩ : ∃ inn, nb + 1 + 1 = inn := ⟨_, rfl⟩
    rw [hnb] at HNB HWI HRN HIN0 ⊢
    rw [hinn] at HNB HWI ⊢
    have hnbi : nb + 1 < inn := by omega
    have hinV : inn < V1.heap.size := lt_of_blk HNB.out.2.2
    clear hnb hinn
    refine wpIn_range_saN (σ := WkS) (α := He × World) (l₀ := l) (r₀ := r) rfl HLV.out (by decide) (gf := 42) (lb := #[.pointer (some ⟨z4 + 1, 0, none⟩)]) rfl trivial (enters_of Tryz.func42 (by kernel_rfl) rfl)
      (encs := fun x => #[.string x.1.p, tagV x.1.s x.1.i]) (fun _ => rfl)
      (I := WkI (IJX w W0.heap.size inn V1)) (Y := WkY P2 (IJX w W0.heap.size inn V1)) (N := WkN) (X := IXX w W0.heap.size inn V1) (E := IEX w W0.heap.size inn V1) (s0 := (0, V1, IMX inn))
      (seq_roundX l ?isq) ?ioI ?ioY ?ioX ?ioE ?ist
      (A := OAX P2 V1 (IJX w W0.heap.size inn V1) ?G2) ?ioA ?iassign ?ibody ?idone ?istop
    case isq =>
      have h1 := walk_seq (6 - 1 - 1 - 1) lo t.y t.D t.σ t.τ t.hs (z4 + 1) V1.heap.size (IMX inn) (IJX w W0.heap.size inn V1) (IXX w W0.heap.size inn V1) (IEX w W0.heap.size inn V1) V1 (by omega) ?iej ?ibyy
      · rw [HP2.out] at h1
        exact h1
      · exact fun M X ⟨_, h⟩ => ⟨_, h⟩
      · refine ⟨fun X ⟨_, h⟩ => ?_, fun X ⟨_, h⟩ => ?_, fun X ⟨_, h⟩ x hx => ?_, fun j M X X' ⟨g1, h⟩ hb => ⟨g1, h.below hb⟩⟩
        · rw [cell_blkX (h.cb.cells HSV.out.al (fun e => by have e' : z4 + 1 = inn := e; have t1 := HWI.out.2.1; have t2 := LIE.out.d; omega))]
          rfl
        · exact HST1.out.inner HBV.out h HWI.out.2.2
        · have hx' : x = inn := hx
          subst hx'
          refine ⟨lt_of_blk h.inn, fun y hy e => ?_⟩
          exact hd_int ((TrieAt.tr (HST1.out.inner HBV.out h HWI.out.2.2)).held y hy) e h.inn
    case ioI => exact fun s A C row hs hg hr => ⟨hs.1.grown hg hr, hs.2.1, hs.2.2.grown (Nat.le_refl _) hg hr hwV hinV⟩
    case ioY =>
      intro s x _ A C row hs hg hr
      obtain ⟨g1, ⟨g2, g4⟩, h3⟩ := hs
      exact ⟨g1.grown hg hr, ⟨g2, g4.grown (Nat.le_refl _) hg hr hwV hinV⟩, h3⟩
    case ioX =>
      intro c A C row hs hg hr
      obtain ⟨g1, j, g4⟩ := hs
      exact ⟨g1, j, g4.grown (Nat.le_refl _) hg hr hwV hinV⟩
    case ioE =>
      intro _ A C row hs hg hr
      obtain ⟨j, g4⟩ := hs
      exact ⟨j, g4.grown (Nat.le_refl _) hg hr hwV hinV⟩
    case ist => exact ⟨Kp.refl _ _, rfl, Cb.refl _ _, HNB.out.2.2, xtrans2 HST1.out.bel HBV.out, (KeepsFrom.refl _ _).bk⟩
    case ioA =>
      intro s x a' _ A C row hs hg hr
      obtain ⟨ge, y, g0, g1, g4, g5, g6, ⟨g7, g9⟩, g10⟩ := hs
      have hk : Kp NoB A C := (Kp.refl NoB _).grown hg hr
      exact ⟨ge, y, g0, g1, hk.cells _ _ _ _ g4 (fun h => h), g5, g6.grown hg hr, ⟨g7, g9.grown (Nat.le_refl _) hg hr hwV hinV⟩, g10⟩
    case iassign =>
      rintro l2 s ⟨u, U2⟩ X K ⟨g1, ⟨g2, g4⟩, g5⟩ hK
      simp only at g1 g2 g4 g5
      have HK : Hid (∀ a' W', _ → KeepsFrom V1.heap.size X W' → K a' W') := hK
      have H1 : Hid (Kp NoB U2 X) := g1
      have H2 : Hid (IJX w W0.heap.size inn V1 s.1 s.2.2 X) := ⟨g2, g4⟩
      have H3 : Hid (P2[s.1]? = some u) := g5
      have HSZ : Hid (V1.heap.size ≤ X.heap.size) := Chg.size g4.cb
      clear hK g1 g2 g4 g5
      gi_wp2
      have hbW : Below X.heap.size X (X.alloc (.cells #[.int .i64 u.s, .int .i64 u.i] 34)) := (Below.refl _ _).alloc (Nat.le_refl _) _
      have hblk := heap_alloc_new X (.cells #[.int .i64 u.s, .int .i64 u.i] 34)
      have hsz := HSZ.out
      generalize hge : X.heap.size = gf' at hblk hsz ⊢
      refine HK.out _ _ ⟨gf', u, rfl, H3.out, hblk, hsz, H1.out.trans (Kp.of_below hbW _), ⟨H2.out.1, H2.out.2.below hbW⟩, ?_⟩ (keeps_below hbW _)
      rfl
    case ibody =>
      rintro l2 ⟨j, V', M'⟩ ⟨u', U2⟩ a2 X hl2 ⟨r2, hr2⟩ ⟨gf', u, g0, g1, g4, g5, g6, ⟨g7, g9⟩, rfl⟩
      simp only at g0 g1 g4 g6 g7 g9
      have g0 := g0.symm
      subst g0
      have hj : j < m2 := by rw [← HM2.out]; exact (List.getElem?_eq_some_iff.1 g1).1
      have hRX : X.ownsRow W1.heap.size 36 3 (.slice na m2 nc) m2 (scs P2) := owns_kp HRV.out g9.cb.kp (fun y hy e => by
        have e' : y = inn := e
        have := HRN.out y hy
        omega)
      obtain ⟨ng, hna⟩ := row_addr hRX (by omega)
      subst hna
      obtain ⟨x1, x2⟩ := cells_2 g4
      have y0 : X.cell? ⟨ng, j * 3, none⟩ = some (.string u.p) := cell_n hRX (scs_at P2 j 0 u _ g1 rfl)
      have y1 : X.cell? ⟨ng, j * 3 + 1, none⟩ = some (.int .i64 u.s) := cell_n hRX (scs_at P2 j 1 u _ g1 rfl)
      have y2 : X.cell? ⟨ng, j * 3 + 2, none⟩ = some (.int .i64 u.i) := cell_n hRX (scs_at P2 j 2 u _ g1 rfl)
      have ci : X.cell? ⟨inn, 0, none⟩ = some (.int .i64 (j : Int)) := by rw [cell_blkX g9.inn]; rfl
      have cn : X.cell? ⟨nb, 0, none⟩ = some (.slice (some ⟨ng, 0, none⟩) m2 nc) := by
        rw [cell_blkX (g9.cb.cells HNB.out.1 (fun e => by have e' : nb = inn := e; omega))]
        rfl
      have cl : X.cell? ⟨nb + 1, 0, none⟩ = some (.bool true) := by
        rw [cell_blkX (g9.cb.cells HNB.out.2.1 (fun e => by have e' : nb + 1 = inn := e; omega))]
        rfl
      have hdj : decide ((m2 : Int) ≤ (j : Int)) = false := by simp; omega
      have hdn : decide (m2 ≤ j) = false := by simp; omega
      have hj64 : j < 1000 := by omega
      have HI9 : Hid (InX w W0.heap.size inn V1 j X) := g9
      have HKU2 : Hid (Kp NoB U2 X) := g6
      have HMM2 : Hid (M' = IMX inn) := g7
      clear g1 g4 g5 g6 g7 g9 hRX
      gi_wp2_with fail
      refine region_round (S := (fun w' => w'.cell? ⟨nb + 1, 0, none⟩ = some (.bool true) ∧ w'.cell? ⟨inn, 0, none⟩ = some (.int .i64 (j : Int)) ∧ w'.cell? ⟨nb, 0, none⟩ = some (.slice (some ⟨ng, 0, none⟩) m2 nc) ∧ w'.cell? ⟨gf', 0, none⟩ = some (.int .i64 u.s) ∧ w'.cell? ⟨gf', 1, none⟩ = some (.int .i64 u.i) ∧ w'.cell? ⟨ng, j * 3, none⟩ = some (.string u.p) ∧ w'.cell? ⟨ng, j * 3 + 1, none⟩ = some (.int .i64 u.s) ∧ w'.cell? ⟨ng, j * 3 + 2, none⟩ = some (.int .i64 u.i))) (by kernel_rfl) (by kernel_rfl) (by rintro ⟨a, w, h⟩; exact h) ⟨cl, ci, cn, x1, x2, y0, y1, y2⟩ (fun hHeld => ?_)
      refine wpAnyH_take (i := 0) (v := ?va_c0) rfl (by kernel_rfl) (by kernel_rfl) (by kernel_rfl) (fun _ _ _ h => h) ?hy_c0 hHeld ?ha_c0
      case hy_c0 => refine Or.inl ⟨by rfl, ?_⟩; intro w hSw; obtain ⟨hh0, hh1, hh2, hh3, hh4, hh5, hh6, hh7⟩ := hSw; go_simp <;> with_reducible rfl
      try simp only [List.getElem_toArray, List.getElem_cons_succ, List.getElem_cons_zero, Act.put, List.setIfInBounds_toArray, List.set_cons_zero, List.set_cons_succ]
      refine wpAnyH_take (i := 1) (v := ?va_c1) rfl (by kernel_rfl) (by kernel_rfl) (by kernel_rfl) (fun _ _ _ h => h) ?hy_c1 hHeld ?ha_c1
      case hy_c1 => refine Or.inl ⟨by rfl, ?_⟩; intro w hSw; obtain ⟨hh0, hh1, hh2, hh3, hh4, hh5, hh6, hh7⟩ := hSw; go_simp <;> with_reducible rfl
      try simp only [List.getElem_toArray, List.getElem_cons_succ, List.getElem_cons_zero, Act.put, List.setIfInBounds_toArray, List.set_cons_zero, List.set_cons_succ]
      refine wpAnyH_take (i := 2) (v := ?va_c2) rfl (by kernel_rfl) (by kernel_rfl) (by kernel_rfl) (fun _ _ _ h => h) ?hy_c2 hHeld ?ha_c2
      case hy_c2 => refine Or.inl ⟨by rfl, ?_⟩; intro w hSw; obtain ⟨hh0, hh1, hh2, hh3, hh4, hh5, hh6, hh7⟩ := hSw; go_simp <;> with_reducible rfl
      try simp only [List.getElem_toArray, List.getElem_cons_succ, List.getElem_cons_zero, Act.put, List.setIfInBounds_toArray, List.set_cons_zero, List.set_cons_succ]
      refine wpAnyH_take (i := 3) (v := ?va_c3) rfl (by kernel_rfl) (by kernel_rfl) (by kernel_rfl) (fun _ _ _ h => h) ?hy_c3 hHeld ?ha_c3
      case hy_c3 => refine Or.inl ⟨by rfl, ?_⟩; intro w hSw; obtain ⟨hh0, hh1, hh2, hh3, hh4, hh5, hh6, hh7⟩ := hSw; go_simp <;> with_reducible rfl
      try simp only [List.getElem_toArray, List.getElem_cons_succ, List.getElem_cons_zero, Act.put, List.setIfInBounds_toArray, List.set_cons_zero, List.set_cons_succ]
      refine wpAnyH_take (i := 4) (v := ?va_c4) rfl (by kernel_rfl) (by kernel_rfl) (by kernel_rfl) (fun _ _ _ h => h) ?hy_c4 hHeld ?ha_c4
      case hy_c4 => refine Or.inl ⟨by rfl, ?_⟩; intro w hSw; obtain ⟨hh0, hh1, hh2, hh3, hh4, hh5, hh6, hh7⟩ := hSw; go_simp <;> with_reducible rfl
      try simp only [List.getElem_toArray, List.getElem_cons_succ, List.getElem_cons_zero, Act.put, List.setIfInBounds_toArray, List.set_cons_zero, List.set_cons_succ]
      refine wpAnyH_take (i := 5) (v := ?va_c5) rfl (by kernel_rfl) (by kernel_rfl) (by kernel_rfl) (fun _ _ _ h => h) ?hy_c5 hHeld ?ha_c5
      case hy_c5 => refine Or.inl ⟨by rfl, ?_⟩; intro w hSw; obtain ⟨hh0, hh1, hh2, hh3, hh4, hh5, hh6, hh7⟩ := hSw; go_simp <;> with_reducible rfl
      try simp only [List.getElem_toArray, List.getElem_cons_succ, List.getElem_cons_zero, Act.put, List.setIfInBounds_toArray, List.set_cons_zero, List.set_cons_succ]
      refine wpAnyH_take (i := 6) (v := ?va_c6) rfl (by kernel_rfl) (by kernel_rfl) (by kernel_rfl) (fun _ _ _ h => h) ?hy_c6 hHeld ?ha_c6
      case hy_c6 => refine Or.inl ⟨by rfl, ?_⟩; intro w hSw; obtain ⟨hh0, hh1, hh2, hh3, hh4, hh5, hh6, hh7⟩ := hSw; go_simp <;> with_reducible rfl
      try simp only [List.getElem_toArray, List.getElem_cons_succ, List.getElem_cons_zero, Act.put, List.setIfInBounds_toArray, List.set_cons_zero, List.set_cons_succ]
      refine wpAnyH_take (i := 7) (v := ?va_c7) rfl (by kernel_rfl) (by kernel_rfl) (by kernel_rfl) (fun _ _ _ h => h) ?hy_c7 hHeld ?ha_c7
      case hy_c7 => refine Or.inl ⟨by rfl, ?_⟩; intro w hSw; obtain ⟨hh0, hh1, hh2, hh3, hh4, hh5, hh6, hh7⟩ := hSw; go_simp <;> with_reducible rfl
      try simp only [List.getElem_toArray, List.getElem_cons_succ, List.getElem_cons_zero, Act.put, List.setIfInBounds_toArray, List.set_cons_zero, List.set_cons_succ]
      refine wpAnyH_take (i := 8) (v := ?va_c8) rfl (by kernel_rfl) (by kernel_rfl) (by kernel_rfl) (fun _ _ _ h => h) ?hy_c8 hHeld ?ha_c8
      case hy_c8 => refine Or.inl ⟨by rfl, ?_⟩; intro w hSw; obtain ⟨hh0, hh1, hh2, hh3, hh4, hh5, hh6, hh7⟩ := hSw; go_simp <;> with_reducible rfl
      try simp only [List.getElem_toArray, List.getElem_cons_succ, List.getElem_cons_zero, Act.put, List.setIfInBounds_toArray, List.set_cons_zero, List.set_cons_succ]
      refine wpAnyH_take (i := 9) (v := ?va_c9) rfl (by kernel_rfl) (by kernel_rfl) (by kernel_rfl) (fun _ _ _ h => h) ?hy_c9 hHeld ?ha_c9
      case hy_c9 => refine Or.inl ⟨by rfl, ?_⟩; intro w hSw; obtain ⟨hh0, hh1, hh2, hh3, hh4, hh5, hh6, hh7⟩ := hSw; go_simp <;> with_reducible rfl
      try simp only [List.getElem_toArray, List.getElem_cons_succ, List.getElem_cons_zero, Act.put, List.setIfInBounds_toArray, List.set_cons_zero, List.set_cons_succ]
      refine wpAnyH_take (i := 10) (v := ?va_c10) rfl (by kernel_rfl) (by kernel_rfl) (by kernel_rfl) (fun _ _ _ h => h) ?hy_c10 hHeld ?ha_c10
      case hy_c10 => refine Or.inl ⟨by rfl, ?_⟩; intro w hSw; obtain ⟨hh0, hh1, hh2, hh3, hh4, hh5, hh6, hh7⟩ := hSw; go_simp <;> with_reducible rfl
      try simp only [List.getElem_toArray, List.getElem_cons_succ, List.getElem_cons_zero, Act.put, List.setIfInBounds_toArray, List.set_cons_zero, List.set_cons_succ]
      refine wpAnyH_take (i := 11) (v := ?va_c11) rfl (by kernel_rfl) (by kernel_rfl) (by kernel_rfl) (fun _ _ _ h => h) ?hy_c11 hHeld ?ha_c11
      case hy_c11 => refine Or.inl ⟨by rfl, ?_⟩; intro w hSw; obtain ⟨hh0, hh1, hh2, hh3, hh4, hh5, hh6, hh7⟩ := hSw; go_simp <;> with_reducible rfl
      try simp only [List.getElem_toArray, List.getElem_cons_succ, List.getElem_cons_zero, Act.put, List.setIfInBounds_toArray, List.set_cons_zero, List.set_cons_succ]
      refine wpAnyH_take (i := 12) (v := ?va_c12) rfl (by kernel_rfl) (by kernel_rfl) (by kernel_rfl) (fun _ _ _ h => h) ?hy_c12 hHeld ?ha_c12
      case hy_c12 => refine Or.inl ⟨by rfl, ?_⟩; intro w hSw; obtain ⟨hh0, hh1, hh2, hh3, hh4, hh5, hh6, hh7⟩ := hSw; go_simp <;> with_reducible rfl
      try simp only [List.getElem_toArray, List.getElem_cons_succ, List.getElem_cons_zero, Act.put, List.setIfInBounds_toArray, List.set_cons_zero, List.set_cons_succ]
      refine wpAnyH_take (i := 13) (v := ?va_c13) rfl (by kernel_rfl) (by kernel_rfl) (by kernel_rfl) (fun _ _ _ h => h) ?hy_c13 hHeld ?ha_c13
      case hy_c13 => refine Or.inl ⟨by rfl, ?_⟩; intro w hSw; obtain ⟨hh0, hh1, hh2, hh3, hh4, hh5, hh6, hh7⟩ := hSw; go_simp <;> with_reducible rfl
      try simp only [List.getElem_toArray, List.getElem_cons_succ, List.getElem_cons_zero, Act.put, List.setIfInBounds_toArray, List.set_cons_zero, List.set_cons_succ]
      refine wpAnyH_take (i := 14) (v := ?va_c14) rfl (by kernel_rfl) (by kernel_rfl) (by kernel_rfl) (fun _ _ _ h => h) ?hy_c14 hHeld ?ha_c14
      case hy_c14 => refine Or.inl ⟨by rfl, ?_⟩; intro w hSw; obtain ⟨hh0, hh1, hh2, hh3, hh4, hh5, hh6, hh7⟩ := hSw; go_simp <;> with_reducible rfl
      try simp only [List.getElem_toArray, List.getElem_cons_succ, List.getElem_cons_zero, Act.put, List.setIfInBounds_toArray, List.set_cons_zero, List.set_cons_succ]
      refine wpAnyH_take (i := 15) (v := ?va_c15) rfl (by kernel_rfl) (by kernel_rfl) (by kernel_rfl) (fun _ _ _ h => h) ?hy_c15 hHeld ?ha_c15
      case hy_c15 => refine Or.inl ⟨by rfl, ?_⟩; intro w hSw; obtain ⟨hh0, hh1, hh2, hh3, hh4, hh5, hh6, hh7⟩ := hSw; go_simp <;> with_reducible rfl
      try simp only [List.getElem_toArray, List.getElem_cons_succ, List.getElem_cons_zero, Act.put, List.setIfInBounds_toArray, List.set_cons_zero, List.set_cons_succ]
      refine wpAnyH_take (i := 16) (v := ?va_c16) rfl (by kernel_rfl) (by kernel_rfl) (by kernel_rfl) (fun _ _ _ h => h) ?hy_c16 hHeld ?ha_c16
      case hy_c16 => refine Or.inl ⟨by rfl, ?_⟩; intro w hSw; obtain ⟨hh0, hh1, hh2, hh3, hh4, hh5, hh6, hh7⟩ := hSw; go_simp <;> with_reducible rfl
      try simp only [List.getElem_toArray, List.getElem_cons_succ, List.getElem_cons_zero, Act.put, List.setIfInBounds_toArray, List.set_cons_zero, List.set_cons_succ]
      refine wpAnyH_take (i := 17) (v := ?va_c17) rfl (by kernel_rfl) (by kernel_rfl) (by kernel_rfl) (fun _ _ _ h => h) ?hy_c17 hHeld ?ha_c17
      case hy_c17 => refine Or.inl ⟨by rfl, ?_⟩; intro w hSw; obtain ⟨hh0, hh1, hh2, hh3, hh4, hh5, hh6, hh7⟩ := hSw; go_simp <;> with_reducible rfl
      try simp only [List.getElem_toArray, List.getElem_cons_succ, List.getElem_cons_zero, Act.put, List.setIfInBounds_toArray, List.set_cons_zero, List.set_cons_succ]
      refine wpAnyH_done (by kernel_rfl) ?_ _
      have hbd : Below X.heap.size X X.drew := below_drew (Below.refl _ _)
      have ci1 : X.drew.cell? ⟨inn, 0, none⟩ = some (.int .i64 (j : Int)) := ci
      obtain ⟨X1, hX1⟩ : ∃ X1, X.drew = X1 := ⟨_, rfl⟩
      rw [hX1] at ci1 hbd ⊢
      have HI1 : Hid (InX w W0.heap.size inn V1 j X1) := HI9.out.below hbd
      have fi1 := free_blkX HI1.out.inn
      have HI2 : Hid (InX w W0.heap.size inn V1 (j + 1) (X1.setCell ⟨inn, 0, none⟩ (.int .i64 ((j : Int) + 1)))) := HI1.out.set HWI.out.1
      have HK2 : Hid (KeepsFrom V1.heap.size X (X1.setCell ⟨inn, 0, none⟩ (.int .i64 ((j : Int) + 1)))) := (keeps_below hbd _).trans ((KeepsOthers.setCell _ _ _).from _)
      have HP2' : Hid (Kp M' U2 (X1.setCell ⟨inn, 0, none⟩ (.int .i64 ((j : Int) + 1)))) := by
        rw [HMM2.out]
        exact (HKU2.out.mono (fun _ h => h.elim)).trans ((Kp.of_below hbd _).trans (Kp.of_chg (Chg.set _ _ _)))
      clear hHeld hbd hX1 ci cn cl x1 x2 y0 y1 y2 hdj hdn HI1 HI9
      by_cases h3 : 3 < (j : Int) + 1
      · gi_wp2_with fail
        exact ⟨HK2.out, rfl, j + 1, HI2.out⟩
      · gi_wp2_with fail
        exact ⟨HK2.out, (j + 1, X1.setCell ⟨inn, 0, none⟩ (.int .i64 ((j : Int) + 1)), IMX inn), ⟨rfl, HP2'.out, fun x hx => .inl (by rw [HMM2.out]; exact hx)⟩, Kp.refl _ _, rfl, HI2.out⟩
    case idone =>
      rintro X ⟨j, hI⟩
      have HIX : Hid (InX w W0.heap.size inn V1 j X) := hI
      have HSXX : Hid (SX w.heap.size z2 z4 z5 lo k (.slice (some ⟨wg, 0, none⟩) m wc) P X) := HSV.out.kp LIE.out hI.cb.kp (fun x hx => .inr (by have hx' : x = inn := hx; have t1 := HWI.out.2.1; omega))
      have HAX : Hid (t.At X lo) := HST1.out.inner HBV.out hI HWI.out.2.2
      obtain ⟨r9, hr9⟩ : ∃ r9, r9 + q + 1 = m := ⟨m - 1 - q, by omega⟩
      obtain ⟨d, hd⟩ : ∃ d, P[r9]? = some d := ⟨P[r9]'(by rw [HM.out]; omega), List.getElem?_eq_getElem _⟩
      have hdw : wfI d.s := HWS.out d (HPH.out d (List.mem_of_getElem? hd))
      have hRX : X.ownsRow z2 36 3 (.slice (some ⟨wg, 0, none⟩) m wc) m (scs P) := by have h9 := HSXX.out.row; rw [HM.out] at h9; exact h9
      have d1 : X.cell? ⟨wg, r9 * 3 + 1, none⟩ = some (.int .i64 d.s) := cell_n hRX (scs_at P r9 1 d _ hd rfl)
      have d2 : X.cell? ⟨wg, r9 * 3 + 2, none⟩ = some (.int .i64 d.i) := cell_n hRX (scs_at P r9 2 d _ hd rfl)
      have cax : X.heap[z5 + 1]? = some (.cells #[.int .i64 (q : Int)] 3 (0, 0)) := hI.cb.cells (kept_block HBV.out HST1.out.at') (fun e => by have e' : z5 + 1 = inn := e; have t1 := HWI.out.2.1; omega)
      have ca : X.cell? ⟨z5 + 1, 0, none⟩ = some (.int .i64 (q : Int)) := by rw [cell_blkX cax]; rfl
      have cw : X.cell? ⟨z4, 0, none⟩ = some (.slice (some ⟨wg, 0, none⟩) m wc) := by rw [cell_blkX HSXX.out.ws]; rfl
      have cg : X.cell? ⟨z2, 0, none⟩ = some (ndV lo) := by rw [cell_blkX HSXX.out.gb]; rfl
      have HGX : Hid (Ground X.drew) := HG.out.below (below_drew hI.bel)
      have hw1 : IntKind.i64.wrap ((m : Int) - 1) = (m : Int) - 1 := by rw [IntKind.wrap_i64]; omega
      have hw2 : IntKind.i64.wrap ((m : Int) - 1 - (q : Int)) = (r9 : Int) := by rw [IntKind.wrap_i64]; omega
      have hw3 : (0 : Int) ≤ (r9 : Int) := by omega
      have hw4 : (r9 : Int) < (m : Int) := by omega
      have hw5 : r9 < m := by omega
      have HDW : Hid (wfI d.s) := hdw
      have HDR : Hid (∀ (X2 : World) (T : Nat → Prop), Chg X.drew X2 T → (∀ x, T x → (lo ≤ x ∧ x < z2) ∨ z5 + 1 < x) → X2.heap[z5 + 1]? = some (.cells #[.int .i64 (q : Int)] 3 (0, 0)) ∧ SX w.heap.size z2 z4 z5 lo k (.slice (some ⟨wg, 0, none⟩) m wc) P X2 ∧ X2.cell? ⟨wg, r9 * 3 + 1, none⟩ = some (.int .i64 d.s) ∧ X2.cell? ⟨wg, r9 * 3 + 2, none⟩ = some (.int .i64 d.i)) := fun X2 T hc hT => by
        have hdr : Below X.heap.size X X.drew := below_drew (Below.refl _ _)
        have k1 : Kp T X X2 := (Kp.of_below hdr _).trans (Kp.of_chg hc)
        have s2 := HSXX.out.kp LIE.out k1 (fun x hx => (hT x hx).imp id (fun e => by omega))
        have s3 := s2.row
        rw [HM.out] at s3
        refine ⟨k1.cells _ _ _ _ cax (fun e => ?_), s2, cell_n s3 (scs_at P r9 1 d _ hd rfl), cell_n s3 (scs_at P r9 2 d _ hd rfl)⟩
        have h9 := hT _ e
        have h8 := HZW.out.2
        omega
      have HFT : Hid (∀ x, t.F x → (lo ≤ x ∧ x < z2) ∨ z5 + 1 < x) := fun x hx => (HST1.out.new x hx).imp (HF0.out x) (fun e => by omega)
      clear hd hdw hRX cax hI
      gi_wp2_with fail
      refine region_round (S := (fun w' => w'.cell? ⟨z2, 0, none⟩ = some (ndV lo) ∧ w'.cell? ⟨z4, 0, none⟩ = some (.slice (some ⟨wg, 0, none⟩) m wc) ∧ w'.cell? ⟨z5 + 1, 0, none⟩ = some (.int .i64 (q : Int)) ∧ w'.cell? ⟨wg, r9 * 3 + 1, none⟩ = some (.int .i64 d.s) ∧ w'.cell? ⟨wg, r9 * 3 + 2, none⟩ = some (.int .i64 d.i) ∧ True)) (by kernel_rfl) (by kernel_rfl) (by rintro ⟨a, w, h⟩; exact h) ⟨cg, cw, ca, d1, d2, trivial⟩ (fun hHeld => ?_)
      refine wpAnyH_take (i := 0) (v := ?va_e0) rfl (by kernel_rfl) (by kernel_rfl) (by kernel_rfl) (fun _ _ _ h => h) ?hy_e0 hHeld ?ha_e0
      case hy_e0 => refine Or.inl ⟨by rfl, ?_⟩; intro w hSw; obtain ⟨hh0, hh1, hh2, hh3, hh4, hh5⟩ := hSw; go_simp <;> with_reducible rfl
      try simp only [List.getElem_toArray, List.getElem_cons_succ, List.getElem_cons_zero, Act.put, List.setIfInBounds_toArray, List.set_cons_zero, List.set_cons_succ]
      refine wpAnyH_take (i := 1) (v := ?va_e1) rfl (by kernel_rfl) (by kernel_rfl) (by kernel_rfl) (fun _ _ _ h => h) ?hy_e1 hHeld ?ha_e1
      case hy_e1 => refine Or.inl ⟨by rfl, ?_⟩; intro w hSw; obtain ⟨hh0, hh1, hh2, hh3, hh4, hh5⟩ := hSw; go_simp <;> with_reducible rfl
      try simp only [List.getElem_toArray, List.getElem_cons_succ, List.getElem_cons_zero, Act.put, List.setIfInBounds_toArray, List.set_cons_zero, List.set_cons_succ]
      refine wpAnyH_take (i := 2) (v := ?va_e2) rfl (by kernel_rfl) (by kernel_rfl) (by kernel_rfl) (fun _ _ _ h => h) ?hy_e2 hHeld ?ha_e2
      case hy_e2 => refine Or.inl ⟨by rfl, ?_⟩; intro w hSw; obtain ⟨hh0, hh1, hh2, hh3, hh4, hh5⟩ := hSw; go_simp <;> with_reducible rfl
      try simp only [List.getElem_toArray, List.getElem_cons_succ, List.getElem_cons_zero, Act.put, List.setIfInBounds_toArray, List.set_cons_zero, List.set_cons_succ]
      refine wpAnyH_take (i := 3) (v := ?va_e3) rfl (by kernel_rfl) (by kernel_rfl) (by kernel_rfl) (fun _ _ _ h => h) ?hy_e3 hHeld ?ha_e3
      case hy_e3 => refine Or.inl ⟨by rfl, ?_⟩; intro w hSw; obtain ⟨hh0, hh1, hh2, hh3, hh4, hh5⟩ := hSw; go_simp <;> with_reducible rfl
      try simp only [List.getElem_toArray, List.getElem_cons_succ, List.getElem_cons_zero, Act.put, List.setIfInBounds_toArray, List.set_cons_zero, List.set_cons_succ]
      refine wpAnyH_take (i := 4) (v := ?va_e4) rfl (by kernel_rfl) (by kernel_rfl) (by kernel_rfl) (fun _ _ _ h => h) ?hy_e4 hHeld ?ha_e4
      case hy_e4 => refine Or.inl ⟨by rfl, ?_⟩; intro w hSw; obtain ⟨hh0, hh1, hh2, hh3, hh4, hh5⟩ := hSw; go_simp <;> with_reducible rfl
      try simp only [List.getElem_toArray, List.getElem_cons_succ, List.getElem_cons_zero, Act.put, List.setIfInBounds_toArray, List.set_cons_zero, List.set_cons_succ]
      refine wpAnyH_take (i := 5) (v := ?va_e5) rfl (by kernel_rfl) (by kernel_rfl) (by kernel_rfl) (fun _ _ _ h => h) ?hy_e5 hHeld ?ha_e5
      case hy_e5 => refine Or.inl ⟨by rfl, ?_⟩; intro w hSw; obtain ⟨hh0, hh1, hh2, hh3, hh4, hh5⟩ := hSw; go_simp <;> with_reducible rfl
      try simp only [List.getElem_toArray, List.getElem_cons_succ, List.getElem_cons_zero, Act.put, List.setIfInBounds_toArray, List.set_cons_zero, List.set_cons_succ]
      refine wpAnyH_take (i := 6) (v := ?va_e6) rfl (by kernel_rfl) (by kernel_rfl) (by kernel_rfl) (fun _ _ _ h => h) ?hy_e6 hHeld ?ha_e6
      case hy_e6 => refine Or.inl ⟨by rfl, ?_⟩; intro w hSw; obtain ⟨hh0, hh1, hh2, hh3, hh4, hh5⟩ := hSw; go_simp <;> with_reducible rfl
      try simp only [List.getElem_toArray, List.getElem_cons_succ, List.getElem_cons_zero, Act.put, List.setIfInBounds_toArray, List.set_cons_zero, List.set_cons_succ]
      refine wpAnyH_take (i := 7) (v := ?va_e7) rfl (by kernel_rfl) (by kernel_rfl) (by kernel_rfl) (fun _ _ _ h => h) ?hy_e7 hHeld ?ha_e7
      case hy_e7 => refine Or.inl ⟨by rfl, ?_⟩; intro w hSw; obtain ⟨hh0, hh1, hh2, hh3, hh4, hh5⟩ := hSw; go_simp <;> with_reducible rfl
      try simp only [List.getElem_toArray, List.getElem_cons_succ, List.getElem_cons_zero, Act.put, List.setIfInBounds_toArray, List.set_cons_zero, List.set_cons_succ]
      refine wpAnyH_take (i := 8) (v := ?va_e8) rfl (by kernel_rfl) (by kernel_rfl) (by kernel_rfl) (fun _ _ _ h => h) ?hy_e8 hHeld ?ha_e8
      case hy_e8 => refine Or.inl ⟨by rfl, ?_⟩; intro w hSw; obtain ⟨hh0, hh1, hh2, hh3, hh4, hh5⟩ := hSw; go_simp <;> with_reducible rfl
      try simp only [List.getElem_toArray, List.getElem_cons_succ, List.getElem_cons_zero, Act.put, List.setIfInBounds_toArray, List.set_cons_zero, List.set_cons_succ]
      refine wpAnyH_take (i := 9) (v := ?va_e9) rfl (by kernel_rfl) (by kernel_rfl) (by kernel_rfl) (fun _ _ _ h => h) ?hy_e9 hHeld ?ha_e9
      case hy_e9 => refine Or.inl ⟨by rfl, ?_⟩; intro w hSw; obtain ⟨hh0, hh1, hh2, hh3, hh4, hh5⟩ := hSw; go_simp <;> with_reducible rfl
      try simp only [List.getElem_toArray, List.getElem_cons_succ, List.getElem_cons_zero, Act.put, List.setIfInBounds_toArray, List.set_cons_zero, List.set_cons_succ]
      refine wpAnyH_take (i := 10) (v := ?va_e10) rfl (by kernel_rfl) (by kernel_rfl) (by kernel_rfl) (fun _ _ _ h => h) ?hy_e10 hHeld ?ha_e10
      case hy_e10 => refine Or.inl ⟨by rfl, ?_⟩; intro w hSw; obtain ⟨hh0, hh1, hh2, hh3, hh4, hh5⟩ := hSw; go_simp <;> with_reducible rfl
      try simp only [List.getElem_toArray, List.getElem_cons_succ, List.getElem_cons_zero, Act.put, List.setIfInBounds_toArray, List.set_cons_zero, List.set_cons_succ]
      refine wpAnyH_take (i := 11) (v := ?va_e11) rfl (by kernel_rfl) (by kernel_rfl) (by kernel_rfl) (fun _ _ _ h => h) ?hy_e11 hHeld ?ha_e11
      case hy_e11 => refine Or.inl ⟨by rfl, ?_⟩; intro w hSw; obtain ⟨hh0, hh1, hh2, hh3, hh4, hh5⟩ := hSw; go_simp <;> with_reducible rfl
      try simp only [List.getElem_toArray, List.getElem_cons_succ, List.getElem_cons_zero, Act.put, List.setIfInBounds_toArray, List.set_cons_zero, List.set_cons_succ]
      refine wpAnyH_take (i := 12) (v := ?va_e12) rfl (by kernel_rfl) (by kernel_rfl) (by kernel_rfl) (fun _ _ _ h => h) ?hy_e12 hHeld ?ha_e12
      case hy_e12 => refine Or.inl ⟨by rfl, ?_⟩; intro w hSw; obtain ⟨hh0, hh1, hh2, hh3, hh4, hh5⟩ := hSw; go_simp <;> with_reducible rfl
      try simp only [List.getElem_toArray, List.getElem_cons_succ, List.getElem_cons_zero, Act.put, List.setIfInBounds_toArray, List.set_cons_zero, List.set_cons_succ]
      refine wpAnyH_take (i := 13) (v := ?va_e13) rfl (by kernel_rfl) (by kernel_rfl) (by kernel_rfl) (fun _ _ _ h => h) ?hy_e13 hHeld ?ha_e13
      case hy_e13 => refine Or.inl ⟨by rfl, ?_⟩; intro w hSw; obtain ⟨hh0, hh1, hh2, hh3, hh4, hh5⟩ := hSw; go_simp <;> with_reducible rfl
      try simp only [List.getElem_toArray, List.getElem_cons_succ, List.getElem_cons_zero, Act.put, List.setIfInBounds_toArray, List.set_cons_zero, List.set_cons_succ]
      refine wpAnyH_take (i := 14) (v := ?va_e14) rfl (by kernel_rfl) (by kernel_rfl) (by kernel_rfl) (fun _ _ _ h => h) ?hy_e14 hHeld ?ha_e14
      case hy_e14 => refine Or.inl ⟨by rfl, ?_⟩; intro w hSw; obtain ⟨hh0, hh1, hh2, hh3, hh4, hh5⟩ := hSw; go_simp <;> with_reducible rfl
      try simp only [List.getElem_toArray, List.getElem_cons_succ, List.getElem_cons_zero, Act.put, List.setIfInBounds_toArray, List.set_cons_zero, List.set_cons_succ]
      refine wpAnyH_take (i := 15) (v := ?va_e15) rfl (by kernel_rfl) (by kernel_rfl) (by kernel_rfl) (fun _ _ _ h => h) ?hy_e15 hHeld ?ha_e15
      case hy_e15 => refine Or.inl ⟨by rfl, ?_⟩; intro w hSw; obtain ⟨hh0, hh1, hh2, hh3, hh4, hh5⟩ := hSw; go_simp <;> with_reducible rfl
      try simp only [List.getElem_toArray, List.getElem_cons_succ, List.getElem_cons_zero, Act.put, List.setIfInBounds_toArray, List.set_cons_zero, List.set_cons_succ]
      refine wpAnyH_take (i := 16) (v := ?va_e16) rfl (by kernel_rfl) (by kernel_rfl) (by kernel_rfl) (fun _ _ _ h => h) ?hy_e16 hHeld ?ha_e16
      case hy_e16 => refine Or.inl ⟨by rfl, ?_⟩; intro w hSw; obtain ⟨hh0, hh1, hh2, hh3, hh4, hh5⟩ := hSw; go_simp <;> with_reducible rfl
      try simp only [List.getElem_toArray, List.getElem_cons_succ, List.getElem_cons_zero, Act.put, List.setIfInBounds_toArray, List.set_cons_zero, List.set_cons_succ]
      refine wpAnyH_take (i := 17) (v := ?va_e17) rfl (by kernel_rfl) (by kernel_rfl) (by kernel_rfl) (fun _ _ _ h => h) ?hy_e17 hHeld ?ha_e17
      case hy_e17 => refine Or.inl ⟨by rfl, ?_⟩; intro w hSw; obtain ⟨hh0, hh1, hh2, hh3, hh4, hh5⟩ := hSw; go_simp <;> with_reducible rfl
      try simp only [List.getElem_toArray, List.getElem_cons_succ, List.getElem_cons_zero, Act.put, List.setIfInBounds_toArray, List.set_cons_zero, List.set_cons_succ]
      refine wpAnyH_take (i := 18) (v := ?va_e18) rfl (by kernel_rfl) (by kernel_rfl) (by kernel_rfl) (fun _ _ _ h => h) ?hy_e18 hHeld ?ha_e18
      case hy_e18 => refine Or.inl ⟨by rfl, ?_⟩; intro w hSw; obtain ⟨hh0, hh1, hh2, hh3, hh4, hh5⟩ := hSw; go_simp <;> with_reducible rfl
      try simp only [List.getElem_toArray, List.getElem_cons_succ, List.getElem_cons_zero, Act.put, List.setIfInBounds_toArray, List.set_cons_zero, List.set_cons_succ]
      refine wpAnyH_take (i := 19) (v := ?va_e19) rfl (by kernel_rfl) (by kernel_rfl) (by kernel_rfl) (fun _ _ _ h => h) ?hy_e19 hHeld ?ha_e19
      case hy_e19 => refine Or.inl ⟨by rfl, ?_⟩; intro w hSw; obtain ⟨hh0, hh1, hh2, hh3, hh4, hh5⟩ := hSw; go_simp <;> with_reducible rfl
      try simp only [List.getElem_toArray, List.getElem_cons_succ, List.getElem_cons_zero, Act.put, List.setIfInBounds_toArray, List.set_cons_zero, List.set_cons_succ]
      refine wpAnyH_take (i := 20) (v := ?va_e20) rfl (by kernel_rfl) (by kernel_rfl) (by kernel_rfl) (fun _ _ _ h => h) ?hy_e20 hHeld ?ha_e20
      case hy_e20 => refine Or.inl ⟨by rfl, ?_⟩; intro w hSw; obtain ⟨hh0, hh1, hh2, hh3, hh4, hh5⟩ := hSw; go_simp <;> with_reducible rfl
      try simp only [List.getElem_toArray, List.getElem_cons_succ, List.getElem_cons_zero, Act.put, List.setIfInBounds_toArray, List.set_cons_zero, List.set_cons_succ]
      refine wpAnyH_ready (rs := [21]) (by kernel_rfl) (by simp) ?_
      refine AllReadyH.cons rfl (fun K hK => ?_) AllReadyH.nil
      go_simp
      refine (dropX t X.drew lo d.s d.i (HAX.out.below (below_drew (Below.refl _ _))) HGX.out (by omega) HDW.out).mono ?_
      rintro e' X2 ⟨⟨c2, rfl⟩, t2, h2, hE2, hl2⟩
      obtain ⟨f1, f2, f3, f4⟩ := HDR.out X2 _ hE2.chg HFT.out
      refine hK.out _ _ ⟨by rw [cell_blkX f2.gb]; rfl, by rw [cell_blkX f2.ws]; rfl, by rw [cell_blkX f1]; rfl, f3, f4, trivial⟩ (fun hHeld => ?_)
      clear hK K
      try simp only [List.getElem_toArray, List.getElem_cons_succ, List.getElem_cons_zero, Act.put, List.setIfInBounds_toArray, List.set_cons_zero, List.set_cons_succ]
      refine wpAnyH_done (by kernel_rfl) ?_ _
      have HA2 : Hid (t2.At X2 lo) := h2
      have HE2 : Hid (TxE X.drew X2 t t2) := hE2
      have HL2 : Hid (t2.hs.length ≤ t.hs.length + 1) := hl2
      have HS2 : Hid (SX w.heap.size z2 z4 z5 lo k (.slice (some ⟨wg, 0, none⟩) m wc) P X2) := f2
      have ca2 : X2.cell? ⟨z5 + 1, 0, none⟩ = some (.int .i64 (q : Int)) := by rw [cell_blkX f1]; rfl
      have cg2 : X2.cell? ⟨z2, 0, none⟩ = some (ndV lo) := by rw [cell_blkX f2.gb]; rfl
      have HF2 : Hid (∀ x, t2.F x → (lo ≤ x ∧ x < z2) ∨ z5 + 1 < x) := fun x hx => (hE2.new x hx).elim (HFT.out x) (fun e => .inr (by
        have e1 := lt_of_blk HST1.out.at'
        have e2 := HBV.out.size
        have e3 := Chg.size HIX.out.cb
        have e4 : X.drew.heap.size = X.heap.size := rfl
        omega))
      have HG2 : Hid (Ground X2) := by
        have g0 := HGX.out.lt
        refine HGX.out.chg hE2.chg (fun e => ?_) (fun e => ?_)
        · have g9 := HG.out.lt
          rcases HFT.out _ e with g | g
          · have := HLO.out.1; omega
          · have := HZW.out.1; omega
        · have g9 := HG.out.lt
          rcases HFT.out _ e with g | g
          · have := HLO.out.1; omega
          · have := HZW.out.1; omega
      clear hHeld h2 hE2 hl2 f1 f2 f3 f4 ca cw cg d1 d2 hw1 hw2 hw3 hw4 hw5
      gi_wp2_with fail
      refine ⟨trivial, ?_⟩
      refine (calls_roundX (addX t2 X2 lo 2000000000 (1 + (q : Int)) ⟨#[47, 48]⟩ 3 0 HA2.out HG2.out (by have := HL2.out; omega) (by rfl))).mono ?_
      rintro e' X3 ⟨⟨c3, rfl⟩, t3, h3, hE3, hl3⟩
      obtain ⟨f1, f2, f3, f4, f5⟩ := stop_finX (B0 := W0.heap.size) HST1.out HBV.out HIX.out HWI.out.2.2 (below_drew (Below.refl _ _)) HA2.out HE2.out HL2.out h3 hE3 hl3 hqm HFZ.out hB0 HZW.out.1
      have HS3 : Hid (SX w.heap.size z2 z4 z5 lo k (.slice (some ⟨wg, 0, none⟩) m wc) P X3) := HS2.out.kp LIE.out (Kp.of_chg hE3.chg) (fun x hx => (HF2.out x hx).imp id (fun e => by omega))
      have HF2' : Hid (StX w m z5 lo t0 W0 (q + 1) t3 (X3.setCell ⟨z5 + 1, 0, none⟩ (.int .i64 ((q : Int) + 1)))) := f2
      have HF3 : Hid (Kp (OMX t z5) W (X3.setCell ⟨z5 + 1, 0, none⟩ (.int .i64 ((q : Int) + 1)))) := f3
      have HF4 : Hid (KeepsBk W0.heap.size W (X3.setCell ⟨z5 + 1, 0, none⟩ (.int .i64 ((q : Int) + 1)))) := f4
      have HF5 : Hid (∀ x, OMX t3 z5 x → OMX t z5 x ∨ W.heap.size ≤ x) := f5
      have ca3 : X3.cell? ⟨z5 + 1, 0, none⟩ = some (.int .i64 (q : Int)) := by rw [cell_blkX f1]; rfl
      have fa3 := free_blkX f1
      have ck4 : (X3.setCell ⟨z5 + 1, 0, none⟩ (.int .i64 ((q : Int) + 1))).cell? ⟨w.heap.size, 0, none⟩ = some (.int .i64 k) := by
        rw [cell_blkX (other_blk HS3.out.kb (by have t0 := LIE.out.a; have t1 := LIE.out.b; have t2 := LIE.out.c; have t3 := LIE.out.d; omega))]
        rfl
      clear h3 hE3 hl3 cg2 ca2 f1 f2 f3 f4 f5
      have e1 : ((q + 1 : Nat) : Int) = (q : Int) + 1 := by omega
      by_cases hk : (q : Int) + 1 = k
      · have hkd : decide ((q : Int) + 1 = k) = true := by simpa using hk
        have hkb : (((q : Int) + 1) == k) = true := by simpa using hk
        have HKQ : Hid ((q : Int) + 1 = k) := hk
        clear hk
        gi_wp2_with fail
        exact ⟨HF4.out, rfl, q + 1, t3, by rw [e1]; exact HKQ.out, by omega, HF2'.out⟩
      · gi_wp2_with fail
        exact ⟨HF4.out, (q + 1, X3.setCell ⟨z5 + 1, 0, none⟩ (.int .i64 ((q : Int) + 1)), OMX t3 z5), ⟨rfl, by rw [HMM.out]; exact (HKU.out.mono (fun _ h => h.elim)).trans HF3.out, fun x hx => by
          rw [HMM.out]
          exact (HF5.out x hx).imp id (fun e => Nat.le_trans HKU.out.size e)⟩, Kp.refl _ _, t3, rfl, by have := HNO.out; rw [e1]; omega, HF2'.out⟩
    case istop =>
      rintro c X ⟨rfl, j, hI⟩
      have HIX : Hid (InX w W0.heap.size inn V1 j X) := hI
      have HSXX : Hid (SX w.heap.size z2 z4 z5 lo k (.slice (some ⟨wg, 0, none⟩) m wc) P X) := HSV.out.kp LIE.out hI.cb.kp (fun x hx => .inr (by have hx' : x = inn := hx; have t1 := HWI.out.2.1; omega))
      have HAX : Hid (t.At X lo) := HST1.out.inner HBV.out hI HWI.out.2.2
      obtain ⟨r9, hr9⟩ : ∃ r9, r9 + q + 1 = m := ⟨m - 1 - q, by omega⟩
      obtain ⟨d, hd⟩ : ∃ d, P[r9]? = some d := ⟨P[r9]'(by rw [HM.out]; omega), List.getElem?_eq_getElem _⟩
      have hdw : wfI d.s := HWS.out d (HPH.out d (List.mem_of_getElem? hd))
      have hRX : X.ownsRow z2 36 3 (.slice (some ⟨wg, 0, none⟩) m wc) m (scs P) := by have h9 := HSXX.out.row; rw [HM.out] at h9; exact h9
      have d1 : X.cell? ⟨wg, r9 * 3 + 1, none⟩ = some (.int .i64 d.s) := cell_n hRX (scs_at P r9 1 d _ hd rfl)
      have d2 : X.cell? ⟨wg, r9 * 3 + 2, none⟩ = some (.int .i64 d.i) := cell_n hRX (scs_at P r9 2 d _ hd rfl)
      have cax : X.heap[z5 + 1]? = some (.cells #[.int .i64 (q : Int)] 3 (0, 0)) := hI.cb.cells (kept_block HBV.out HST1.out.at') (fun e => by have e' : z5 + 1 = inn := e; have t1 := HWI.out.2.1; omega)
      have ca : X.cell? ⟨z5 + 1, 0, none⟩ = some (.int .i64 (q : Int)) := by rw [cell_blkX cax]; rfl
      have cw : X.cell? ⟨z4, 0, none⟩ = some (.slice (some ⟨wg, 0, none⟩) m wc) := by rw [cell_blkX HSXX.out.ws]; rfl
      have cg : X.cell? ⟨z2, 0, none⟩ = some (ndV lo) := by rw [cell_blkX HSXX.out.gb]; rfl
      have HGX : Hid (Ground X.drew) := HG.out.below (below_drew hI.bel)
      have hw1 : IntKind.i64.wrap ((m : Int) - 1) = (m : Int) - 1 := by rw [IntKind.wrap_i64]; omega
      have hw2 : IntKind.i64.wrap ((m : Int) - 1 - (q : Int)) = (r9 : Int) := by rw [IntKind.wrap_i64]; omega
      have hw3 : (0 : Int) ≤ (r9 : Int) := by omega
      have hw4 : (r9 : Int) < (m : Int) := by omega
      have hw5 : r9 < m := by omega
      have HDW : Hid (wfI d.s) := hdw
      have HDR : Hid (∀ (X2 : World) (T : Nat → Prop), Chg X.drew X2 T → (∀ x, T x → (lo ≤ x ∧ x < z2) ∨ z5 + 1 < x) → X2.heap[z5 + 1]? = some (.cells #[.int .i64 (q : Int)] 3 (0, 0)) ∧ SX w.heap.size z2 z4 z5 lo k (.slice (some ⟨wg, 0, none⟩) m wc) P X2 ∧ X2.cell? ⟨wg, r9 * 3 + 1, none⟩ = some (.int .i64 d.s) ∧ X2.cell? ⟨wg, r9 * 3 + 2, none⟩ = some (.int .i64 d.i)) := fun X2 T hc hT => by
        have hdr : Below X.heap.size X X.drew := below_drew (Below.refl _ _)
        have k1 : Kp T X X2 := (Kp.of_below hdr _).trans (Kp.of_chg hc)
        have s2 := HSXX.out.kp LIE.out k1 (fun x hx => (hT x hx).imp id (fun e => by omega))
        have s3 := s2.row
        rw [HM.out] at s3
        refine ⟨k1.cells _ _ _ _ cax (fun e => ?_), s2, cell_n s3 (scs_at P r9 1 d _ hd rfl), cell_n s3 (scs_at P r9 2 d _ hd rfl)⟩
        have h9 := hT _ e
        have h8 := HZW.out.2
        omega
      have HFT : Hid (∀ x, t.F x → (lo ≤ x ∧ x < z2) ∨ z5 + 1 < x) := fun x hx => (HST1.out.new x hx).imp (HF0.out x) (fun e => by omega)
      clear hd hdw hRX cax hI
      gi_wp2_with fail
      refine region_round (S := (fun w' => w'.cell? ⟨z2, 0, none⟩ = some (ndV lo) ∧ w'.cell? ⟨z4, 0, none⟩ = some (.slice (some ⟨wg, 0, none⟩) m wc) ∧ w'.cell? ⟨z5 + 1, 0, none⟩ = some (.int .i64 (q : Int)) ∧ w'.cell? ⟨wg, r9 * 3 + 1, none⟩ = some (.int .i64 d.s) ∧ w'.cell? ⟨wg, r9 * 3 + 2, none⟩ = some (.int .i64 d.i) ∧ True)) (by kernel_rfl) (by kernel_rfl) (by rintro ⟨a, w, h⟩; exact h) ⟨cg, cw, ca, d1, d2, trivial⟩ (fun hHeld => ?_)
      refine wpAnyH_take (i := 0) (v := ?va_f0) rfl (by kernel_rfl) (by kernel_rfl) (by kernel_rfl) (fun _ _ _ h => h) ?hy_f0 hHeld ?ha_f0
      case hy_f0 => refine Or.inl ⟨by rfl, ?_⟩; intro w hSw; obtain ⟨hh0, hh1, hh2, hh3, hh4, hh5⟩ := hSw; go_simp <;> with_reducible rfl
      try simp only [List.getElem_toArray, List.getElem_cons_succ, List.getElem_cons_zero, Act.put, List.setIfInBounds_toArray, List.set_cons_zero, List.set_cons_succ]
      refine wpAnyH_take (i := 1) (v := ?va_f1) rfl (by kernel_rfl) (by kernel_rfl) (by kernel_rfl) (fun _ _ _ h => h) ?hy_f1 hHeld ?ha_f1
      case hy_f1 => refine Or.inl ⟨by rfl, ?_⟩; intro w hSw; obtain ⟨hh0, hh1, hh2, hh3, hh4, hh5⟩ := hSw; go_simp <;> with_reducible rfl
      try simp only [List.getElem_toArray, List.getElem_cons_succ, List.getElem_cons_zero, Act.put, List.setIfInBounds_toArray, List.set_cons_zero, List.set_cons_succ]
      refine wpAnyH_take (i := 2) (v := ?va_f2) rfl (by kernel_rfl) (by kernel_rfl) (by kernel_rfl) (fun _ _ _ h => h) ?hy_f2 hHeld ?ha_f2
      case hy_f2 => refine Or.inl ⟨by rfl, ?_⟩; intro w hSw; obtain ⟨hh0, hh1, hh2, hh3, hh4, hh5⟩ := hSw; go_simp <;> with_reducible rfl
      try simp only [List.getElem_toArray, List.getElem_cons_succ, List.getElem_cons_zero, Act.put, List.setIfInBounds_toArray, List.set_cons_zero, List.set_cons_succ]
      refine wpAnyH_take (i := 3) (v := ?va_f3) rfl (by kernel_rfl) (by kernel_rfl) (by kernel_rfl) (fun _ _ _ h => h) ?hy_f3 hHeld ?ha_f3
      case hy_f3 => refine Or.inl ⟨by rfl, ?_⟩; intro w hSw; obtain ⟨hh0, hh1, hh2, hh3, hh4, hh5⟩ := hSw; go_simp <;> with_reducible rfl
      try simp only [List.getElem_toArray, List.getElem_cons_succ, List.getElem_cons_zero, Act.put, List.setIfInBounds_toArray, List.set_cons_zero, List.set_cons_succ]
      refine wpAnyH_take (i := 4) (v := ?va_f4) rfl (by kernel_rfl) (by kernel_rfl) (by kernel_rfl) (fun _ _ _ h => h) ?hy_f4 hHeld ?ha_f4
      case hy_f4 => refine Or.inl ⟨by rfl, ?_⟩; intro w hSw; obtain ⟨hh0, hh1, hh2, hh3, hh4, hh5⟩ := hSw; go_simp <;> with_reducible rfl
      try simp only [List.getElem_toArray, List.getElem_cons_succ, List.getElem_cons_zero, Act.put, List.setIfInBounds_toArray, List.set_cons_zero, List.set_cons_succ]
      refine wpAnyH_take (i := 5) (v := ?va_f5) rfl (by kernel_rfl) (by kernel_rfl) (by kernel_rfl) (fun _ _ _ h => h) ?hy_f5 hHeld ?ha_f5
      case hy_f5 => refine Or.inl ⟨by rfl, ?_⟩; intro w hSw; obtain ⟨hh0, hh1, hh2, hh3, hh4, hh5⟩ := hSw; go_simp <;> with_reducible rfl
      try simp only [List.getElem_toArray, List.getElem_cons_succ, List.getElem_cons_zero, Act.put, List.setIfInBounds_toArray, List.set_cons_zero, List.set_cons_succ]
      refine wpAnyH_take (i := 6) (v := ?va_f6) rfl (by kernel_rfl) (by kernel_rfl) (by kernel_rfl) (fun _ _ _ h => h) ?hy_f6 hHeld ?ha_f6
      case hy_f6 => refine Or.inl ⟨by rfl, ?_⟩; intro w hSw; obtain ⟨hh0, hh1, hh2, hh3, hh4, hh5⟩ := hSw; go_simp <;> with_reducible rfl
      try simp only [List.getElem_toArray, List.getElem_cons_succ, List.getElem_cons_zero, Act.put, List.setIfInBounds_toArray, List.set_cons_zero, List.set_cons_succ]
      refine wpAnyH_take (i := 7) (v := ?va_f7) rfl (by kernel_rfl) (by kernel_rfl) (by kernel_rfl) (fun _ _ _ h => h) ?hy_f7 hHeld ?ha_f7
      case hy_f7 => refine Or.inl ⟨by rfl, ?_⟩; intro w hSw; obtain ⟨hh0, hh1, hh2, hh3, hh4, hh5⟩ := hSw; go_simp <;> with_reducible rfl
      try simp only [List.getElem_toArray, List.getElem_cons_succ, List.getElem_cons_zero, Act.put, List.setIfInBounds_toArray, List.set_cons_zero, List.set_cons_succ]
      refine wpAnyH_take (i := 8) (v := ?va_f8) rfl (by kernel_rfl) (by kernel_rfl) (by kernel_rfl) (fun _ _ _ h => h) ?hy_f8 hHeld ?ha_f8
      case hy_f8 => refine Or.inl ⟨by rfl, ?_⟩; intro w hSw; obtain ⟨hh0, hh1, hh2, hh3, hh4, hh5⟩ := hSw; go_simp <;> with_reducible rfl
      try simp only [List.getElem_toArray, List.getElem_cons_succ, List.getElem_cons_zero, Act.put, List.setIfInBounds_toArray, List.set_cons_zero, List.set_cons_succ]
      refine wpAnyH_take (i := 9) (v := ?va_f9) rfl (by kernel_rfl) (by kernel_rfl) (by kernel_rfl) (fun _ _ _ h => h) ?hy_f9 hHeld ?ha_f9
      case hy_f9 => refine Or.inl ⟨by rfl, ?_⟩; intro w hSw; obtain ⟨hh0, hh1, hh2, hh3, hh4, hh5⟩ := hSw; go_simp <;> with_reducible rfl
      try simp only [List.getElem_toArray, List.getElem_cons_succ, List.getElem_cons_zero, Act.put, List.setIfInBounds_toArray, List.set_cons_zero, List.set_cons_succ]
      refine wpAnyH_take (i := 10) (v := ?va_f10) rfl (by kernel_rfl) (by kernel_rfl) (by kernel_rfl) (fun _ _ _ h => h) ?hy_f10 hHeld ?ha_f10
      case hy_f10 => refine Or.inl ⟨by rfl, ?_⟩; intro w hSw; obtain ⟨hh0, hh1, hh2, hh3, hh4, hh5⟩ := hSw; go_simp <;> with_reducible rfl
      try simp only [List.getElem_toArray, List.getElem_cons_succ, List.getElem_cons_zero, Act.put, List.setIfInBounds_toArray, List.set_cons_zero, List.set_cons_succ]
      refine wpAnyH_take (i := 11) (v := ?va_f11) rfl (by kernel_rfl) (by kernel_rfl) (by kernel_rfl) (fun _ _ _ h => h) ?hy_f11 hHeld ?ha_f11
      case hy_f11 => refine Or.inl ⟨by rfl, ?_⟩; intro w hSw; obtain ⟨hh0, hh1, hh2, hh3, hh4, hh5⟩ := hSw; go_simp <;> with_reducible rfl
      try simp only [List.getElem_toArray, List.getElem_cons_succ, List.getElem_cons_zero, Act.put, List.setIfInBounds_toArray, List.set_cons_zero, List.set_cons_succ]
      refine wpAnyH_take (i := 12) (v := ?va_f12) rfl (by kernel_rfl) (by kernel_rfl) (by kernel_rfl) (fun _ _ _ h => h) ?hy_f12 hHeld ?ha_f12
      case hy_f12 => refine Or.inl ⟨by rfl, ?_⟩; intro w hSw; obtain ⟨hh0, hh1, hh2, hh3, hh4, hh5⟩ := hSw; go_simp <;> with_reducible rfl
      try simp only [List.getElem_toArray, List.getElem_cons_succ, List.getElem_cons_zero, Act.put, List.setIfInBounds_toArray, List.set_cons_zero, List.set_cons_succ]
      refine wpAnyH_take (i := 13) (v := ?va_f13) rfl (by kernel_rfl) (by kernel_rfl) (by kernel_rfl) (fun _ _ _ h => h) ?hy_f13 hHeld ?ha_f13
      case hy_f13 => refine Or.inl ⟨by rfl, ?_⟩; intro w hSw; obtain ⟨hh0, hh1, hh2, hh3, hh4, hh5⟩ := hSw; go_simp <;> with_reducible rfl
      try simp only [List.getElem_toArray, List.getElem_cons_succ, List.getElem_cons_zero, Act.put, List.setIfInBounds_toArray, List.set_cons_zero, List.set_cons_succ]
      refine wpAnyH_take (i := 14) (v := ?va_f14) rfl (by kernel_rfl) (by kernel_rfl) (by kernel_rfl) (fun _ _ _ h => h) ?hy_f14 hHeld ?ha_f14
      case hy_f14 => refine Or.inl ⟨by rfl, ?_⟩; intro w hSw; obtain ⟨hh0, hh1, hh2, hh3, hh4, hh5⟩ := hSw; go_simp <;> with_reducible rfl
      try simp only [List.getElem_toArray, List.getElem_cons_succ, List.getElem_cons_zero, Act.put, List.setIfInBounds_toArray, List.set_cons_zero, List.set_cons_succ]
      refine wpAnyH_take (i := 15) (v := ?va_f15) rfl (by kernel_rfl) (by kernel_rfl) (by kernel_rfl) (fun _ _ _ h => h) ?hy_f15 hHeld ?ha_f15
      case hy_f15 => refine Or.inl ⟨by rfl, ?_⟩; intro w hSw; obtain ⟨hh0, hh1, hh2, hh3, hh4, hh5⟩ := hSw; go_simp <;> with_reducible rfl
      try simp only [List.getElem_toArray, List.getElem_cons_succ, List.getElem_cons_zero, Act.put, List.setIfInBounds_toArray, List.set_cons_zero, List.set_cons_succ]
      refine wpAnyH_take (i := 16) (v := ?va_f16) rfl (by kernel_rfl) (by kernel_rfl) (by kernel_rfl) (fun _ _ _ h => h) ?hy_f16 hHeld ?ha_f16
      case hy_f16 => refine Or.inl ⟨by rfl, ?_⟩; intro w hSw; obtain ⟨hh0, hh1, hh2, hh3, hh4, hh5⟩ := hSw; go_simp <;> with_reducible rfl
      try simp only [List.getElem_toArray, List.getElem_cons_succ, List.getElem_cons_zero, Act.put, List.setIfInBounds_toArray, List.set_cons_zero, List.set_cons_succ]
      refine wpAnyH_take (i := 17) (v := ?va_f17) rfl (by kernel_rfl) (by kernel_rfl) (by kernel_rfl) (fun _ _ _ h => h) ?hy_f17 hHeld ?ha_f17
      case hy_f17 => refine Or.inl ⟨by rfl, ?_⟩; intro w hSw; obtain ⟨hh0, hh1, hh2, hh3, hh4, hh5⟩ := hSw; go_simp <;> with_reducible rfl
      try simp only [List.getElem_toArray, List.getElem_cons_succ, List.getElem_cons_zero, Act.put, List.setIfInBounds_toArray, List.set_cons_zero, List.set_cons_succ]
      refine wpAnyH_take (i := 18) (v := ?va_f18) rfl (by kernel_rfl) (by kernel_rfl) (by kernel_rfl) (fun _ _ _ h => h) ?hy_f18 hHeld ?ha_f18
      case hy_f18 => refine Or.inl ⟨by rfl, ?_⟩; intro w hSw; obtain ⟨hh0, hh1, hh2, hh3, hh4, hh5⟩ := hSw; go_simp <;> with_reducible rfl
      try simp only [List.getElem_toArray, List.getElem_cons_succ, List.getElem_cons_zero, Act.put, List.setIfInBounds_toArray, List.set_cons_zero, List.set_cons_succ]
      refine wpAnyH_take (i := 19) (v := ?va_f19) rfl (by kernel_rfl) (by kernel_rfl) (by kernel_rfl) (fun _ _ _ h => h) ?hy_f19 hHeld ?ha_f19
      case hy_f19 => refine Or.inl ⟨by rfl, ?_⟩; intro w hSw; obtain ⟨hh0, hh1, hh2, hh3, hh4, hh5⟩ := hSw; go_simp <;> with_reducible rfl
      try simp only [List.getElem_toArray, List.getElem_cons_succ, List.getElem_cons_zero, Act.put, List.setIfInBounds_toArray, List.set_cons_zero, List.set_cons_succ]
      refine wpAnyH_take (i := 20) (v := ?va_f20) rfl (by kernel_rfl) (by kernel_rfl) (by kernel_rfl) (fun _ _ _ h => h) ?hy_f20 hHeld ?ha_f20
      case hy_f20 => refine Or.inl ⟨by rfl, ?_⟩; intro w hSw; obtain ⟨hh0, hh1, hh2, hh3, hh4, hh5⟩ := hSw; go_simp <;> with_reducible rfl
      try simp only [List.getElem_toArray, List.getElem_cons_succ, List.getElem_cons_zero, Act.put, List.setIfInBounds_toArray, List.set_cons_zero, List.set_cons_succ]
      refine wpAnyH_ready (rs := [21]) (by kernel_rfl) (by simp) ?_
      refine AllReadyH.cons rfl (fun K hK => ?_) AllReadyH.nil
      go_simp
      refine (dropX t X.drew lo d.s d.i (HAX.out.below (below_drew (Below.refl _ _))) HGX.out (by omega) HDW.out).mono ?_
      rintro e' X2 ⟨⟨c2, rfl⟩, t2, h2, hE2, hl2⟩
      obtain ⟨f1, f2, f3, f4⟩ := HDR.out X2 _ hE2.chg HFT.out
      refine hK.out _ _ ⟨by rw [cell_blkX f2.gb]; rfl, by rw [cell_blkX f2.ws]; rfl, by rw [cell_blkX f1]; rfl, f3, f4, trivial⟩ (fun hHeld => ?_)
      clear hK K
      try simp only [List.getElem_toArray, List.getElem_cons_succ, List.getElem_cons_zero, Act.put, List.setIfInBounds_toArray, List.set_cons_zero, List.set_cons_succ]
      refine wpAnyH_done (by kernel_rfl) ?_ _
      have HA2 : Hid (t2.At X2 lo) := h2
      have HE2 : Hid (TxE X.drew X2 t t2) := hE2
      have HL2 : Hid (t2.hs.length ≤ t.hs.length + 1) := hl2
      have HS2 : Hid (SX w.heap.size z2 z4 z5 lo k (.slice (some ⟨wg, 0, none⟩) m wc) P X2) := f2
      have ca2 : X2.cell? ⟨z5 + 1, 0, none⟩ = some (.int .i64 (q : Int)) := by rw [cell_blkX f1]; rfl
      have cg2 : X2.cell? ⟨z2, 0, none⟩ = some (ndV lo) := by rw [cell_blkX f2.gb]; rfl
      have HF2 : Hid (∀ x, t2.F x → (lo ≤ x ∧ x < z2) ∨ z5 + 1 < x) := fun x hx => (hE2.new x hx).elim (HFT.out x) (fun e => .inr (by
        have e1 := lt_of_blk HST1.out.at'
        have e2 := HBV.out.size
        have e3 := Chg.size HIX.out.cb
        have e4 : X.drew.heap.size = X.heap.size := rfl
        omega))
      have HG2 : Hid (Ground X2) := by
        have g0 := HGX.out.lt
        refine HGX.out.chg hE2.chg (fun e => ?_) (fun e => ?_)
        · have g9 := HG.out.lt
          rcases HFT.out _ e with g | g
          · have := HLO.out.1; omega
          · have := HZW.out.1; omega
        · have g9 := HG.out.lt
          rcases HFT.out _ e with g | g
          · have := HLO.out.1; omega
          · have := HZW.out.1; omega
      clear hHeld h2 hE2 hl2 f1 f2 f3 f4 ca cw cg d1 d2 hw1 hw2 hw3 hw4 hw5
      gi_wp2_with fail
      refine ⟨trivial, ?_⟩
      refine (calls_roundX (addX t2 X2 lo 2000000000 (1 + (q : Int)) ⟨#[47, 48]⟩ 3 0 HA2.out HG2.out (by have := HL2.out; omega) (by rfl))).mono ?_
      rintro e' X3 ⟨⟨c3, rfl⟩, t3, h3, hE3, hl3⟩
      obtain ⟨f1, f2, f3, f4, f5⟩ := stop_finX (B0 := W0.heap.size) HST1.out HBV.out HIX.out HWI.out.2.2 (below_drew (Below.refl _ _)) HA2.out HE2.out HL2.out h3 hE3 hl3 hqm HFZ.out hB0 HZW.out.1
      have HS3 : Hid (SX w.heap.size z2 z4 z5 lo k (.slice (some ⟨wg, 0, none⟩) m wc) P X3) := HS2.out.kp LIE.out (Kp.of_chg hE3.chg) (fun x hx => (HF2.out x hx).imp id (fun e => by omega))
      have HF2' : Hid (StX w m z5 lo t0 W0 (q + 1) t3 (X3.setCell ⟨z5 + 1, 0, none⟩ (.int .i64 ((q : Int) + 1)))) := f2
      have HF3 : Hid (Kp (OMX t z5) W (X3.setCell ⟨z5 + 1, 0, none⟩ (.int .i64 ((q : Int) + 1)))) := f3
      have HF4 : Hid (KeepsBk W0.heap.size W (X3.setCell ⟨z5 + 1, 0, none⟩ (.int .i64 ((q : Int) + 1)))) := f4
      have HF5 : Hid (∀ x, OMX t3 z5 x → OMX t z5 x ∨ W.heap.size ≤ x) := f5
      have ca3 : X3.cell? ⟨z5 + 1, 0, none⟩ = some (.int .i64 (q : Int)) := by rw [cell_blkX f1]; rfl
      have fa3 := free_blkX f1
      have ck4 : (X3.setCell ⟨z5 + 1, 0, none⟩ (.int .i64 ((q : Int) + 1))).cell? ⟨w.heap.size, 0, none⟩ = some (.int .i64 k) := by
        rw [cell_blkX (other_blk HS3.out.kb (by have t0 := LIE.out.a; have t1 := LIE.out.b; have t2 := LIE.out.c; have t3 := LIE.out.d; omega))]
        rfl
      clear h3 hE3 hl3 cg2 ca2 f1 f2 f3 f4 f5
      have e1 : ((q + 1 : Nat) : Int) = (q : Int) + 1 := by omega
      by_cases hk : (q : Int) + 1 = k
      · have hkd : decide ((q : Int) + 1 = k) = true := by simpa using hk
        have hkb : (((q : Int) + 1) == k) = true := by simpa using hk
        have HKQ : Hid ((q : Int) + 1 = k) := hk
        clear hk
        gi_wp2_with fail
        exact ⟨HF4.out, rfl, q + 1, t3, by rw [e1]; exact HKQ.out, by omega, HF2'.out⟩
      · gi_wp2_with fail
        exact ⟨HF4.out, (q + 1, X3.setCell ⟨z5 + 1, 0, none⟩ (.int .i64 ((q : Int) + 1)), OMX t3 z5), ⟨rfl, by rw [HMM.out]; exact (HKU.out.mono (fun _ h => h.elim)).trans HF3.out, fun x hx => by
          rw [HMM.out]
          exact (HF5.out x hx).imp id (fun e => Nat.le_trans HKU.out.size e)⟩, Kp.refl _ _, t3, rfl, by have := HNO.out; rw [e1]; omega, HF2'.out⟩
  case done =>
    rintro D W hD ⟨hno, t, hst⟩ hK
    have sb := HSJ.out _ _ W hst
    have hm64 : m ≤ 64 := by omega
    have ck : W.cell? ⟨w.heap.size, 0, none⟩ = some (.int .i64 k) := by rw [cell_blkX sb.kb]; rfl
    have cw : W.cell? ⟨z4, 0, none⟩ = some (.slice wa m wc) := by rw [cell_blkX sb.ws]; rfl
    have ca : W.cell? ⟨z5 + 1, 0, none⟩ = some (.int .i64 (m : Int)) := by rw [cell_blkX hst.at']; rfl
    have cr : W.cell? ⟨w.heap.size + 1, 0, none⟩ = some (.bool false) := by rw [cell_blkX sb.rb]; rfl
    have fr := free_blkX sb.rb
    have HRB : Hid (W.heap[w.heap.size + 1]? = some (.cells #[.bool false] 4 (0, 0))) := sb.rb
    have HKY : Hid (W.heap[D]? = some (.deferred (some []))) := hK
    have HFIN : Hid (Below w.heap.size w W) := hst.bel
    have HD1 : Hid (D ≠ w.heap.size + 1) := by have t1 := lt_of_blk HSX.out.rb; show D ≠ _; omega
    clear hst sb hK heq
    by_cases i1 : 1 ≤ k
    · have i2 : ¬ k ≤ (m : Int) := by omega
      have i3 : ¬ k < 1 := by omega
      gi_wp2_with fail
      have hKD : (W.setCell ⟨w.heap.size + 1, 0, none⟩ (.bool true)).heap[D]? = some (.deferred (some [])) := other_blk HKY.out HD1.out
      refine ⟨by simp, .inl ⟨_, _, rfl, run_takeDeferred hKD, ?_⟩⟩
      have hbw : Below w.heap.size w ((W.setCell ⟨w.heap.size + 1, 0, none⟩ (.bool true)).putObj D (.deferred none)) := by
        have t1 : Below w.heap.size w (W.setCell ⟨w.heap.size + 1, 0, none⟩ (.bool true)) := HFIN.out.setCell (by show w.heap.size ≤ w.heap.size + 1; omega) _
        exact t1.grown (grownBy_putObj' _ D (.deferred none)) t1.size (fun j hj => by cases hj; omega)
      refine ⟨_, results_box1X rfl _ _ (w.heap.size + 1) true rfl ?_, rfl, hbw⟩
      have h9 : ((W.setCell ⟨w.heap.size + 1, 0, none⟩ (.bool true)).putObj D (.deferred none)).heap[w.heap.size + 1]? = some (.cells #[.bool true] 4 (0, 0)) := by
        rw [World.putObj_heap_other (Ne.symm HD1.out)]
        exact same_blk HRB.out rfl
      rw [cell_blkX h9]
      rfl
    · have i3 : k < 1 := by omega
      gi_wp2_with fail
      have hKD : (W.setCell ⟨w.heap.size + 1, 0, none⟩ (.bool true)).heap[D]? = some (.deferred (some [])) := other_blk HKY.out HD1.out
      refine ⟨by simp, .inl ⟨_, _, rfl, run_takeDeferred hKD, ?_⟩⟩
      have hbw : Below w.heap.size w ((W.setCell ⟨w.heap.size + 1, 0, none⟩ (.bool true)).putObj D (.deferred none)) := by
        have t1 : Below w.heap.size w (W.setCell ⟨w.heap.size + 1, 0, none⟩ (.bool true)) := HFIN.out.setCell (by show w.heap.size ≤ w.heap.size + 1; omega) _
        exact t1.grown (grownBy_putObj' _ D (.deferred none)) t1.size (fun j hj => by cases hj; omega)
      refine ⟨_, results_box1X rfl _ _ (w.heap.size + 1) true rfl ?_, rfl, hbw⟩
      have h9 : ((W.setCell ⟨w.heap.size + 1, 0, none⟩ (.bool true)).putObj D (.deferred none)).heap[w.heap.size + 1]? = some (.cells #[.bool true] 4 (0, 0)) := by
        rw [World.putObj_heap_other (Ne.symm HD1.out)]
        exact same_blk HRB.out rfl
      rw [cell_blkX h9]
      rfl
  case stop =>
    rintro D c W hD ⟨rfl, q, t, hqk, hq1, hst⟩ hK
    subst hqk
    have sb := HSJ.out _ _ W hst
    have hqm : q ≤ m := hst.le
    have hm64 : m ≤ 64 := by omega
    have ck : W.cell? ⟨w.heap.size, 0, none⟩ = some (.int .i64 (q : Int)) := by rw [cell_blkX sb.kb]; rfl
    have cw : W.cell? ⟨z4, 0, none⟩ = some (.slice wa m wc) := by rw [cell_blkX sb.ws]; rfl
    have ca : W.cell? ⟨z5 + 1, 0, none⟩ = some (.int .i64 (q : Int)) := by rw [cell_blkX hst.at']; rfl
    have cr : W.cell? ⟨w.heap.size + 1, 0, none⟩ = some (.bool false) := by rw [cell_blkX sb.rb]; rfl
    have fr := free_blkX sb.rb
    have HRB : Hid (W.heap[w.heap.size + 1]? = some (.cells #[.bool false] 4 (0, 0))) := sb.rb
    have HKY : Hid (W.heap[D]? = some (.deferred (some []))) := hK
    have HFIN : Hid (Below w.heap.size w W) := hst.bel
    have HD1 : Hid (D ≠ w.heap.size + 1) := by have t1 := lt_of_blk HSX.out.rb; show D ≠ _; omega
    clear hst sb hK heq
    have i1 : (1 : Int) ≤ (q : Int) := by omega
    have i2 : (q : Int) ≤ (m : Int) := by omega
    have i3 : ¬ (q : Int) < 1 := by omega
    have i4 : ¬ (m : Int) < (q : Int) := by omega
    gi_wp2_with fail
    have hKD : (W.setCell ⟨w.heap.size + 1, 0, none⟩ (.bool true)).heap[D]? = some (.deferred (some [])) := other_blk HKY.out HD1.out
    refine ⟨by simp, .inl ⟨_, _, rfl, run_takeDeferred hKD, ?_⟩⟩
    have hbw : Below w.heap.size w ((W.setCell ⟨w.heap.size + 1, 0, none⟩ (.bool true)).putObj D (.deferred none)) := by
      have t1 : Below w.heap.size w (W.setCell ⟨w.heap.size + 1, 0, none⟩ (.bool true)) := HFIN.out.setCell (by show w.heap.size ≤ w.heap.size + 1; omega) _
      exact t1.grown (grownBy_putObj' _ D (.deferred none)) t1.size (fun j hj => by cases hj; omega)
    refine ⟨_, results_box1X rfl _ _ (w.heap.size + 1) true rfl ?_, rfl, hbw⟩
    have h9 : ((W.setCell ⟨w.heap.size + 1, 0, none⟩ (.bool true)).putObj D (.deferred none)).heap[w.heap.size + 1]? = some (.cells #[.bool true] 4 (0, 0)) := by
      rw [World.putObj_heap_other (Ne.symm HD1.out)]
      exact same_blk HRB.out rfl
    rw [cell_blkX h9]
    rfl
end Go.Proofs.YtbblckcjedjbcaaGreatDoor
