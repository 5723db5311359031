/-
  RingMayStop: the walk.
-/
import Derived.Test.YtonppfnjeomcoaaRStop2
namespace Go.Proofs.Ytonppfnjeomcoaa
open Go.RowKit Go.Shelf Classical
set_option linter.unusedVariables false
set_option linter.unusedSimpArgs false
attribute [local go_sem] Oper.semAt_some
theorem store_func (P : Program) (w : World) (a : Addr) (f : Fn) (x y : Array Value) (m : Mode) : (store a (.func f x y) m).run P w = stored P w a (.func f x y) m := run_store P w a _ m rfl
attribute [local go_sem] store_func

set_option maxRecDepth 100000 in
set_option maxHeartbeats 6400000 in
theorem stop_in (room n : Nat) (k : Int) (w : World) (h1 : 1 ≤ room) (h2 : room ≤ 64) (hn : n ≤ 150) :
    Calls Try.prog 3 #[.int .i64 room, .int .i64 n, .int .i64 k] w fun e w' => e = .returned (.bool true) ∧ Below w.heap.size w w' := by
  have HB : Hid (∀ w', _) := fun w' => begins_any w'
  have HFI : Hid (∀ w', _) := fun w' => filled_any room n w' h1 h2 (by omega)
  have heq := eql_func_nil
  have d1 : decide ((room : Int) < 1) = false := by simp; omega
  have d2 : decide (64 < (room : Int)) = false := by simp; omega
  have d3 : decide ((n : Int) < 0) = false := by simp
  have d4 : decide (150 < (n : Int)) = false := by simp; omega
  refine (callsIn_wide (n := 6)).1 ?_
  refine callsIn_of_wp_marks Try.func3 rfl trivial ?_ rfl
  simp only [Try.ntmps3, List.size_toArray, List.length_cons, List.length_nil, Nat.reduceAdd, Nat.reduceSub, Array.replicate_succ, Array.replicate_zero, List.push_toArray, List.append_toArray, List.nil_append, List.cons_append]
  gi_wp2_with fail
  obtain ⟨w0, hw0⟩ : ∃ w0, (w.alloc (.cells #[.int .i64 k] 3)).alloc (.cells #[.bool false] 4) = w0 := ⟨_, rfl⟩
  have HB0 : Hid (Below w.heap.size w w0) := by rw [← hw0]; exact ((Below.refl _ w).alloc (Nat.le_refl _) _).alloc (by simp) _
  have HX0 : Hid (w0.heap[w.heap.size]? = some (.cells #[.int .i64 k] 3 (0, 0)) ∧ w0.heap[w.heap.size + 1]? = some (.cells #[.bool false] 4 (0, 0))) := by
    rw [← hw0]
    exact ⟨new_old (heap_alloc_new _ _) _, heap_new' (by simp)⟩
  have HZ0 : Hid (w0.heap.size = w.heap.size + 2) := by show _ = _; rw [← hw0]; simp
  rw [hw0]
  clear hw0
  refine ⟨trivial, ?_⟩
  refine (callsIn_wide.2 (HB.out _)).mono ?_
  rintro e w1 ⟨rfl, hb1⟩
  have HB1 : Hid (Below w0.heap.size w0 w1) := hb1
  clear hb1 HB
  gi_wp2_with fail
  refine ⟨trivial, ?_⟩
  refine (callsIn_wide.2 (HFI.out _)).mono ?_
  rintro e w2 ⟨b, rfl, hlo, hr2, hb2⟩
  have HB2 : Hid (Below w0.heap.size w0 w2) := trans2 HB1.out hb2
  have HR2 : Hid (RingAt w2 b (fR room n)) := hr2
  have HLO : Hid (w1.heap.size ≤ b) := hlo
  have HBL : Hid (b < w2.heap.size) := hr2.lt
  clear hb2 hr2 hlo HFI
  gi_wp2_with fail
  clear d1 d2 d3 d4
  have hb3 : Below w2.heap.size w2 (w2.alloc (.cells #[.pointer (some ⟨b, 0, none⟩)] 23)) := (Below.refl _ _).alloc (Nat.le_refl _) _
  have HX3 : Hid ((w2.alloc (.cells #[.pointer (some ⟨b, 0, none⟩)] 23)).heap[w2.heap.size]? = some (.cells #[.pointer (some ⟨b, 0, none⟩)] 23 (0, 0))) := heap_alloc_new _ _
  have HR3 : Hid (RingAt (w2.alloc (.cells #[.pointer (some ⟨b, 0, none⟩)] 23)) b (fR room n)) := HR2.out.below hb3
  have HB3 : Hid (Below w0.heap.size w0 (w2.alloc (.cells #[.pointer (some ⟨b, 0, none⟩)] 23))) := trans2 HB2.out hb3
  have HS3 : Hid (w2.heap.size < (w2.alloc (.cells #[.pointer (some ⟨b, 0, none⟩)] 23)).heap.size) := by show _ < _; rw [World.size_alloc]; omega
  clear hb3
  generalize (w2.alloc (.cells #[.pointer (some ⟨b, 0, none⟩)] 23)) = w3 at HX3 HR3 HB3 HS3 ⊢
  refine ⟨trivial, ?_⟩
  refine (callsIn_wide.2 (all_any (some ⟨b, 0, none⟩) (fR room n) w3 (.inr ⟨b, rfl, HR3.out⟩))).mono ?_
  rintro e w4 ⟨v, P, rfl, hP, hE, hb4⟩
  obtain ⟨wa, wc, rfl, -, -⟩ := owns_form hE.row
  have hPl : P.length = min n room := by rw [← fR_len room n, ← hP, List.length_map]
  obtain ⟨m, hm⟩ : ∃ m, P.length = m := ⟨_, rfl⟩
  rw [hm] at hPl hE ⊢
  have HM : Hid (P.length = m ∧ m = min n room) := ⟨hm, hPl⟩
  have HP : Hid (P.map (·.e) = (fR room n).l) := hP
  have c4 : w4.cell? ⟨w2.heap.size, 0, none⟩ = some (.pointer (some ⟨b, 0, none⟩)) := by rw [cell_blk (kept_block hb4 HX3.out)]; rfl
  have hn2 : w2.heap.size < w4.heap.size := Nat.lt_of_lt_of_le HS3.out hb4.size
  have HX4 : Hid (w4.heap[w2.heap.size]? = some (.cells #[.pointer (some ⟨b, 0, none⟩)] 23 (0, 0))) := kept_block hb4 HX3.out
  have HR4 : Hid (RingAt w4 b (fR room n)) := HR3.out.below hb4
  have HB4 : Hid (Below w0.heap.size w0 w4) := trans2 HB3.out hb4
  have HE4 : Hid (EntsAt w4 (.slice wa m wc) P) := hE
  clear hE hb4 hm hPl hP HX3 HR3 HB3 HR2 HB2
  gi_wp2_with (
    refine ⟨trivial, ?_⟩
    gi_at_call 12
    refine (callsIn_wide.2 (all_func _ _)).mono ?_
    rintro e w5 ⟨rfl, hw5⟩
    have hb5 : Below w4.heap.size w4 w5 := by rw [hw5]; exact ((Below.refl _ _).alloc (Nat.le_refl _) _).alloc (by simp) _
    have HX5 : Hid (w5.heap[w4.heap.size]? = some (.cells #[.slice wa m wc] 25 (0, 0)) ∧ w5.heap[w4.heap.size + 1]? = some (.cells #[.pointer (some ⟨b, 0, none⟩)] 23 (0, 0))) := by
      rw [hw5]
      exact ⟨new_old (heap_alloc_new _ _) _, heap_new' (by simp)⟩
    have HB5 : Hid (Below w4.heap.size w4 w5) := hb5
    clear hb5 hw5 c4)
  obtain ⟨W0, hW0⟩ : ∃ W0, (w5.alloc (.cells #[.func (.func 27) #[] #[.pointer (some ⟨w4.heap.size + 1, 0, none⟩)]] 29)).alloc (.cells #[.int .i64 0] 3) = W0 := ⟨_, rfl⟩
  have hb0 : Below w5.heap.size w5 W0 := by rw [← hW0]; exact ((Below.refl _ _).alloc (Nat.le_refl _) _).alloc (by simp) _
  have hb40 : Below w4.heap.size w4 W0 := trans2 HB5.out hb0
  have LIE : Hid (Lie w.heap.size w2.heap.size w4.heap.size w5.heap.size b) := by
    have g1 := HZ0.out
    have g2 := HB1.out.size
    have g3 := HLO.out
    exact ⟨by omega, HBL.out, hn2, lt_of_blk HX5.out.2⟩
  have HSB : Hid (SB w.heap.size w2.heap.size w4.heap.size w5.heap.size b k (.slice wa m wc) P W0) := by
    refine ⟨kept_block hb40 (kept_block HB4.out HX0.out.1), kept_block hb40 (kept_block HB4.out HX0.out.2), kept_block hb40 HX4.out, kept_block hb0 HX5.out.1, kept_block hb0 HX5.out.2, ?_, HE4.out.kp (Kp.of_below hb40 NoB) (fun _ _ _ _ _ s => s.elim)⟩
    rw [← hW0]
    exact new_old (heap_alloc_new _ _) _
  have hat0 : W0.heap[w5.heap.size + 1]? = some (.cells #[.int .i64 ((0 : Nat) : Int)] 3 (0, 0)) := by
    rw [← hW0]
    exact heap_new' (by simp)
  have HST : Hid (StJ w room n m w5.heap.size b k W0 0 W0) := ⟨Kp.refl _ _, hat0, ⟨fR room n, StG.start room n h1 (by omega), fun _ => rfl, HR4.out.below hb40⟩, Nat.zero_le _, trans2 HB0.out (trans2 HB4.out hb40)⟩
  have HRG : Hid (∃ cs, W0.heap[b]? = some (.cells cs 61 (0, 0))) := by obtain ⟨cs, h, _⟩ := (HR4.out.below hb40).box; exact ⟨cs, h⟩
  have HAT : Hid (∃ cs, W0.heap[w5.heap.size + 1]? = some (.cells cs 3 (0, 0))) := ⟨_, hat0⟩
  have hB0 : w.heap.size ≤ W0.heap.size := HST.out.bel.size
  have hZ5 : w5.heap.size + 1 < W0.heap.size := lt_of_blk hat0
  rw [hW0]
  clear hW0 hb0 hb40 hat0 HX0 HX4 HX5 HE4 HR4 HB4 HB5 HB0 HB1 HLO HZ0 HBL hn2 HS3
  have HLEN : Hid ((fR room n).l.length = m) := by show _ = _; rw [fR_len, HM.out.2]
  generalize hz2 : w2.heap.size = z2 at LIE HSB ⊢
  generalize hz4 : w4.heap.size = z4 at LIE HSB ⊢
  generalize hz5 : w5.heap.size = z5 at LIE HSB HST HAT hZ5 ⊢
  clear hz2 hz4 hz5
  have HSM0 : Hid (∀ e ∈ (fR room n).l, e.Small) := by obtain ⟨R, _, g2, g3⟩ := HST.out.ring; rw [← g2 rfl]; exact g3.ok.small
  have HSBJ : Hid (∀ q W, StJ w room n m z5 b k W0 q W → SB w.heap.size z2 z4 z5 b k (.slice wa m wc) P W) := fun q W h => h.sb HSB.out LIE.out HRG.out HAT.out
  refine wpIn_range_sa (σ := AllS) (α := Value × World) rfl (by decide) (gf := 27) (lb := #[.pointer (some ⟨z4 + 1, 0, none⟩)]) rfl trivial (enters_of Try.func27 (by kernel_rfl) rfl)
    (encs := fun x => #[x.1]) (fun _ => rfl)
    (I := AllI (OJ w room n m z5 b k W0)) (Y := AllY (fR room n) (OJ w room n m z5 b k W0)) (N := AllN) (X := OX w room n m z5 b k W0) (E := OE w room n m z5 b k W0) (s0 := (0, W0, OM z5 b))
    (all_seq _ (some ⟨b, 0, none⟩) (fR room n) (z4 + 1) _ (OM z5 b) _ _ _ W0 ?ej ?byy) ?oI ?oY ?oX ?oE ?st
    (A := OA (fR room n) W0 (OJ w room n m z5 b k W0) ?G) ?oA ?assign ?body ?done ?stop
  case ej => exact fun M W ⟨_, h2, h3⟩ => by rw [HLEN.out] at h2 h3; exact ⟨h2, h3⟩
  case byy =>
    refine ⟨fun W ⟨_, _, h⟩ => (by rw [cell_blk (HSBJ.out _ _ h).al]; rfl), fun W ⟨_, _, h⟩ => ?_, fun W ⟨_, _, h⟩ x hx => ?_, fun q M W W' ⟨g1, g2, h⟩ hb => ⟨g1, g2, h.below hb⟩⟩
    · obtain ⟨R, _, g2, g3⟩ := h.ring
      rw [← g2 rfl]
      exact .inr ⟨b, rfl, g3⟩
    · obtain ⟨R, _, _, g3⟩ := h.ring
      obtain ⟨cs0, g4, _⟩ := g3.box
      rcases hx with rfl | rfl
      · exact ⟨g3.lt, fun cs t fr he => by rw [g4] at he; cases he; decide⟩
      · exact ⟨lt_of_blk h.at', fun cs t fr he => by rw [h.at'] at he; cases he; decide⟩
  case oI => exact fun s A C row hs hg hr => ⟨hs.1.grown hg hr, hs.2.1, hs.2.2.1, hs.2.2.2.grown hB0 hg hr⟩
  case oY =>
    intro s x _ A C row hs hg hr
    obtain ⟨g1, ⟨g2, g3, g4⟩, e, v, h3, h4, h5⟩ := hs
    exact ⟨g1.grown hg hr, ⟨g2, g3, g4.grown hB0 hg hr⟩, e, v, h3, h4, owns_kp h5 ((Kp.refl NoB _).grown hg hr) (fun _ _ h => h)⟩
  case oX =>
    intro c A C row hs hg hr
    obtain ⟨g1, q, g2, g3, g4⟩ := hs
    exact ⟨g1, q, g2, g3, g4.grown hB0 hg hr⟩
  case oE => exact fun _ A C row hs hg hr => ⟨hs.1, hs.2.grown hB0 hg hr⟩
  case st => exact ⟨Kp.refl _ _, rfl, by omega, HST.out⟩
  case oA =>
    intro s x a' _ A C row hs hg hr
    obtain ⟨ge, e, va, vc, g1, g2, g3, g4, g5, g6, ⟨g7, g8, g9⟩, g10⟩ := hs
    have hk : Kp NoB A C := (Kp.refl NoB _).grown hg hr
    exact ⟨ge, e, va, vc, g1, g2, owns_kp g3 hk (fun _ _ h => h), hk.cells _ _ _ _ g4 (fun h => h), g5, g6.grown hg hr, ⟨g7, g8, g9.grown hB0 hg hr⟩, g10⟩
  case assign =>
    rintro l s ⟨x1, U⟩ W K ⟨g1, ⟨g2, g3, g4⟩, e, v, g5, g6, g7⟩ hK
    simp only at g1 g2 g3 g4 g5 g6 g7
    subst g6
    obtain ⟨va, vc, rfl, -, -⟩ := owns_form g7
    have HK : Hid (∀ a' W', _ → KeepsFrom W0.heap.size W W' → K a' W') := hK
    have H1 : Hid (Kp NoB U W) := g1
    have H2 : Hid (OJ w room n m z5 b k W0 s.1 s.2.2 W) := ⟨g2, g3, g4⟩
    have H3 : Hid ((fR room n).l[s.1]? = some e) := g5
    have H5 : Hid (OwnOps W (.slice va e.ops.length vc) e.ops) := g7
    have HSZ : Hid (W0.heap.size ≤ W.heap.size) := g4.kp.size
    clear hK g1 g2 g3 g4 g5 g7
    gi_wp2
    have hbW : Below W.heap.size W (W.alloc (.cells #[.int .i64 e.s, .int .i64 e.v, .int .i64 e.k, .int .i64 e.se, .int .i64 e.rq, .slice va e.ops.length vc] 33)) := (Below.refl _ _).alloc (Nat.le_refl _) _
    have hblk := heap_alloc_new W (.cells #[.int .i64 e.s, .int .i64 e.v, .int .i64 e.k, .int .i64 e.se, .int .i64 e.rq, .slice va e.ops.length vc] 33)
    have hsz := HSZ.out
    generalize hge : W.heap.size = ge at hblk hsz ⊢
    refine HK.out _ _ ⟨ge, e, va, vc, H3.out, rfl, owns_below H5.out hbW, hblk, hsz, H1.out.trans (Kp.of_below hbW _), ⟨H2.out.1, H2.out.2.1, H2.out.2.2.below hbW⟩, ?_⟩ (keeps_below hbW _)
    rfl
  case body =>
    rintro l ⟨q, V, M⟩ ⟨x1, U⟩ a' W hlB ⟨r, hr⟩ ⟨ge, e, va, vc, g1, g2, g3, g4, g5, g6, ⟨g7, g8, g9⟩, rfl⟩
    simp only at g1 g2 g6 g7 g8 g9
    subst g2
    have hq : q < m := by rw [← HLEN.out]; exact (List.getElem?_eq_some_iff.1 g1).1
    have sb := HSBJ.out q W g9
    have hsm : ∀ p ∈ P, p.e.ops.length ≤ maxLen := fun p hp => by
      have h3 : p.e ∈ (fR room n).l := by rw [← HP.out]; exact List.mem_map_of_mem (f := (·.e)) hp
      obtain ⟨i, hi⟩ := List.getElem?_of_mem h3
      have h4 := (HSM0.out p.e h3).len
      unfold maxLen
      omega
    obtain ⟨wa', wc', hwv, hes⟩ := ents_form sb.en hsm
    simp only [Value.slice.injEq] at hwv
    obtain ⟨rfl, -, -⟩ := hwv
    obtain ⟨p, hp⟩ : ∃ p, P[q]? = some p := ⟨P[q]'(by rw [HM.out.1]; exact hq), List.getElem?_eq_getElem _⟩
    have hpe : p.e = e := by
      have h3 : (fR room n).l[q]? = some p.e := by rw [← HP.out, List.getElem?_map, hp]; rfl
      rw [h3] at g1
      exact Option.some.inj g1
    obtain ⟨wg, wo, rfl, hwg, y0, y1, y2, y3, y4, y5⟩ := hes.at hp
    have HRP : Hid (Rd W p) := hes.rd p (List.mem_of_getElem? hp)
    obtain ⟨x0, x1, x2, x3, x4, x5⟩ := cells_6 g4
    have ca : W.cell? ⟨z5 + 1, 0, none⟩ = some (.int .i64 (q : Int)) := by rw [cell_blk g9.at']; rfl
    have cw : W.cell? ⟨z4, 0, none⟩ = some (.slice (some ⟨wg, wo, none⟩) m wc) := by rw [cell_blk sb.ws]; rfl
    have hdq : decide ((m : Int) ≤ (q : Int)) = false := by simp; omega
    have hdn : decide (m ≤ q) = false := by simp; omega
    have hqm : q < m := hq
    have hq64 : q < 64 := by have := HM.out.2; omega
    have HSAME : Hid (∀ w', Below W.heap.size W w' → _) := fun w' hb => same_any ⟨e, .slice va e.ops.length vc⟩ p w' ⟨⟨va, vc, rfl, (os_of_own g3).below hb⟩, (by have := (HSM0.out e (List.mem_of_getElem? g1)).len; show e.ops.length ≤ maxLen; unfold maxLen; omega)⟩ (HRP.out.below hb)
    rw [show decide (e = p.e) = true from decide_eq_true hpe.symm] at HSAME
    have HG4 : Hid (W.heap[ge]? = _) := g4
    have HST1 : Hid (StJ w room n m z5 b k W0 q W) := g9
    have HNO : Hid (¬ (1 ≤ k ∧ k ≤ (q : Int))) := g8
    have HKU : Hid (Kp NoB U W) := g6
    have HMM : Hid (M = OM z5 b) := g7
    have HGE : Hid (W0.heap.size ≤ ge) := g5
    have HSB1 : Hid _ := sb
    clear g1 g3 g4 g5 g6 g7 g8 g9 sb hes hp hpe hsm hq
    gi_wp2_with fail
    refine region_round (S := (fun w' => w'.cell? ⟨z5 + 1, 0, none⟩ = some (.int .i64 (q : Int)) ∧ w'.cell? ⟨z4, 0, none⟩ = some (.slice (some ⟨wg, wo, none⟩) m wc) ∧ w'.cell? ⟨ge, 0, none⟩ = some (.int .i64 e.s) ∧ w'.cell? ⟨ge, 1, none⟩ = some (.int .i64 e.v) ∧ w'.cell? ⟨ge, 2, none⟩ = some (.int .i64 e.k) ∧ w'.cell? ⟨ge, 3, none⟩ = some (.int .i64 e.se) ∧ w'.cell? ⟨ge, 4, none⟩ = some (.int .i64 e.rq) ∧ w'.cell? ⟨ge, 5, none⟩ = some (.slice va e.ops.length vc) ∧ w'.cell? ⟨wg, wo + q * 6, none⟩ = some (.int .i64 p.e.s) ∧ w'.cell? ⟨wg, wo + q * 6 + 1, none⟩ = some (.int .i64 p.e.v) ∧ w'.cell? ⟨wg, wo + q * 6 + 2, none⟩ = some (.int .i64 p.e.k) ∧ w'.cell? ⟨wg, wo + q * 6 + 3, none⟩ = some (.int .i64 p.e.se) ∧ w'.cell? ⟨wg, wo + q * 6 + 4, none⟩ = some (.int .i64 p.e.rq) ∧ w'.cell? ⟨wg, wo + q * 6 + 5, none⟩ = some (p.x))) (by kernel_rfl) (by kernel_rfl) (by rintro ⟨a, w, h⟩; exact h) ⟨ca, cw, x0, x1, x2, x3, x4, x5, y0, y1, y2, y3, y4, y5⟩ (fun hHeld => ?_)
    refine wpAnyH_take (i := 0) (v := ?va_a0) rfl (by kernel_rfl) (by kernel_rfl) (by kernel_rfl) (fun _ _ _ h => h) ?hy_a0 hHeld ?ha_a0
    case hy_a0 => refine Or.inl ⟨by rfl, ?_⟩; intro w hSw; obtain ⟨hh0, hh1, hh2, hh3, hh4, hh5, hh6, hh7, hh8, hh9, hh10, hh11, hh12, hh13⟩ := hSw; go_simp <;> with_reducible rfl
    try simp only [List.getElem_toArray, List.getElem_cons_succ, List.getElem_cons_zero, Act.put, List.setIfInBounds_toArray, List.set_cons_zero, List.set_cons_succ]
    refine wpAnyH_take (i := 1) (v := ?va_a1) rfl (by kernel_rfl) (by kernel_rfl) (by kernel_rfl) (fun _ _ _ h => h) ?hy_a1 hHeld ?ha_a1
    case hy_a1 => refine Or.inl ⟨by rfl, ?_⟩; intro w hSw; obtain ⟨hh0, hh1, hh2, hh3, hh4, hh5, hh6, hh7, hh8, hh9, hh10, hh11, hh12, hh13⟩ := hSw; go_simp <;> with_reducible rfl
    try simp only [List.getElem_toArray, List.getElem_cons_succ, List.getElem_cons_zero, Act.put, List.setIfInBounds_toArray, List.set_cons_zero, List.set_cons_succ]
    refine wpAnyH_take (i := 2) (v := ?va_a2) rfl (by kernel_rfl) (by kernel_rfl) (by kernel_rfl) (fun _ _ _ h => h) ?hy_a2 hHeld ?ha_a2
    case hy_a2 => refine Or.inl ⟨by rfl, ?_⟩; intro w hSw; obtain ⟨hh0, hh1, hh2, hh3, hh4, hh5, hh6, hh7, hh8, hh9, hh10, hh11, hh12, hh13⟩ := hSw; go_simp <;> with_reducible rfl
    try simp only [List.getElem_toArray, List.getElem_cons_succ, List.getElem_cons_zero, Act.put, List.setIfInBounds_toArray, List.set_cons_zero, List.set_cons_succ]
    refine wpAnyH_take (i := 3) (v := ?va_a3) rfl (by kernel_rfl) (by kernel_rfl) (by kernel_rfl) (fun _ _ _ h => h) ?hy_a3 hHeld ?ha_a3
    case hy_a3 => refine Or.inl ⟨by rfl, ?_⟩; intro w hSw; obtain ⟨hh0, hh1, hh2, hh3, hh4, hh5, hh6, hh7, hh8, hh9, hh10, hh11, hh12, hh13⟩ := hSw; go_simp <;> with_reducible rfl
    try simp only [List.getElem_toArray, List.getElem_cons_succ, List.getElem_cons_zero, Act.put, List.setIfInBounds_toArray, List.set_cons_zero, List.set_cons_succ]
    refine wpAnyH_take (i := 4) (v := ?va_a4) rfl (by kernel_rfl) (by kernel_rfl) (by kernel_rfl) (fun _ _ _ h => h) ?hy_a4 hHeld ?ha_a4
    case hy_a4 => refine Or.inl ⟨by rfl, ?_⟩; intro w hSw; obtain ⟨hh0, hh1, hh2, hh3, hh4, hh5, hh6, hh7, hh8, hh9, hh10, hh11, hh12, hh13⟩ := hSw; go_simp <;> with_reducible rfl
    try simp only [List.getElem_toArray, List.getElem_cons_succ, List.getElem_cons_zero, Act.put, List.setIfInBounds_toArray, List.set_cons_zero, List.set_cons_succ]
    refine wpAnyH_take (i := 5) (v := ?va_a5) rfl (by kernel_rfl) (by kernel_rfl) (by kernel_rfl) (fun _ _ _ h => h) ?hy_a5 hHeld ?ha_a5
    case hy_a5 => refine Or.inl ⟨by rfl, ?_⟩; intro w hSw; obtain ⟨hh0, hh1, hh2, hh3, hh4, hh5, hh6, hh7, hh8, hh9, hh10, hh11, hh12, hh13⟩ := hSw; go_simp <;> with_reducible rfl
    try simp only [List.getElem_toArray, List.getElem_cons_succ, List.getElem_cons_zero, Act.put, List.setIfInBounds_toArray, List.set_cons_zero, List.set_cons_succ]
    refine wpAnyH_take (i := 6) (v := ?va_a6) rfl (by kernel_rfl) (by kernel_rfl) (by kernel_rfl) (fun _ _ _ h => h) ?hy_a6 hHeld ?ha_a6
    case hy_a6 => refine Or.inl ⟨by rfl, ?_⟩; intro w hSw; obtain ⟨hh0, hh1, hh2, hh3, hh4, hh5, hh6, hh7, hh8, hh9, hh10, hh11, hh12, hh13⟩ := hSw; go_simp <;> with_reducible rfl
    try simp only [List.getElem_toArray, List.getElem_cons_succ, List.getElem_cons_zero, Act.put, List.setIfInBounds_toArray, List.set_cons_zero, List.set_cons_succ]
    refine wpAnyH_take (i := 7) (v := ?va_a7) rfl (by kernel_rfl) (by kernel_rfl) (by kernel_rfl) (fun _ _ _ h => h) ?hy_a7 hHeld ?ha_a7
    case hy_a7 => refine Or.inl ⟨by rfl, ?_⟩; intro w hSw; obtain ⟨hh0, hh1, hh2, hh3, hh4, hh5, hh6, hh7, hh8, hh9, hh10, hh11, hh12, hh13⟩ := hSw; go_simp <;> with_reducible rfl
    try simp only [List.getElem_toArray, List.getElem_cons_succ, List.getElem_cons_zero, Act.put, List.setIfInBounds_toArray, List.set_cons_zero, List.set_cons_succ]
    refine wpAnyH_take (i := 8) (v := ?va_a8) rfl (by kernel_rfl) (by kernel_rfl) (by kernel_rfl) (fun _ _ _ h => h) ?hy_a8 hHeld ?ha_a8
    case hy_a8 => refine Or.inl ⟨by rfl, ?_⟩; intro w hSw; obtain ⟨hh0, hh1, hh2, hh3, hh4, hh5, hh6, hh7, hh8, hh9, hh10, hh11, hh12, hh13⟩ := hSw; go_simp <;> with_reducible rfl
    try simp only [List.getElem_toArray, List.getElem_cons_succ, List.getElem_cons_zero, Act.put, List.setIfInBounds_toArray, List.set_cons_zero, List.set_cons_succ]
    refine wpAnyH_take (i := 9) (v := ?va_a9) rfl (by kernel_rfl) (by kernel_rfl) (by kernel_rfl) (fun _ _ _ h => h) ?hy_a9 hHeld ?ha_a9
    case hy_a9 => refine Or.inl ⟨by rfl, ?_⟩; intro w hSw; obtain ⟨hh0, hh1, hh2, hh3, hh4, hh5, hh6, hh7, hh8, hh9, hh10, hh11, hh12, hh13⟩ := hSw; go_simp <;> with_reducible rfl
    try simp only [List.getElem_toArray, List.getElem_cons_succ, List.getElem_cons_zero, Act.put, List.setIfInBounds_toArray, List.set_cons_zero, List.set_cons_succ]
    refine wpAnyH_ready (rs := [10]) (by kernel_rfl) (by simp) ?_
    refine AllReadyH.cons rfl (fun K hK => ?_) AllReadyH.nil
    go_simp
    refine (HSAME.out _ (below_drew (Below.refl _ _))).mono ?_
    rintro e' W1 ⟨rfl, hb1'⟩
    have hb1 : Below W.heap.size W W1 := trans2 (below_drew (Below.refl _ _)) hb1'
    have hc1 : ∀ a v, W.cell? a = some v → W1.cell? a = some v := fun a v h => (hb1.cell (World.block_lt_of_cell? _ _ h)).trans h
    refine hK.out _ _ ⟨hc1 _ _ ca, hc1 _ _ cw, hc1 _ _ x0, hc1 _ _ x1, hc1 _ _ x2, hc1 _ _ x3, hc1 _ _ x4, hc1 _ _ x5, hc1 _ _ y0, hc1 _ _ y1, hc1 _ _ y2, hc1 _ _ y3, hc1 _ _ y4, hc1 _ _ y5⟩ (fun hHeld => ?_)
    clear hK K
    try simp only [List.getElem_toArray, List.getElem_cons_succ, List.getElem_cons_zero, Act.put, List.setIfInBounds_toArray, List.set_cons_zero, List.set_cons_succ]
    refine wpAnyH_take (i := 11) (v := ?va_b11) rfl (by kernel_rfl) (by kernel_rfl) (by kernel_rfl) (fun _ _ _ h => h) ?hy_b11 hHeld ?ha_b11
    case hy_b11 => refine Or.inl ⟨by rfl, ?_⟩; intro w hSw; obtain ⟨hh0, hh1, hh2, hh3, hh4, hh5, hh6, hh7, hh8, hh9, hh10, hh11, hh12, hh13⟩ := hSw; go_simp <;> with_reducible rfl
    try simp only [List.getElem_toArray, List.getElem_cons_succ, List.getElem_cons_zero, Act.put, List.setIfInBounds_toArray, List.set_cons_zero, List.set_cons_succ]
    refine wpAnyH_take (i := 12) (v := ?va_b12) rfl (by kernel_rfl) (by kernel_rfl) (by kernel_rfl) (fun _ _ _ h => h) ?hy_b12 hHeld ?ha_b12
    case hy_b12 => refine Or.inl ⟨by rfl, ?_⟩; intro w hSw; obtain ⟨hh0, hh1, hh2, hh3, hh4, hh5, hh6, hh7, hh8, hh9, hh10, hh11, hh12, hh13⟩ := hSw; go_simp <;> with_reducible rfl
    try simp only [List.getElem_toArray, List.getElem_cons_succ, List.getElem_cons_zero, Act.put, List.setIfInBounds_toArray, List.set_cons_zero, List.set_cons_succ]
    refine wpAnyH_done (by kernel_rfl) ?_ _
    have HBW1 : Hid (Below W.heap.size W W1) := hb1
    have cg1 : W1.cell? ⟨z2, 0, none⟩ = some (.pointer (some ⟨b, 0, none⟩)) := hc1 _ _ (by rw [cell_blk HSB1.out.gb]; rfl)
    clear hHeld hb1 hb1' hc1 ca cw x0 x1 x2 x3 x4 x5 y0 y1 y2 y3 y4 y5 HSAME HRP hdq hdn hwg
    have cg2 : (W1.alloc (.cells #[.int .i64 0] 3)).cell? ⟨z2, 0, none⟩ = some (.pointer (some ⟨b, 0, none⟩)) := (((Below.refl _ _).alloc (Nat.le_refl _) _).cell (World.block_lt_of_cell? _ _ cg1)).trans cg1
    gi_wp2_with fail
    obtain ⟨R, hG, -, hRA⟩ := HST1.out.ring
    have HG : Hid (StG room n q R) := hG
    obtain ⟨W2, hW2⟩ : ∃ W2, W1.alloc (.cells #[.int .i64 0] 3) = W2 := ⟨_, rfl⟩
    have hb2 : Below W1.heap.size W1 W2 := by rw [← hW2]; exact (Below.refl _ _).alloc (Nat.le_refl _) _
    have HB2 : Hid (Below W.heap.size W W2) := trans2 HBW1.out hb2
    have HI2 : Hid (W2.heap[W1.heap.size]? = some (.cells #[.int .i64 ((0 : Nat) : Int)] 3 (0, 0))) := by show _ = _; rw [← hW2]; exact heap_alloc_new _ _
    have HRA : Hid (RingAt W2 b R) := hRA.below HB2.out
    have HSM1 : Hid (∀ e ∈ R.l, e.Small) := hRA.ok.small
    have HIN : Hid (W.heap.size ≤ W1.heap.size) := HBW1.out.size
    rw [hW2]
    generalize hinn : W1.heap.size = inn at HI2 HIN ⊢
    clear hW2 hb2 hG hRA cg1 cg2 HBW1
    refine ⟨trivial, ?_⟩
    refine (calls_round (all_any (some ⟨b, 0, none⟩) R W2 (.inr ⟨b, rfl, HRA.out⟩))).mono ?_
    rintro e' W3 ⟨nv, P2, rfl, hP2, hE2, hb3⟩
    obtain ⟨na, nc, rfl, -, -⟩ := owns_form hE2.row
    obtain ⟨m2, hm2⟩ : ∃ m2, P2.length = m2 := ⟨_, rfl⟩
    rw [hm2] at hE2 ⊢
    have HM2 : Hid (P2.length = m2 ∧ m2 = R.l.length) := ⟨hm2, by rw [← hm2, ← hP2, List.length_map]⟩
    have HP2 : Hid (P2.map (·.e) = R.l) := hP2
    have HE2 : Hid (EntsAt W3 (.slice na m2 nc) P2) := hE2
    have HB3 : Hid (Below W.heap.size W W3) := trans2 HB2.out hb3
    have HI3 : Hid (W3.heap[inn]? = some (.cells #[.int .i64 ((0 : Nat) : Int)] 3 (0, 0))) := kept_block hb3 HI2.out
    have HR3 : Hid (RingAt W3 b R) := HRA.out.below hb3
    have hq3 : W3.heap[z5]? = _ := kept_block HB3.out HSB1.out.sq
    have cq3 : W3.cell? ⟨z5, 0, none⟩ = some (.func (.func 27) #[] #[.pointer (some ⟨z4 + 1, 0, none⟩)]) := by rw [cell_blk hq3]; rfl
    have cq4 : ((W3.alloc (.cells #[.slice na m2 nc] 25)).alloc (.cells #[.bool true] 4)).cell? ⟨z5, 0, none⟩ = some (.func (.func 27) #[] #[.pointer (some ⟨z4 + 1, 0, none⟩)]) := ((((Below.refl _ _).alloc (Nat.le_refl _) _).alloc (by simp) _).cell (World.block_lt_of_cell? _ _ cq3)).trans cq3
    clear hE2 hP2 hb3 hm2 HRA HI2 hq3 cq3
    gi_wp2_with fail
    obtain ⟨V1, hV1⟩ : ∃ V1, (W3.alloc (.cells #[.slice na m2 nc] 25)).alloc (.cells #[.bool true] 4) = V1 := ⟨_, rfl⟩
    have hbv : Below W3.heap.size W3 V1 := by rw [← hV1]; exact ((Below.refl _ _).alloc (Nat.le_refl _) _).alloc (by simp) _
    have HBV : Hid (Below W.heap.size W V1) := trans2 HB3.out hbv
    have HNB : Hid (V1.heap[W3.heap.size]? = some (.cells #[.slice na m2 nc] 25 (0, 0)) ∧ V1.heap[W3.heap.size + 1]? = some (.cells #[.bool true] 4 (0, 0))) := by
      show _ ∧ _
      rw [← hV1]
      exact ⟨new_old (heap_alloc_new _ _) _, heap_new' (by simp)⟩
    have HIV : Hid (V1.heap[inn]? = some (.cells #[.int .i64 ((0 : Nat) : Int)] 3 (0, 0))) := kept_block hbv HI3.out
    have HRV : Hid (RingAt V1 b R) := HR3.out.below hbv
    have HEV : Hid (EntsAt V1 (.slice na m2 nc) P2) := HE2.out.kp (Kp.of_below hbv NoB) (fun _ _ _ _ _ s => s.elim)
    have HSV : Hid (SB w.heap.size z2 z4 z5 b k (.slice (some ⟨wg, wo, none⟩) m wc) P V1) := HSB1.out.kpn (Kp.of_below HBV.out NoB)
    have hinb : inn < W3.heap.size := lt_of_blk HI3.out
    have HLV : Hid (V1.heap[l]? = some (.loop r)) := kept_block HBV.out hr
    have hwV : w.heap.size ≤ V1.heap.size := Nat.le_trans HST1.out.bel.size HBV.out.size
    have HWI : Hid (w.heap.size ≤ inn ∧ z5 + 1 < inn ∧ b < inn) := by
      have t1 := HIN.out
      have t2 := lt_of_blk HST1.out.at'
      have t3 := HST1.out.bel.size
      have t4 := LIE.out.b
      have t5 := LIE.out.c
      have t6 := LIE.out.d
      show _ ∧ _ ∧ _
      omega
    have HTY : Hid (∀ x cs t fr, V1.heap[x]? = some (.cells cs t fr) → IM inn x → t ≠ 33 ∧ t ≠ 44) := by
      intro x cs t fr hx hs
      have hs' : x = inn := hs
      subst hs'
      rw [HIV.out] at hx
      cases hx
      decide
    rw [hV1]
    generalize hnb : W3.heap.size = nb at HNB hinb ⊢
    clear hV1 hbv HI3 HR3 HE2 HB3 HB2 cq4 hnb hinn
    refine wpIn_range_saN (σ := AllS) (α := Value × World) (l₀ := l) (r₀ := r) rfl HLV.out (by decide) (gf := 27) (lb := #[.pointer (some ⟨z4 + 1, 0, none⟩)]) rfl trivial (enters_of Try.func27 (by kernel_rfl) rfl)
      (encs := fun x => #[x.1]) (fun _ => rfl)
      (I := AllI (IJ w W0.heap.size inn V1)) (Y := AllY R (IJ w W0.heap.size inn V1)) (N := AllN) (X := IX w W0.heap.size inn V1) (E := IE w W0.heap.size inn V1) (s0 := (0, V1, IM inn))
      (seq_round l (all_seq _ (some ⟨b, 0, none⟩) R (z4 + 1) _ (IM inn) _ _ _ V1 ?iej ?ibyy)) ?ioI ?ioY ?ioX ?ioE ?ist
      (A := OA R V1 (IJ w W0.heap.size inn V1) ?G2) ?ioA ?iassign ?ibody ?idone ?istop
    case iej => exact fun M X ⟨_, h⟩ => ⟨_, h⟩
    case ibyy =>
      refine ⟨fun X ⟨_, h⟩ => ?_, fun X ⟨_, h⟩ => ?_, fun X ⟨_, h⟩ x hx => ?_, fun j M X X' ⟨g1, h⟩ hb => ⟨g1, h.below hb⟩⟩
      · rw [cell_blk (h.kp.cells _ _ _ _ HSV.out.al (fun e => by have e' : z4 + 1 = inn := e; have t1 := HWI.out.2.1; have t2 := LIE.out.d; omega))]
        rfl
      · exact .inr ⟨b, rfl, HRV.out.kp h.kp (fun e => by have e' : b = inn := e; have := HWI.out.2.2; omega) (fun x cs fr hx hs => (HTY.out x _ _ _ hx hs).2 rfl)⟩
      · have hx' : x = inn := hx
        subst hx'
        exact ⟨lt_of_blk h.inn, fun cs t fr he => by rw [h.inn] at he; cases he; decide⟩
    case ioI => exact fun s A C row hs hg hr => ⟨hs.1.grown hg hr, hs.2.1, hs.2.2.grown hwV (Nat.le_refl _) hg hr⟩
    case ioY =>
      intro s x _ A C row hs hg hr
      obtain ⟨g1, ⟨g2, g4⟩, e, v, h3, h4, h5⟩ := hs
      exact ⟨g1.grown hg hr, ⟨g2, g4.grown hwV (Nat.le_refl _) hg hr⟩, e, v, h3, h4, owns_kp h5 ((Kp.refl NoB _).grown hg hr) (fun _ _ h => h)⟩
    case ioX =>
      intro c A C row hs hg hr
      obtain ⟨g1, j, g4⟩ := hs
      exact ⟨g1, j, g4.grown hwV (Nat.le_refl _) hg hr⟩
    case ioE =>
      intro _ A C row hs hg hr
      obtain ⟨j, g4⟩ := hs
      exact ⟨j, g4.grown hwV (Nat.le_refl _) hg hr⟩
    case ist => exact ⟨Kp.refl _ _, rfl, Kp.refl _ _, HIV.out, trans2 HST1.out.bel HBV.out, KeepsFrom.refl _ _⟩
    case ioA =>
      intro s x a' _ A C row hs hg hr
      obtain ⟨ge, e, va, vc, g1, g2, g3, g4, g5, g6, ⟨g7, g9⟩, g10⟩ := hs
      have hk : Kp NoB A C := (Kp.refl NoB _).grown hg hr
      exact ⟨ge, e, va, vc, g1, g2, owns_kp g3 hk (fun _ _ h => h), hk.cells _ _ _ _ g4 (fun h => h), g5, g6.grown hg hr, ⟨g7, g9.grown hwV (Nat.le_refl _) hg hr⟩, g10⟩
    case iassign =>
      rintro l2 s ⟨x1, U2⟩ X K ⟨g1, ⟨g2, g4⟩, f, v, g5, g6, g7⟩ hK
      simp only at g1 g2 g4 g5 g6 g7
      subst g6
      obtain ⟨fa, fc, rfl, -, -⟩ := owns_form g7
      have HK : Hid (∀ a' W', _ → KeepsFrom V1.heap.size X W' → K a' W') := hK
      have H1 : Hid (Kp NoB U2 X) := g1
      have H2 : Hid (IJ w W0.heap.size inn V1 s.1 s.2.2 X) := ⟨g2, g4⟩
      have H3 : Hid (R.l[s.1]? = some f) := g5
      have H5 : Hid (OwnOps X (.slice fa f.ops.length fc) f.ops) := g7
      have HSZ : Hid (V1.heap.size ≤ X.heap.size) := g4.kp.size
      clear hK g1 g2 g4 g5 g7
      gi_wp2
      have hbW : Below X.heap.size X (X.alloc (.cells #[.int .i64 f.s, .int .i64 f.v, .int .i64 f.k, .int .i64 f.se, .int .i64 f.rq, .slice fa f.ops.length fc] 33)) := (Below.refl _ _).alloc (Nat.le_refl _) _
      have hblk := heap_alloc_new X (.cells #[.int .i64 f.s, .int .i64 f.v, .int .i64 f.k, .int .i64 f.se, .int .i64 f.rq, .slice fa f.ops.length fc] 33)
      have hsz := HSZ.out
      generalize hge : X.heap.size = gf' at hblk hsz ⊢
      refine HK.out _ _ ⟨gf', f, fa, fc, H3.out, rfl, owns_below H5.out hbW, hblk, hsz, H1.out.trans (Kp.of_below hbW _), ⟨H2.out.1, H2.out.2.below hbW⟩, ?_⟩ (keeps_below hbW _)
      rfl
    case ibody =>
      rintro l2 ⟨j, V', M'⟩ ⟨x1, U2⟩ a2 X hl2 ⟨r2, hr2⟩ ⟨gf', f, fa, fc, g1, g2, g3, g4, g5, g6, ⟨g7, g9⟩, rfl⟩
      simp only at g1 g2 g6 g7 g9
      subst g2
      have hj : j < m2 := by rw [HM2.out.2]; exact (List.getElem?_eq_some_iff.1 g1).1
      have hsm : ∀ p ∈ P2, p.e.ops.length ≤ maxLen := fun p hp => by
        have h3 : p.e ∈ R.l := by rw [← HP2.out]; exact List.mem_map_of_mem (f := (·.e)) hp
        have h4 := (HSM1.out p.e h3).len
        unfold maxLen
        omega
      obtain ⟨na', nc', hnv, hes⟩ := ents_form (HEV.out.kp g9.kp HTY.out) hsm
      simp only [Value.slice.injEq] at hnv
      obtain ⟨rfl, -, -⟩ := hnv
      obtain ⟨p2, hp⟩ : ∃ p, P2[j]? = some p := ⟨P2[j]'(by rw [HM2.out.1]; exact hj), List.getElem?_eq_getElem _⟩
      have hpe : p2.e = f := by
        have h3 : R.l[j]? = some p2.e := by rw [← HP2.out, List.getElem?_map, hp]; rfl
        rw [h3] at g1
        exact Option.some.inj g1
      obtain ⟨ng, no, rfl, hng, y0, y1, y2, y3, y4, y5⟩ := hes.at hp
      have HRP2 : Hid (Rd X p2) := hes.rd p2 (List.mem_of_getElem? hp)
      obtain ⟨x0, x1, x2, x3, x4, x5⟩ := cells_6 g4
      have ci : X.cell? ⟨inn, 0, none⟩ = some (.int .i64 (j : Int)) := by rw [cell_blk g9.inn]; rfl
      have cn : X.cell? ⟨nb, 0, none⟩ = some (.slice (some ⟨ng, no, none⟩) m2 nc) := by
        rw [cell_blk (g9.kp.cells _ _ _ _ HNB.out.1 (fun e => by have e' : nb = inn := e; omega))]
        rfl
      have cl : X.cell? ⟨nb + 1, 0, none⟩ = some (.bool true) := by
        rw [cell_blk (g9.kp.cells _ _ _ _ HNB.out.2 (fun e => by have e' : nb + 1 = inn := e; omega))]
        rfl
      have hdj : decide ((m2 : Int) ≤ (j : Int)) = false := by simp; omega
      have hdn : decide (m2 ≤ j) = false := by simp; omega
      have hj64 : j < 64 := by have t1 := HRV.out.ok.fits; have t2 := HRV.out.ok.room; have t3 := HM2.out.2; omega
      have HSAM2 : Hid (∀ w', Below X.heap.size X w' → _) := fun w' hb => same_any ⟨f, .slice fa f.ops.length fc⟩ p2 w' ⟨⟨fa, fc, rfl, (os_of_own g3).below hb⟩, (by have := (HSM1.out f (List.mem_of_getElem? g1)).len; show f.ops.length ≤ maxLen; unfold maxLen; omega)⟩ (HRP2.out.below hb)
      rw [show decide (f = p2.e) = true from decide_eq_true hpe.symm] at HSAM2
      have HI9 : Hid (InJ w W0.heap.size inn V1 j X) := g9
      have HKU2 : Hid (Kp NoB U2 X) := g6
      have HMM2 : Hid (M' = IM inn) := g7
      clear g1 g3 g4 g5 g6 g7 g9 hes hp hpe hsm
      gi_wp2_with fail
      refine region_round (S := (fun w' => w'.cell? ⟨nb + 1, 0, none⟩ = some (.bool true) ∧ w'.cell? ⟨inn, 0, none⟩ = some (.int .i64 (j : Int)) ∧ w'.cell? ⟨nb, 0, none⟩ = some (.slice (some ⟨ng, no, none⟩) m2 nc) ∧ w'.cell? ⟨gf', 0, none⟩ = some (.int .i64 f.s) ∧ w'.cell? ⟨gf', 1, none⟩ = some (.int .i64 f.v) ∧ w'.cell? ⟨gf', 2, none⟩ = some (.int .i64 f.k) ∧ w'.cell? ⟨gf', 3, none⟩ = some (.int .i64 f.se) ∧ w'.cell? ⟨gf', 4, none⟩ = some (.int .i64 f.rq) ∧ w'.cell? ⟨gf', 5, none⟩ = some (.slice fa f.ops.length fc) ∧ w'.cell? ⟨ng, no + j * 6, none⟩ = some (.int .i64 p2.e.s) ∧ w'.cell? ⟨ng, no + j * 6 + 1, none⟩ = some (.int .i64 p2.e.v) ∧ w'.cell? ⟨ng, no + j * 6 + 2, none⟩ = some (.int .i64 p2.e.k) ∧ w'.cell? ⟨ng, no + j * 6 + 3, none⟩ = some (.int .i64 p2.e.se) ∧ w'.cell? ⟨ng, no + j * 6 + 4, none⟩ = some (.int .i64 p2.e.rq) ∧ w'.cell? ⟨ng, no + j * 6 + 5, none⟩ = some (p2.x))) (by kernel_rfl) (by kernel_rfl) (by rintro ⟨a, w, h⟩; exact h) ⟨cl, ci, cn, x0, x1, x2, x3, x4, x5, y0, y1, y2, y3, y4, y5⟩ (fun hHeld => ?_)
      refine wpAnyH_take (i := 0) (v := ?va_c0) rfl (by kernel_rfl) (by kernel_rfl) (by kernel_rfl) (fun _ _ _ h => h) ?hy_c0 hHeld ?ha_c0
      case hy_c0 => refine Or.inl ⟨by rfl, ?_⟩; intro w hSw; obtain ⟨hh0, hh1, hh2, hh3, hh4, hh5, hh6, hh7, hh8, hh9, hh10, hh11, hh12, hh13, hh14⟩ := hSw; go_simp <;> with_reducible rfl
      try simp only [List.getElem_toArray, List.getElem_cons_succ, List.getElem_cons_zero, Act.put, List.setIfInBounds_toArray, List.set_cons_zero, List.set_cons_succ]
      refine wpAnyH_take (i := 1) (v := ?va_c1) rfl (by kernel_rfl) (by kernel_rfl) (by kernel_rfl) (fun _ _ _ h => h) ?hy_c1 hHeld ?ha_c1
      case hy_c1 => refine Or.inl ⟨by rfl, ?_⟩; intro w hSw; obtain ⟨hh0, hh1, hh2, hh3, hh4, hh5, hh6, hh7, hh8, hh9, hh10, hh11, hh12, hh13, hh14⟩ := hSw; go_simp <;> with_reducible rfl
      try simp only [List.getElem_toArray, List.getElem_cons_succ, List.getElem_cons_zero, Act.put, List.setIfInBounds_toArray, List.set_cons_zero, List.set_cons_succ]
      refine wpAnyH_take (i := 2) (v := ?va_c2) rfl (by kernel_rfl) (by kernel_rfl) (by kernel_rfl) (fun _ _ _ h => h) ?hy_c2 hHeld ?ha_c2
      case hy_c2 => refine Or.inl ⟨by rfl, ?_⟩; intro w hSw; obtain ⟨hh0, hh1, hh2, hh3, hh4, hh5, hh6, hh7, hh8, hh9, hh10, hh11, hh12, hh13, hh14⟩ := hSw; go_simp <;> with_reducible rfl
      try simp only [List.getElem_toArray, List.getElem_cons_succ, List.getElem_cons_zero, Act.put, List.setIfInBounds_toArray, List.set_cons_zero, List.set_cons_succ]
      refine wpAnyH_take (i := 3) (v := ?va_c3) rfl (by kernel_rfl) (by kernel_rfl) (by kernel_rfl) (fun _ _ _ h => h) ?hy_c3 hHeld ?ha_c3
      case hy_c3 => refine Or.inl ⟨by rfl, ?_⟩; intro w hSw; obtain ⟨hh0, hh1, hh2, hh3, hh4, hh5, hh6, hh7, hh8, hh9, hh10, hh11, hh12, hh13, hh14⟩ := hSw; go_simp <;> with_reducible rfl
      try simp only [List.getElem_toArray, List.getElem_cons_succ, List.getElem_cons_zero, Act.put, List.setIfInBounds_toArray, List.set_cons_zero, List.set_cons_succ]
      refine wpAnyH_take (i := 4) (v := ?va_c4) rfl (by kernel_rfl) (by kernel_rfl) (by kernel_rfl) (fun _ _ _ h => h) ?hy_c4 hHeld ?ha_c4
      case hy_c4 => refine Or.inl ⟨by rfl, ?_⟩; intro w hSw; obtain ⟨hh0, hh1, hh2, hh3, hh4, hh5, hh6, hh7, hh8, hh9, hh10, hh11, hh12, hh13, hh14⟩ := hSw; go_simp <;> with_reducible rfl
      try simp only [List.getElem_toArray, List.getElem_cons_succ, List.getElem_cons_zero, Act.put, List.setIfInBounds_toArray, List.set_cons_zero, List.set_cons_succ]
      refine wpAnyH_take (i := 5) (v := ?va_c5) rfl (by kernel_rfl) (by kernel_rfl) (by kernel_rfl) (fun _ _ _ h => h) ?hy_c5 hHeld ?ha_c5
      case hy_c5 => refine Or.inl ⟨by rfl, ?_⟩; intro w hSw; obtain ⟨hh0, hh1, hh2, hh3, hh4, hh5, hh6, hh7, hh8, hh9, hh10, hh11, hh12, hh13, hh14⟩ := hSw; go_simp <;> with_reducible rfl
      try simp only [List.getElem_toArray, List.getElem_cons_succ, List.getElem_cons_zero, Act.put, List.setIfInBounds_toArray, List.set_cons_zero, List.set_cons_succ]
      refine wpAnyH_take (i := 6) (v := ?va_c6) rfl (by kernel_rfl) (by kernel_rfl) (by kernel_rfl) (fun _ _ _ h => h) ?hy_c6 hHeld ?ha_c6
      case hy_c6 => refine Or.inl ⟨by rfl, ?_⟩; intro w hSw; obtain ⟨hh0, hh1, hh2, hh3, hh4, hh5, hh6, hh7, hh8, hh9, hh10, hh11, hh12, hh13, hh14⟩ := hSw; go_simp <;> with_reducible rfl
      try simp only [List.getElem_toArray, List.getElem_cons_succ, List.getElem_cons_zero, Act.put, List.setIfInBounds_toArray, List.set_cons_zero, List.set_cons_succ]
      refine wpAnyH_take (i := 7) (v := ?va_c7) rfl (by kernel_rfl) (by kernel_rfl) (by kernel_rfl) (fun _ _ _ h => h) ?hy_c7 hHeld ?ha_c7
      case hy_c7 => refine Or.inl ⟨by rfl, ?_⟩; intro w hSw; obtain ⟨hh0, hh1, hh2, hh3, hh4, hh5, hh6, hh7, hh8, hh9, hh10, hh11, hh12, hh13, hh14⟩ := hSw; go_simp <;> with_reducible rfl
      try simp only [List.getElem_toArray, List.getElem_cons_succ, List.getElem_cons_zero, Act.put, List.setIfInBounds_toArray, List.set_cons_zero, List.set_cons_succ]
      refine wpAnyH_take (i := 8) (v := ?va_c8) rfl (by kernel_rfl) (by kernel_rfl) (by kernel_rfl) (fun _ _ _ h => h) ?hy_c8 hHeld ?ha_c8
      case hy_c8 => refine Or.inl ⟨by rfl, ?_⟩; intro w hSw; obtain ⟨hh0, hh1, hh2, hh3, hh4, hh5, hh6, hh7, hh8, hh9, hh10, hh11, hh12, hh13, hh14⟩ := hSw; go_simp <;> with_reducible rfl
      try simp only [List.getElem_toArray, List.getElem_cons_succ, List.getElem_cons_zero, Act.put, List.setIfInBounds_toArray, List.set_cons_zero, List.set_cons_succ]
      refine wpAnyH_take (i := 9) (v := ?va_c9) rfl (by kernel_rfl) (by kernel_rfl) (by kernel_rfl) (fun _ _ _ h => h) ?hy_c9 hHeld ?ha_c9
      case hy_c9 => refine Or.inl ⟨by rfl, ?_⟩; intro w hSw; obtain ⟨hh0, hh1, hh2, hh3, hh4, hh5, hh6, hh7, hh8, hh9, hh10, hh11, hh12, hh13, hh14⟩ := hSw; go_simp <;> with_reducible rfl
      try simp only [List.getElem_toArray, List.getElem_cons_succ, List.getElem_cons_zero, Act.put, List.setIfInBounds_toArray, List.set_cons_zero, List.set_cons_succ]
      refine wpAnyH_take (i := 10) (v := ?va_c10) rfl (by kernel_rfl) (by kernel_rfl) (by kernel_rfl) (fun _ _ _ h => h) ?hy_c10 hHeld ?ha_c10
      case hy_c10 => refine Or.inl ⟨by rfl, ?_⟩; intro w hSw; obtain ⟨hh0, hh1, hh2, hh3, hh4, hh5, hh6, hh7, hh8, hh9, hh10, hh11, hh12, hh13, hh14⟩ := hSw; go_simp <;> with_reducible rfl
      try simp only [List.getElem_toArray, List.getElem_cons_succ, List.getElem_cons_zero, Act.put, List.setIfInBounds_toArray, List.set_cons_zero, List.set_cons_succ]
      refine wpAnyH_take (i := 11) (v := ?va_c11) rfl (by kernel_rfl) (by kernel_rfl) (by kernel_rfl) (fun _ _ _ h => h) ?hy_c11 hHeld ?ha_c11
      case hy_c11 => refine Or.inl ⟨by rfl, ?_⟩; intro w hSw; obtain ⟨hh0, hh1, hh2, hh3, hh4, hh5, hh6, hh7, hh8, hh9, hh10, hh11, hh12, hh13, hh14⟩ := hSw; go_simp <;> with_reducible rfl
      try simp only [List.getElem_toArray, List.getElem_cons_succ, List.getElem_cons_zero, Act.put, List.setIfInBounds_toArray, List.set_cons_zero, List.set_cons_succ]
      refine wpAnyH_take (i := 12) (v := ?va_c12) rfl (by kernel_rfl) (by kernel_rfl) (by kernel_rfl) (fun _ _ _ h => h) ?hy_c12 hHeld ?ha_c12
      case hy_c12 => refine Or.inl ⟨by rfl, ?_⟩; intro w hSw; obtain ⟨hh0, hh1, hh2, hh3, hh4, hh5, hh6, hh7, hh8, hh9, hh10, hh11, hh12, hh13, hh14⟩ := hSw; go_simp <;> with_reducible rfl
      try simp only [List.getElem_toArray, List.getElem_cons_succ, List.getElem_cons_zero, Act.put, List.setIfInBounds_toArray, List.set_cons_zero, List.set_cons_succ]
      refine wpAnyH_take (i := 13) (v := ?va_c13) rfl (by kernel_rfl) (by kernel_rfl) (by kernel_rfl) (fun _ _ _ h => h) ?hy_c13 hHeld ?ha_c13
      case hy_c13 => refine Or.inl ⟨by rfl, ?_⟩; intro w hSw; obtain ⟨hh0, hh1, hh2, hh3, hh4, hh5, hh6, hh7, hh8, hh9, hh10, hh11, hh12, hh13, hh14⟩ := hSw; go_simp <;> with_reducible rfl
      try simp only [List.getElem_toArray, List.getElem_cons_succ, List.getElem_cons_zero, Act.put, List.setIfInBounds_toArray, List.set_cons_zero, List.set_cons_succ]
      refine wpAnyH_ready (rs := [14]) (by kernel_rfl) (by simp) ?_
      refine AllReadyH.cons rfl (fun K hK => ?_) AllReadyH.nil
      go_simp
      refine (HSAM2.out _ (below_drew (Below.refl _ _))).mono ?_
      rintro e' X1 ⟨rfl, hb1'⟩
      have hb1 : Below X.heap.size X X1 := trans2 (below_drew (Below.refl _ _)) hb1'
      have hc1 : ∀ a v, X.cell? a = some v → X1.cell? a = some v := fun a v h => (hb1.cell (World.block_lt_of_cell? _ _ h)).trans h
      refine hK.out _ _ ⟨hc1 _ _ cl, hc1 _ _ ci, hc1 _ _ cn, hc1 _ _ x0, hc1 _ _ x1, hc1 _ _ x2, hc1 _ _ x3, hc1 _ _ x4, hc1 _ _ x5, hc1 _ _ y0, hc1 _ _ y1, hc1 _ _ y2, hc1 _ _ y3, hc1 _ _ y4, hc1 _ _ y5⟩ (fun hHeld => ?_)
      clear hK K
      try simp only [List.getElem_toArray, List.getElem_cons_succ, List.getElem_cons_zero, Act.put, List.setIfInBounds_toArray, List.set_cons_zero, List.set_cons_succ]
      refine wpAnyH_take (i := 15) (v := ?va_d15) rfl (by kernel_rfl) (by kernel_rfl) (by kernel_rfl) (fun _ _ _ h => h) ?hy_d15 hHeld ?ha_d15
      case hy_d15 => refine Or.inl ⟨by rfl, ?_⟩; intro w hSw; obtain ⟨hh0, hh1, hh2, hh3, hh4, hh5, hh6, hh7, hh8, hh9, hh10, hh11, hh12, hh13, hh14⟩ := hSw; go_simp <;> with_reducible rfl
      try simp only [List.getElem_toArray, List.getElem_cons_succ, List.getElem_cons_zero, Act.put, List.setIfInBounds_toArray, List.set_cons_zero, List.set_cons_succ]
      refine wpAnyH_take (i := 16) (v := ?va_d16) rfl (by kernel_rfl) (by kernel_rfl) (by kernel_rfl) (fun _ _ _ h => h) ?hy_d16 hHeld ?ha_d16
      case hy_d16 => refine Or.inl ⟨by rfl, ?_⟩; intro w hSw; obtain ⟨hh0, hh1, hh2, hh3, hh4, hh5, hh6, hh7, hh8, hh9, hh10, hh11, hh12, hh13, hh14⟩ := hSw; go_simp <;> with_reducible rfl
      try simp only [List.getElem_toArray, List.getElem_cons_succ, List.getElem_cons_zero, Act.put, List.setIfInBounds_toArray, List.set_cons_zero, List.set_cons_succ]
      refine wpAnyH_done (by kernel_rfl) ?_ _
      have HBX1 : Hid (Below X.heap.size X X1) := hb1
      have HI1 : Hid (InJ w W0.heap.size inn V1 j X1) := HI9.out.below hb1
      have ci1 := hc1 _ _ ci
      have fi1 := free_blk HI1.out.inn
      have HI2 : Hid (InJ w W0.heap.size inn V1 (j + 1) (X1.setCell ⟨inn, 0, none⟩ (.int .i64 ((j : Int) + 1)))) := HI1.out.set HWI.out.1
      have HK2 : Hid (KeepsFrom V1.heap.size X (X1.setCell ⟨inn, 0, none⟩ (.int .i64 ((j : Int) + 1)))) := (keeps_below hb1 _).trans ((KeepsOthers.setCell _ _ _).from _)
      have HP2' : Hid (Kp M' U2 (X1.setCell ⟨inn, 0, none⟩ (.int .i64 ((j : Int) + 1)))) := by
        rw [HMM2.out]
        exact (HKU2.out.mono (fun _ h => h.elim)).trans ((Kp.of_below hb1 _).trans (Kp.of_chg (Chg.set _ _ _)))
      clear hHeld hb1 hb1' hc1 ci cn cl x0 x1 x2 x3 x4 x5 y0 y1 y2 y3 y4 y5 HSAM2 HRP2 hdj hdn hng HI1 HI9
      by_cases h3 : 2 < (j : Int) + 1
      · gi_wp2_with fail
        exact ⟨HK2.out, rfl, j + 1, HI2.out⟩
      · gi_wp2_with fail
        exact ⟨HK2.out, (j + 1, X1.setCell ⟨inn, 0, none⟩ (.int .i64 ((j : Int) + 1)), IM inn), ⟨rfl, HP2'.out, fun x hx => .inl (by rw [HMM2.out]; exact hx)⟩, Kp.refl _ _, rfl, HI2.out⟩
    case idone =>
      rintro X ⟨j, hI⟩
      have sbX := HSV.out.kp LIE.out hI.kp (fun x hx => .inr (by have hx' : x = inn := hx; have t1 := HWI.out.2.1; omega)) HTY.out
      have rX : RingAt X b R := HRV.out.kp hI.kp (fun e => by have e' : b = inn := e; have := HWI.out.2.2; omega) (fun x cs fr hx hs => (HTY.out x _ _ _ hx hs).2 rfl)
      have HIX : Hid (InJ w W0.heap.size inn V1 j X) := hI
      have HSX : Hid (SB w.heap.size z2 z4 z5 b k (.slice (some ⟨wg, wo, none⟩) m wc) P X) := sbX
      have cgX : X.cell? ⟨z2, 0, none⟩ = some (.pointer (some ⟨b, 0, none⟩)) := by rw [cell_blk sbX.gb]; rfl
      have HLX : Hid _ := last_any (some ⟨b, 0, none⟩) R X (.inr ⟨b, rfl, rX⟩)
      have HRX : Hid (RingAt X b R) := rX
      obtain ⟨L, hL⟩ : ∃ L : Int, ((R.last : Nat) : Int) = L := ⟨_, rfl⟩
      obtain ⟨T, hT⟩ : ∃ T : Int, R.top = T := ⟨_, rfl⟩
      rw [hL, hT] at HLX
      have HLT : Hid (((R.last : Nat) : Int) = L ∧ R.top = T) := ⟨hL, hT⟩
      have hL1 : 0 ≤ L ∧ L ≤ 1000 := by rw [← hL, HG.out.last]; have := HG.out.small; omega
      clear sbX rX hI hL hT
      gi_wp2_with fail
      refine ⟨trivial, ?_⟩
      refine (calls_round HLX.out).mono ?_
      rintro e' X1 ⟨rfl, hbx⟩
      have HBX : Hid (Below X.heap.size X X1) := hbx
      have cg1 : X1.cell? ⟨z2, 0, none⟩ = some (.pointer (some ⟨b, 0, none⟩)) := (hbx.cell (World.block_lt_of_cell? _ _ cgX)).trans cgX
      have HR1 : Hid (RingAt X1 b R) := HRX.out.below hbx
      have HS1 : Hid (SB w.heap.size z2 z4 z5 b k (.slice (some ⟨wg, wo, none⟩) m wc) P X1) := HSX.out.kpn (Kp.of_below hbx NoB)
      clear hbx cgX HLX
      gi_wp2_with fail
      refine ⟨trivial, ?_⟩
      refine (calls_round (append_nxt HG.out b L T X1 HR1.out HLT.out.1 HLT.out.2)).mono ?_
      rintro e' X2 ⟨rfl, hra2, hch2⟩
      have HR2 : Hid (RingAt X2 b (R.app (nxt R))) := hra2
      have HC2 : Hid (Chg X1 X2 (fun x => x = b)) := hch2
      have HS2 : Hid (SB w.heap.size z2 z4 z5 b k (.slice (some ⟨wg, wo, none⟩) m wc) P X2) := HS1.out.kp LIE.out (Kp.of_chg hch2) (fun x hx => .inl hx) (fun x cs t fr hx hs => by
        have hs' : x = b := hs
        subst hs'
        obtain ⟨c1, k1, _⟩ := HR1.out.box
        rw [k1] at hx
        cases hx
        decide)
      have cg2 : X2.cell? ⟨z2, 0, none⟩ = some (.pointer (some ⟨b, 0, none⟩)) := by rw [cell_blk HS2.out.gb]; rfl
      clear hra2 hch2 cg1
      gi_wp2_with fail
      refine ⟨trivial, ?_⟩
      refine (calls_round (hold_nxt HG.out b L X2 HR2.out HLT.out.1)).mono ?_
      rintro e' X3 ⟨rfl, hra3, hch3⟩
      have HS3 : Hid (SB w.heap.size z2 z4 z5 b k (.slice (some ⟨wg, wo, none⟩) m wc) P X3) := HS2.out.kp LIE.out (Kp.of_chg hch3) (fun x hx => .inl hx) (fun x cs t fr hx hs => by
        have hs' : x = b := hs
        subst hs'
        obtain ⟨c1, k1, _⟩ := HR2.out.box
        rw [k1] at hx
        cases hx
        decide)
      obtain ⟨f1, f2, f3, f4⟩ := stop_fin HST1.out HBV.out HIX.out HIN.out HBX.out HC2.out hch3 HR1.out HR2.out hra3 HG.out hqm (by omega) (by have t1 := LIE.out.b; have t2 := LIE.out.c; have t3 := LIE.out.d; omega) (by have t1 := LIE.out.a; omega)
      have HF2 : Hid (StJ w room n m z5 b k W0 (q + 1) (X3.setCell ⟨z5 + 1, 0, none⟩ (.int .i64 ((q : Int) + 1)))) := f2
      have HF3 : Hid (Kp (OM z5 b) W (X3.setCell ⟨z5 + 1, 0, none⟩ (.int .i64 ((q : Int) + 1)))) := f3
      have HF4 : Hid (KeepsFrom W0.heap.size W (X3.setCell ⟨z5 + 1, 0, none⟩ (.int .i64 ((q : Int) + 1)))) := f4
      have ca3 : X3.cell? ⟨z5 + 1, 0, none⟩ = some (.int .i64 (q : Int)) := by rw [cell_blk f1]; rfl
      have fa3 := free_blk f1
      have ck4 : (X3.setCell ⟨z5 + 1, 0, none⟩ (.int .i64 ((q : Int) + 1))).cell? ⟨w.heap.size, 0, none⟩ = some (.int .i64 k) := by
        rw [cell_blk (other_blk HS3.out.kb (by have t0 := LIE.out.a; have t1 := LIE.out.b; have t2 := LIE.out.c; have t3 := LIE.out.d; omega))]
        rfl
      clear hra3 hch3 cg2 f1 f2 f3 f4 HS1 HS2 HR1 HR2 HC2 HBX HIX HSX HRX
      have e1 : ((q + 1 : Nat) : Int) = (q : Int) + 1 := by omega
      by_cases hk : (q : Int) + 1 = k
      · have hkd : decide ((q : Int) + 1 = k) = true := by simpa using hk
        have hkb : (((q : Int) + 1) == k) = true := by simpa using hk
        have HKQ : Hid ((q : Int) + 1 = k) := hk
        clear hk
        gi_wp2_with fail
        exact ⟨HF4.out, rfl, q + 1, by rw [e1]; exact HKQ.out, by omega, HF2.out⟩
      · gi_wp2_with fail
        exact ⟨HF4.out, (q + 1, X3.setCell ⟨z5 + 1, 0, none⟩ (.int .i64 ((q : Int) + 1)), OM z5 b), ⟨rfl, by rw [HMM.out]; exact (HKU.out.mono (fun _ h => h.elim)).trans HF3.out, fun x hx => .inl (by rw [HMM.out]; exact hx)⟩, Kp.refl _ _, rfl, by have := HNO.out; rw [e1]; omega, HF2.out⟩
    case istop =>
      rintro c X ⟨rfl, j, hI⟩
      have sbX := HSV.out.kp LIE.out hI.kp (fun x hx => .inr (by have hx' : x = inn := hx; have t1 := HWI.out.2.1; omega)) HTY.out
      have rX : RingAt X b R := HRV.out.kp hI.kp (fun e => by have e' : b = inn := e; have := HWI.out.2.2; omega) (fun x cs fr hx hs => (HTY.out x _ _ _ hx hs).2 rfl)
      have HIX : Hid (InJ w W0.heap.size inn V1 j X) := hI
      have HSX : Hid (SB w.heap.size z2 z4 z5 b k (.slice (some ⟨wg, wo, none⟩) m wc) P X) := sbX
      have cgX : X.cell? ⟨z2, 0, none⟩ = some (.pointer (some ⟨b, 0, none⟩)) := by rw [cell_blk sbX.gb]; rfl
      have HLX : Hid _ := last_any (some ⟨b, 0, none⟩) R X (.inr ⟨b, rfl, rX⟩)
      have HRX : Hid (RingAt X b R) := rX
      obtain ⟨L, hL⟩ : ∃ L : Int, ((R.last : Nat) : Int) = L := ⟨_, rfl⟩
      obtain ⟨T, hT⟩ : ∃ T : Int, R.top = T := ⟨_, rfl⟩
      rw [hL, hT] at HLX
      have HLT : Hid (((R.last : Nat) : Int) = L ∧ R.top = T) := ⟨hL, hT⟩
      have hL1 : 0 ≤ L ∧ L ≤ 1000 := by rw [← hL, HG.out.last]; have := HG.out.small; omega
      clear sbX rX hI hL hT
      gi_wp2_with fail
      refine ⟨trivial, ?_⟩
      refine (calls_round HLX.out).mono ?_
      rintro e' X1 ⟨rfl, hbx⟩
      have HBX : Hid (Below X.heap.size X X1) := hbx
      have cg1 : X1.cell? ⟨z2, 0, none⟩ = some (.pointer (some ⟨b, 0, none⟩)) := (hbx.cell (World.block_lt_of_cell? _ _ cgX)).trans cgX
      have HR1 : Hid (RingAt X1 b R) := HRX.out.below hbx
      have HS1 : Hid (SB w.heap.size z2 z4 z5 b k (.slice (some ⟨wg, wo, none⟩) m wc) P X1) := HSX.out.kpn (Kp.of_below hbx NoB)
      clear hbx cgX HLX
      gi_wp2_with fail
      refine ⟨trivial, ?_⟩
      refine (calls_round (append_nxt HG.out b L T X1 HR1.out HLT.out.1 HLT.out.2)).mono ?_
      rintro e' X2 ⟨rfl, hra2, hch2⟩
      have HR2 : Hid (RingAt X2 b (R.app (nxt R))) := hra2
      have HC2 : Hid (Chg X1 X2 (fun x => x = b)) := hch2
      have HS2 : Hid (SB w.heap.size z2 z4 z5 b k (.slice (some ⟨wg, wo, none⟩) m wc) P X2) := HS1.out.kp LIE.out (Kp.of_chg hch2) (fun x hx => .inl hx) (fun x cs t fr hx hs => by
        have hs' : x = b := hs
        subst hs'
        obtain ⟨c1, k1, _⟩ := HR1.out.box
        rw [k1] at hx
        cases hx
        decide)
      have cg2 : X2.cell? ⟨z2, 0, none⟩ = some (.pointer (some ⟨b, 0, none⟩)) := by rw [cell_blk HS2.out.gb]; rfl
      clear hra2 hch2 cg1
      gi_wp2_with fail
      refine ⟨trivial, ?_⟩
      refine (calls_round (hold_nxt HG.out b L X2 HR2.out HLT.out.1)).mono ?_
      rintro e' X3 ⟨rfl, hra3, hch3⟩
      have HS3 : Hid (SB w.heap.size z2 z4 z5 b k (.slice (some ⟨wg, wo, none⟩) m wc) P X3) := HS2.out.kp LIE.out (Kp.of_chg hch3) (fun x hx => .inl hx) (fun x cs t fr hx hs => by
        have hs' : x = b := hs
        subst hs'
        obtain ⟨c1, k1, _⟩ := HR2.out.box
        rw [k1] at hx
        cases hx
        decide)
      obtain ⟨f1, f2, f3, f4⟩ := stop_fin HST1.out HBV.out HIX.out HIN.out HBX.out HC2.out hch3 HR1.out HR2.out hra3 HG.out hqm (by omega) (by have t1 := LIE.out.b; have t2 := LIE.out.c; have t3 := LIE.out.d; omega) (by have t1 := LIE.out.a; omega)
      have HF2 : Hid (StJ w room n m z5 b k W0 (q + 1) (X3.setCell ⟨z5 + 1, 0, none⟩ (.int .i64 ((q : Int) + 1)))) := f2
      have HF3 : Hid (Kp (OM z5 b) W (X3.setCell ⟨z5 + 1, 0, none⟩ (.int .i64 ((q : Int) + 1)))) := f3
      have HF4 : Hid (KeepsFrom W0.heap.size W (X3.setCell ⟨z5 + 1, 0, none⟩ (.int .i64 ((q : Int) + 1)))) := f4
      have ca3 : X3.cell? ⟨z5 + 1, 0, none⟩ = some (.int .i64 (q : Int)) := by rw [cell_blk f1]; rfl
      have fa3 := free_blk f1
      have ck4 : (X3.setCell ⟨z5 + 1, 0, none⟩ (.int .i64 ((q : Int) + 1))).cell? ⟨w.heap.size, 0, none⟩ = some (.int .i64 k) := by
        rw [cell_blk (other_blk HS3.out.kb (by have t0 := LIE.out.a; have t1 := LIE.out.b; have t2 := LIE.out.c; have t3 := LIE.out.d; omega))]
        rfl
      clear hra3 hch3 cg2 f1 f2 f3 f4 HS1 HS2 HR1 HR2 HC2 HBX HIX HSX HRX
      have e1 : ((q + 1 : Nat) : Int) = (q : Int) + 1 := by omega
      by_cases hk : (q : Int) + 1 = k
      · have hkd : decide ((q : Int) + 1 = k) = true := by simpa using hk
        have hkb : (((q : Int) + 1) == k) = true := by simpa using hk
        have HKQ : Hid ((q : Int) + 1 = k) := hk
        clear hk
        gi_wp2_with fail
        exact ⟨HF4.out, rfl, q + 1, by rw [e1]; exact HKQ.out, by omega, HF2.out⟩
      · gi_wp2_with fail
        exact ⟨HF4.out, (q + 1, X3.setCell ⟨z5 + 1, 0, none⟩ (.int .i64 ((q : Int) + 1)), OM z5 b), ⟨rfl, by rw [HMM.out]; exact (HKU.out.mono (fun _ h => h.elim)).trans HF3.out, fun x hx => .inl (by rw [HMM.out]; exact hx)⟩, Kp.refl _ _, rfl, by have := HNO.out; rw [e1]; omega, HF2.out⟩
  case done =>
    rintro D W hD ⟨hno, hst⟩ hK
    have sb := HSBJ.out _ W hst
    obtain ⟨R, hG, -, hR⟩ := hst.ring
    have HG : Hid (StG room n m R) := hG
    have HST1 : Hid _ := hst
    have HSB1 : Hid _ := sb
    have HR1 : Hid (RingAt W b R) := hR
    have hqm : m ≤ m := hst.le
    have hm64 : m ≤ 64 := by have := HM.out.2; omega
    have ck : W.cell? ⟨w.heap.size, 0, none⟩ = some (.int .i64 k) := by rw [cell_blk sb.kb]; rfl
    have cw : W.cell? ⟨z4, 0, none⟩ = some (.slice wa m wc) := by rw [cell_blk sb.ws]; rfl
    have ca : W.cell? ⟨z5 + 1, 0, none⟩ = some (.int .i64 (m : Int)) := by rw [cell_blk hst.at']; rfl
    have cg : W.cell? ⟨z2, 0, none⟩ = some (.pointer (some ⟨b, 0, none⟩)) := by rw [cell_blk sb.gb]; rfl
    clear hst sb hR hG
    by_cases i1 : 1 ≤ k
    · have i2 : ¬ k ≤ (m : Int) := by omega
      have i3 : ¬ k < 1 := by omega
      have i4 : (m : Int) < k := by omega
      gi_wp2_with fail
      refine ⟨trivial, ?_⟩
      refine (callsIn_wide.2 (all_any (some ⟨b, 0, none⟩) R W (.inr ⟨b, rfl, HR1.out⟩))).mono ?_
      rintro e' X ⟨nv, P3, rfl, hP3, hE3, hbx⟩
      obtain ⟨na, nc, rfl, -, -⟩ := owns_form hE3.row
      obtain ⟨m3, hm3⟩ : ∃ m3, P3.length = m3 := ⟨_, rfl⟩
      rw [hm3]
      have HM3 : Hid (m3 = min (n + m) room) := by show m3 = _; rw [← hm3, ← HG.out.len, ← hP3, List.length_map]
      have caX : X.cell? ⟨z5 + 1, 0, none⟩ = some (.int .i64 (m : Int)) := (hbx.cell (World.block_lt_of_cell? _ _ ca)).trans ca
      have cgX : X.cell? ⟨z2, 0, none⟩ = some (.pointer (some ⟨b, 0, none⟩)) := (hbx.cell (World.block_lt_of_cell? _ _ cg)).trans cg
      have HLX : Hid _ := last_any (some ⟨b, 0, none⟩) R X (.inr ⟨b, rfl, HR1.out.below hbx⟩)
      have hlast : ((R.last : Nat) : Int) = (n : Int) + (m : Int) := by rw [HG.out.last]; omega
      rw [hlast] at HLX
      obtain ⟨T, hT⟩ : ∃ T : Int, R.top = T := ⟨_, rfl⟩
      rw [hT] at HLX
      have HBX : Hid (Below W.heap.size W X) := hbx
      clear hP3 hE3 hbx hm3 hlast hT ca cg ck cw
      gi_wp2_with fail
      refine ⟨trivial, ?_⟩
      refine (callsIn_wide.2 HLX.out).mono ?_
      rintro e' Y ⟨rfl, hby⟩
      have HBY : Hid (Below W.heap.size W Y) := trans2 HBX.out hby
      have caY : Y.cell? ⟨z5 + 1, 0, none⟩ = some (.int .i64 (m : Int)) := (hby.cell (World.block_lt_of_cell? _ _ caX)).trans caX
      have HRB : Hid (Y.heap[w.heap.size + 1]? = some (.cells #[.bool false] 4 (0, 0))) := kept_block HBY.out HSB1.out.rb
      have cr : Y.cell? ⟨w.heap.size + 1, 0, none⟩ = some (.bool false) := by rw [cell_blk HRB.out]; rfl
      have fr := free_blk HRB.out
      have HKY : Hid (Y.heap[D]? = some (.deferred (some []))) := kept_block HBY.out hK
      have HFIN : Hid (Below w.heap.size w Y) := trans2 HST1.out.bel HBY.out
      have HD1 : Hid (D ≠ w.heap.size + 1) := by have t1 := lt_of_blk HSB.out.rb; show D ≠ _; omega
      clear hby caX cgX HLX hK
      gi_wp2_with fail
      · have hKD : (Y.setCell ⟨w.heap.size + 1, 0, none⟩ (.bool true)).heap[D]? = some (.deferred (some [])) := other_blk HKY.out HD1.out
        refine ⟨by simp, .inl ⟨_, _, rfl, run_takeDeferred hKD, ?_⟩⟩
        have hbw : Below w.heap.size w ((Y.setCell ⟨w.heap.size + 1, 0, none⟩ (.bool true)).putObj D (.deferred none)) := by
          have t1 : Below w.heap.size w (Y.setCell ⟨w.heap.size + 1, 0, none⟩ (.bool true)) := HFIN.out.setCell (by show w.heap.size ≤ w.heap.size + 1; omega) _
          exact t1.grown (grownBy_putObj' _ D (.deferred none)) t1.size (fun j hj => by cases hj; omega)
        refine ⟨_, results_box1 rfl _ _ (w.heap.size + 1) true rfl ?_, rfl, hbw⟩
        have h9 : ((Y.setCell ⟨w.heap.size + 1, 0, none⟩ (.bool true)).putObj D (.deferred none)).heap[w.heap.size + 1]? = some (.cells #[.bool true] 4 (0, 0)) := by
          rw [World.putObj_heap_other (Ne.symm HD1.out)]
          exact same_blk HRB.out rfl
        rw [cell_blk h9]
        rfl
      · have hbool : ((m3 : Int) == (room : Int) || (m3 : Int) == (n : Int) + (m : Int)) = true := by
          have hm3 := HM3.out
          rcases Nat.lt_or_ge (n + m) room with t | t
          · rw [show ((m3 : Int) == (n : Int) + (m : Int)) = true by simp; omega, Bool.or_true]
          · rw [show ((m3 : Int) == (room : Int)) = true by simp; omega, Bool.true_or]
        rw [hbool]
        have hKD : (Y.setCell ⟨w.heap.size + 1, 0, none⟩ (.bool true)).heap[D]? = some (.deferred (some [])) := other_blk HKY.out HD1.out
        refine ⟨by simp, .inl ⟨_, _, rfl, run_takeDeferred hKD, ?_⟩⟩
        have hbw : Below w.heap.size w ((Y.setCell ⟨w.heap.size + 1, 0, none⟩ (.bool true)).putObj D (.deferred none)) := by
          have t1 : Below w.heap.size w (Y.setCell ⟨w.heap.size + 1, 0, none⟩ (.bool true)) := HFIN.out.setCell (by show w.heap.size ≤ w.heap.size + 1; omega) _
          exact t1.grown (grownBy_putObj' _ D (.deferred none)) t1.size (fun j hj => by cases hj; omega)
        refine ⟨_, results_box1 rfl _ _ (w.heap.size + 1) true rfl ?_, rfl, hbw⟩
        have h9 : ((Y.setCell ⟨w.heap.size + 1, 0, none⟩ (.bool true)).putObj D (.deferred none)).heap[w.heap.size + 1]? = some (.cells #[.bool true] 4 (0, 0)) := by
          rw [World.putObj_heap_other (Ne.symm HD1.out)]
          exact same_blk HRB.out rfl
        rw [cell_blk h9]
        rfl
    · have i3 : k < 1 := by omega
      gi_wp2_with fail
      refine ⟨trivial, ?_⟩
      refine (callsIn_wide.2 (all_any (some ⟨b, 0, none⟩) R W (.inr ⟨b, rfl, HR1.out⟩))).mono ?_
      rintro e' X ⟨nv, P3, rfl, hP3, hE3, hbx⟩
      obtain ⟨na, nc, rfl, -, -⟩ := owns_form hE3.row
      obtain ⟨m3, hm3⟩ : ∃ m3, P3.length = m3 := ⟨_, rfl⟩
      rw [hm3]
      have HM3 : Hid (m3 = min (n + m) room) := by show m3 = _; rw [← hm3, ← HG.out.len, ← hP3, List.length_map]
      have caX : X.cell? ⟨z5 + 1, 0, none⟩ = some (.int .i64 (m : Int)) := (hbx.cell (World.block_lt_of_cell? _ _ ca)).trans ca
      have cgX : X.cell? ⟨z2, 0, none⟩ = some (.pointer (some ⟨b, 0, none⟩)) := (hbx.cell (World.block_lt_of_cell? _ _ cg)).trans cg
      have HLX : Hid _ := last_any (some ⟨b, 0, none⟩) R X (.inr ⟨b, rfl, HR1.out.below hbx⟩)
      have hlast : ((R.last : Nat) : Int) = (n : Int) + (m : Int) := by rw [HG.out.last]; omega
      rw [hlast] at HLX
      obtain ⟨T, hT⟩ : ∃ T : Int, R.top = T := ⟨_, rfl⟩
      rw [hT] at HLX
      have HBX : Hid (Below W.heap.size W X) := hbx
      clear hP3 hE3 hbx hm3 hlast hT ca cg ck cw
      gi_wp2_with fail
      refine ⟨trivial, ?_⟩
      refine (callsIn_wide.2 HLX.out).mono ?_
      rintro e' Y ⟨rfl, hby⟩
      have HBY : Hid (Below W.heap.size W Y) := trans2 HBX.out hby
      have caY : Y.cell? ⟨z5 + 1, 0, none⟩ = some (.int .i64 (m : Int)) := (hby.cell (World.block_lt_of_cell? _ _ caX)).trans caX
      have HRB : Hid (Y.heap[w.heap.size + 1]? = some (.cells #[.bool false] 4 (0, 0))) := kept_block HBY.out HSB1.out.rb
      have cr : Y.cell? ⟨w.heap.size + 1, 0, none⟩ = some (.bool false) := by rw [cell_blk HRB.out]; rfl
      have fr := free_blk HRB.out
      have HKY : Hid (Y.heap[D]? = some (.deferred (some []))) := kept_block HBY.out hK
      have HFIN : Hid (Below w.heap.size w Y) := trans2 HST1.out.bel HBY.out
      have HD1 : Hid (D ≠ w.heap.size + 1) := by have t1 := lt_of_blk HSB.out.rb; show D ≠ _; omega
      clear hby caX cgX HLX hK
      gi_wp2_with fail
      · have hKD : (Y.setCell ⟨w.heap.size + 1, 0, none⟩ (.bool true)).heap[D]? = some (.deferred (some [])) := other_blk HKY.out HD1.out
        refine ⟨by simp, .inl ⟨_, _, rfl, run_takeDeferred hKD, ?_⟩⟩
        have hbw : Below w.heap.size w ((Y.setCell ⟨w.heap.size + 1, 0, none⟩ (.bool true)).putObj D (.deferred none)) := by
          have t1 : Below w.heap.size w (Y.setCell ⟨w.heap.size + 1, 0, none⟩ (.bool true)) := HFIN.out.setCell (by show w.heap.size ≤ w.heap.size + 1; omega) _
          exact t1.grown (grownBy_putObj' _ D (.deferred none)) t1.size (fun j hj => by cases hj; omega)
        refine ⟨_, results_box1 rfl _ _ (w.heap.size + 1) true rfl ?_, rfl, hbw⟩
        have h9 : ((Y.setCell ⟨w.heap.size + 1, 0, none⟩ (.bool true)).putObj D (.deferred none)).heap[w.heap.size + 1]? = some (.cells #[.bool true] 4 (0, 0)) := by
          rw [World.putObj_heap_other (Ne.symm HD1.out)]
          exact same_blk HRB.out rfl
        rw [cell_blk h9]
        rfl
      · have hbool : ((m3 : Int) == (room : Int) || (m3 : Int) == (n : Int) + (m : Int)) = true := by
          have hm3 := HM3.out
          rcases Nat.lt_or_ge (n + m) room with t | t
          · rw [show ((m3 : Int) == (n : Int) + (m : Int)) = true by simp; omega, Bool.or_true]
          · rw [show ((m3 : Int) == (room : Int)) = true by simp; omega, Bool.true_or]
        rw [hbool]
        have hKD : (Y.setCell ⟨w.heap.size + 1, 0, none⟩ (.bool true)).heap[D]? = some (.deferred (some [])) := other_blk HKY.out HD1.out
        refine ⟨by simp, .inl ⟨_, _, rfl, run_takeDeferred hKD, ?_⟩⟩
        have hbw : Below w.heap.size w ((Y.setCell ⟨w.heap.size + 1, 0, none⟩ (.bool true)).putObj D (.deferred none)) := by
          have t1 : Below w.heap.size w (Y.setCell ⟨w.heap.size + 1, 0, none⟩ (.bool true)) := HFIN.out.setCell (by show w.heap.size ≤ w.heap.size + 1; omega) _
          exact t1.grown (grownBy_putObj' _ D (.deferred none)) t1.size (fun j hj => by cases hj; omega)
        refine ⟨_, results_box1 rfl _ _ (w.heap.size + 1) true rfl ?_, rfl, hbw⟩
        have h9 : ((Y.setCell ⟨w.heap.size + 1, 0, none⟩ (.bool true)).putObj D (.deferred none)).heap[w.heap.size + 1]? = some (.cells #[.bool true] 4 (0, 0)) := by
          rw [World.putObj_heap_other (Ne.symm HD1.out)]
          exact same_blk HRB.out rfl
        rw [cell_blk h9]
        rfl
  case stop =>
    rintro D c W hD ⟨rfl, q, hqk, hq1, hst⟩ hK
    subst hqk
    have sb := HSBJ.out _ W hst
    obtain ⟨R, hG, -, hR⟩ := hst.ring
    have HG : Hid (StG room n q R) := hG
    have HST1 : Hid _ := hst
    have HSB1 : Hid _ := sb
    have HR1 : Hid (RingAt W b R) := hR
    have hqm : q ≤ m := hst.le
    have hm64 : m ≤ 64 := by have := HM.out.2; omega
    have ck : W.cell? ⟨w.heap.size, 0, none⟩ = some (.int .i64 (q : Int)) := by rw [cell_blk sb.kb]; rfl
    have cw : W.cell? ⟨z4, 0, none⟩ = some (.slice wa m wc) := by rw [cell_blk sb.ws]; rfl
    have ca : W.cell? ⟨z5 + 1, 0, none⟩ = some (.int .i64 (q : Int)) := by rw [cell_blk hst.at']; rfl
    have cg : W.cell? ⟨z2, 0, none⟩ = some (.pointer (some ⟨b, 0, none⟩)) := by rw [cell_blk sb.gb]; rfl
    clear hst sb hR hG
    have i1 : (1 : Int) ≤ (q : Int) := by omega
    have i2 : (q : Int) ≤ (m : Int) := by omega
    have i3 : ¬ (q : Int) < 1 := by omega
    have i4 : ¬ (m : Int) < (q : Int) := by omega
    gi_wp2_with fail
    refine ⟨trivial, ?_⟩
    refine (callsIn_wide.2 (all_any (some ⟨b, 0, none⟩) R W (.inr ⟨b, rfl, HR1.out⟩))).mono ?_
    rintro e' X ⟨nv, P3, rfl, hP3, hE3, hbx⟩
    obtain ⟨na, nc, rfl, -, -⟩ := owns_form hE3.row
    obtain ⟨m3, hm3⟩ : ∃ m3, P3.length = m3 := ⟨_, rfl⟩
    rw [hm3]
    have HM3 : Hid (m3 = min (n + q) room) := by show m3 = _; rw [← hm3, ← HG.out.len, ← hP3, List.length_map]
    have caX : X.cell? ⟨z5 + 1, 0, none⟩ = some (.int .i64 (q : Int)) := (hbx.cell (World.block_lt_of_cell? _ _ ca)).trans ca
    have cgX : X.cell? ⟨z2, 0, none⟩ = some (.pointer (some ⟨b, 0, none⟩)) := (hbx.cell (World.block_lt_of_cell? _ _ cg)).trans cg
    have HLX : Hid _ := last_any (some ⟨b, 0, none⟩) R X (.inr ⟨b, rfl, HR1.out.below hbx⟩)
    have hlast : ((R.last : Nat) : Int) = (n : Int) + (q : Int) := by rw [HG.out.last]; omega
    rw [hlast] at HLX
    obtain ⟨T, hT⟩ : ∃ T : Int, R.top = T := ⟨_, rfl⟩
    rw [hT] at HLX
    have HBX : Hid (Below W.heap.size W X) := hbx
    clear hP3 hE3 hbx hm3 hlast hT ca cg ck cw
    gi_wp2_with fail
    refine ⟨trivial, ?_⟩
    refine (callsIn_wide.2 HLX.out).mono ?_
    rintro e' Y ⟨rfl, hby⟩
    have HBY : Hid (Below W.heap.size W Y) := trans2 HBX.out hby
    have caY : Y.cell? ⟨z5 + 1, 0, none⟩ = some (.int .i64 (q : Int)) := (hby.cell (World.block_lt_of_cell? _ _ caX)).trans caX
    have HRB : Hid (Y.heap[w.heap.size + 1]? = some (.cells #[.bool false] 4 (0, 0))) := kept_block HBY.out HSB1.out.rb
    have cr : Y.cell? ⟨w.heap.size + 1, 0, none⟩ = some (.bool false) := by rw [cell_blk HRB.out]; rfl
    have fr := free_blk HRB.out
    have HKY : Hid (Y.heap[D]? = some (.deferred (some []))) := kept_block HBY.out hK
    have HFIN : Hid (Below w.heap.size w Y) := trans2 HST1.out.bel HBY.out
    have HD1 : Hid (D ≠ w.heap.size + 1) := by have t1 := lt_of_blk HSB.out.rb; show D ≠ _; omega
    clear hby caX cgX HLX hK
    gi_wp2_with fail
    · have hKD : (Y.setCell ⟨w.heap.size + 1, 0, none⟩ (.bool true)).heap[D]? = some (.deferred (some [])) := other_blk HKY.out HD1.out
      refine ⟨by simp, .inl ⟨_, _, rfl, run_takeDeferred hKD, ?_⟩⟩
      have hbw : Below w.heap.size w ((Y.setCell ⟨w.heap.size + 1, 0, none⟩ (.bool true)).putObj D (.deferred none)) := by
        have t1 : Below w.heap.size w (Y.setCell ⟨w.heap.size + 1, 0, none⟩ (.bool true)) := HFIN.out.setCell (by show w.heap.size ≤ w.heap.size + 1; omega) _
        exact t1.grown (grownBy_putObj' _ D (.deferred none)) t1.size (fun j hj => by cases hj; omega)
      refine ⟨_, results_box1 rfl _ _ (w.heap.size + 1) true rfl ?_, rfl, hbw⟩
      have h9 : ((Y.setCell ⟨w.heap.size + 1, 0, none⟩ (.bool true)).putObj D (.deferred none)).heap[w.heap.size + 1]? = some (.cells #[.bool true] 4 (0, 0)) := by
        rw [World.putObj_heap_other (Ne.symm HD1.out)]
        exact same_blk HRB.out rfl
      rw [cell_blk h9]
      rfl
    · have hbool : ((m3 : Int) == (room : Int) || (m3 : Int) == (n : Int) + (q : Int)) = true := by
        have hm3 := HM3.out
        rcases Nat.lt_or_ge (n + q) room with t | t
        · rw [show ((m3 : Int) == (n : Int) + (q : Int)) = true by simp; omega, Bool.or_true]
        · rw [show ((m3 : Int) == (room : Int)) = true by simp; omega, Bool.true_or]
      rw [hbool]
      have hKD : (Y.setCell ⟨w.heap.size + 1, 0, none⟩ (.bool true)).heap[D]? = some (.deferred (some [])) := other_blk HKY.out HD1.out
      refine ⟨by simp, .inl ⟨_, _, rfl, run_takeDeferred hKD, ?_⟩⟩
      have hbw : Below w.heap.size w ((Y.setCell ⟨w.heap.size + 1, 0, none⟩ (.bool true)).putObj D (.deferred none)) := by
        have t1 : Below w.heap.size w (Y.setCell ⟨w.heap.size + 1, 0, none⟩ (.bool true)) := HFIN.out.setCell (by show w.heap.size ≤ w.heap.size + 1; omega) _
        exact t1.grown (grownBy_putObj' _ D (.deferred none)) t1.size (fun j hj => by cases hj; omega)
      refine ⟨_, results_box1 rfl _ _ (w.heap.size + 1) true rfl ?_, rfl, hbw⟩
      have h9 : ((Y.setCell ⟨w.heap.size + 1, 0, none⟩ (.bool true)).putObj D (.deferred none)).heap[w.heap.size + 1]? = some (.cells #[.bool true] 4 (0, 0)) := by
        rw [World.putObj_heap_other (Ne.symm HD1.out)]
        exact same_blk HRB.out rfl
      rw [cell_blk h9]
      rfl
end Go.Proofs.Ytonppfnjeomcoaa
