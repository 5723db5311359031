/-
  view: did.
-/
import Derived.Test.YtlbhnlpdijhmlaaVStep
namespace Go.Proofs.Ytlbhnlpdijhmlaa
open Go.RowKit
set_option linter.unusedVariables false
set_option linter.unusedSimpArgs false

/-- These slots are filled. -/
def putsL (a : Act) : List Nat → List Value → Act
  | n :: ns, v :: vs => putsL (a.put (some n) v) ns vs
  | _, _ => a
/-- It went on, and nothing else. -/
def OnlyOn (R : Act → World → Prop) : Exit → Act → World → Prop
  | .normal, a, w => R a w
  | _, _, _ => False
/-- A piece of code that goes on as it should, whatever a panic would do. -/
theorem wp_cut {P : Program} {c : Code} {Q : Exit → Act → World → Prop} {a : Act} {w : World} (slots : List Nat) (R : List Value → World → Prop)
    (h1 : Code.wp P c (OnlyOn fun a' w' => ∃ vs, R vs w' ∧ a' = putsL a slots vs) a w) (h2 : ∀ vs w', R vs w' → Q .normal (putsL a slots vs) w') : Code.wp P c Q a w := by
  refine Code.wp_mono ?_ h1
  intro ex a' w' h
  cases ex <;> first | exact h.elim | skip
  obtain ⟨vs, hR, rfl⟩ := h
  exact h2 vs w' hR
theorem Chg.trans' {w w1 w2 : World} {S T : Nat → Prop} (h : Chg w w1 S) (k : Chg w1 w2 T) (hT : ∀ j, T j → S j ∨ w.heap.size ≤ j) : Chg w w2 S :=
  ⟨k.os.trans h.os, k.tape.trans h.tape, k.output.trans h.output, Nat.le_trans h.size k.size, fun j hj hn => by
    rw [k.block j (Nat.lt_of_lt_of_le hj h.size) (fun e => (hT j e).elim hn (fun hh => by omega))]
    exact h.block j hj hn⟩
theorem range_keep {w w' : World} {b o : Nat} {cs : List Value} {T : Nat → Prop} (h : w.rangeAt b o cs) (hc : Chg w w' T) (hl : b < w.heap.size) (hT : ¬ T b) : w'.rangeAt b o cs := fun j v hv => by
  rw [World.cell?_of_block (w := w) (hc.block b hl hT)]
  exact h j v hv
theorem there_keep {w w' : World} {b o n : Nat} {T : Nat → Prop} (h : w.there b o n) (hc : Chg w w' T) (hl : b < w.heap.size) (hT : ¬ T b) : w'.there b o n := fun j hj => by
  have e := hc.block b hl hT
  obtain ⟨h1, h2⟩ := h j hj
  exact ⟨by rw [World.cell?_of_block (w := w) e]; exact h1, by simpa [World.frozen?, e] using h2⟩
/-- A service and a box of one's own beside it. -/
structure Bx (At : World → (Nat → Prop) → SvT → Value → Prop) (w0 : World) (K0 : Nat → Prop) (w : World) (K : Nat → Prop) (V : SvT) (p : Value) (g : Nat) (cs : List Value) : Prop where
  at' : At w K V p
  box : w.rangeAt g 0 cs
  th : w.there g 0 24
  lt : g < w.heap.size
  nk : ¬ K g
  chg : Chg w0 w K0
  new : ∀ j, K j → K0 j ∨ w0.heap.size ≤ j
  own : w0.heap.size ≤ g
theorem Bx.call {At : World → (Nat → Prop) → SvT → Value → Prop} {w0 w w' : World} {K0 K : Nat → Prop} {V V' : SvT} {p : Value} {g : Nat} {cs : List Value} (h : Bx At w0 K0 w K V p g cs) (he : SvE At w K V' p w') : ∃ K', Bx At w0 K0 w' K' V' p g cs := by
  obtain ⟨K', h1, h2, h3⟩ := he
  refine ⟨K', h1, range_keep h.box h2 h.lt h.nk, there_keep h.th h2 h.lt h.nk, Nat.lt_of_lt_of_le h.lt h2.size, fun hg => (h3 g hg).elim h.nk (fun hh => by have := h.lt; omega), ?_, fun j hj => (h3 j hj).elim (h.new j) (fun hh => .inr (Nat.le_trans h.chg.size hh)), h.own⟩
  exact h.chg.trans' h2 h.new
theorem Bx.below {At : World → (Nat → Prop) → SvT → Value → Prop} (sv : Serves At) {w0 w w' : World} {K0 K : Nat → Prop} {V : SvT} {p : Value} {g : Nat} {cs : List Value} (h : Bx At w0 K0 w K V p g cs) (hb : Below w.heap.size w w') : Bx At w0 K0 w' K V p g cs :=
  ⟨sv.keep h.at' (Kp.of_below hb _), range_keep h.box (Chg.of_below hb (fun _ => False)) h.lt id, there_keep h.th (Chg.of_below hb (fun _ => False)) h.lt id, Nat.lt_of_lt_of_le h.lt hb.size, h.nk, h.chg.trans (Chg.of_below hb _), h.new, h.own⟩
theorem Bx.store {At : World → (Nat → Prop) → SvT → Value → Prop} (sv : Serves At) {w0 w : World} {K0 K : Nat → Prop} {V : SvT} {p : Value} {g : Nat} {cs ds : List Value} (h : Bx At w0 K0 w K V p g cs) (hd : ds.length = 24) : Bx At w0 K0 (w.setCells g 0 ds) K V p g ds := by
  have hc := chg_setCells g ds 0 w
  refine ⟨sv.keep h.at' (Kp.of_chg hc (fun j _ hj e => h.nk (by have e : j = g := e; rw [← e]; exact hj))), World.rangeAt_setCells_same w g 0 ds (by rw [hd]; exact h.th), World.there_setCells h.th g 0 ds, Nat.lt_of_lt_of_le h.lt hc.size, h.nk, ?_, h.new, h.own⟩
  exact h.chg.trans' hc (fun j e => .inr (by have e : j = g := e; rw [e]; exact h.own))
set_option maxHeartbeats 6400000 in
set_option maxRecDepth 100000 in
theorem did_any {At : World → (Nat → Prop) → SvT → Value → Prop} (sv : Serves At) (w : World) (K0 : Nat → Prop) (V : SvT) (p : Value) (x : WhT) (cs : List Value) (h : At w K0 V p) (ha : x.At cs) :
    Calls Try.prog 15 #[p, .agg cs.toArray] w fun e w' => e = .returned (.tuple #[.bool (decide ((wholeT (lastV V.l) x).kind = 1 ∧ V.promC (wholeT (lastV V.l) x).a (wholeT (lastV V.l) x).b = 0)), .bool (decide ((wholeT (lastV V.l) x).kind = 2 ∧ V.settC (wholeT (lastV V.l) x).a (wholeT (lastV V.l) x).b = 0))]) ∧ SvE At w K0 (V.does (wholeT (lastV V.l) x)) p w' := by
  obtain ⟨W, hWW⟩ : ∃ W, w.alloc (.cells cs.toArray 49) = W := ⟨_, rfl⟩
  obtain ⟨g, hg⟩ : ∃ g, w.heap.size = g := ⟨_, rfl⟩
  have HX0 : Hid (Bx At w K0 W K0 V p g cs) := by
    have hal : Below w.heap.size w W := by rw [← hWW]; exact (Below.refl _ _).alloc (Nat.le_refl _) _
    have hb : W.heap[g]? = some (.cells cs.toArray 49 (0, 0)) := by rw [← hWW, ← hg]; exact heap_alloc_new _ _
    exact ⟨sv.keep h (Kp.of_below hal _), range_of hb, there_of hb (by simp [ha.len]), lt_of_blk hb, fun hk => by have := sv.lt h g hk; omega, Chg.of_below hal _, fun j hj => .inl hj, by omega⟩
  have HX1 : Hid (Bx At w K0 W.drew K0 V p g cs) := HX0.out.below sv (below_drew (Below.refl _ _))
  have HA : Hid (x.At cs) := ha
  have HD : Hid ((wholeT (lastV V.l) x).At (wholeL (lastV V.l) cs x.kind x.a x.b)) := wholeL_at ha
  have HL : Hid (cs.length = 24 ∧ ∀ v ∈ cs, v.oneCell' = true) := ⟨ha.len, ha.one⟩
  have HEN : Hid (∀ args w, (callFunc 11 args).run Try.prog w = .ok (.enter 11 args) w) := enters_of Try.func11 (by kernel_rfl) rfl
  have HEW : Hid (∀ args w, (callFunc 30 args).run Try.prog w = .ok (.enter 30 args) w) := enters_of Try.func30 (by kernel_rfl) rfl
  have HW : Hid (w.alloc (.cells cs.toArray 49) = W) := hWW
  clear hWW h ha
  obtain ⟨y, hy⟩ : ∃ y, wholeT (lastV V.l) x = y := ⟨_, rfl⟩
  rw [hy] at HD ⊢
  clear hy
  obtain ⟨kind, a, b, ns, k, n⟩ := y
  dsimp only at HD ⊢
  go_enter Try.func15, Try.ntmps15
  go_upto_region 1 with fail
  rw [HW.out]
  refine wp_cut [8, 9, 10, 11] (fun vs w' => ∃ K1, vs = [p, vwV (lastV V.l), .agg cs.toArray, .agg (wholeL (lastV V.l) cs x.kind x.a x.b).toArray] ∧ Hid (Bx At w K0 w' K1 V p g (wholeL (lastV V.l) cs x.kind x.a x.b))) ?_ ?_
  · refine wp_region_any (by kernel_rfl) ?_
    change wpAny _ _ _ _ _ _ _ (World.drew _)
    refine wpAny_take (i := 0) (v := p) rfl (by kernel_rfl) (by kernel_rfl) (by kernel_rfl) (fun _ _ _ h => h) (Or.inl ⟨by rfl, by intro w; go_simp⟩) ?_
    refine wpAny_ready (rs := [1, 2]) (by kernel_rfl) (by simp) ?_
    refine AllReady.cons rfl (fun K hK => ?_) (AllReady.cons rfl (fun K hK => ?_) AllReady.nil)
    · refine step_call1 (by rfl) 11 _ _ (by rfl) HEN.out p (by rfl) (sv.now _ _ V p HX1.out.at') ?_
      rintro e w1 ⟨rfl, he1⟩
      obtain ⟨K1, hx1⟩ := HX1.out.call he1
      refine ⟨_, rfl, hK _ _ ?_⟩
      clear hK K
      refine wpAny_ready (rs := [2]) (by kernel_rfl) (by simp) ?_
      refine AllReady.cons rfl (fun K hK => ?_) AllReady.nil
      refine step_load (by rfl) 49 _ (by rfl) g 0 (by rfl) cs _ hx1.box Try.underlying49 rfl (by rw [HL.out.1]; exact Try.infoAct) (hK _ _ ?_)
      clear hK K
      refine wpAny_ready (rs := [3]) (by kernel_rfl) (by simp) ?_
      refine AllReady.cons rfl (fun K hK => ?_) AllReady.nil
      refine step_call2 (by rfl) 30 _ _ _ (by rfl) HEW.out (vwV (lastV V.l)) (.agg cs.toArray) (by rfl) (by rfl) (whole_any (lastV V.l) cs x.kind x.a x.b x.k x.n x.ns HA.out w1) ?_
      rintro e w2 ⟨rfl, hb2⟩
      have hx2 := hx1.below sv hb2
      refine ⟨_, rfl, hK _ _ ?_⟩
      clear hK K
      refine wpAny_ready (rs := [4]) (by kernel_rfl) (by simp) ?_
      refine AllReady.cons rfl (fun K hK => ?_) AllReady.nil
      refine step_store (by rfl) 49 _ _ (by rfl) g 0 (wholeL (lastV V.l) cs x.kind x.a x.b) (by rfl) (by rfl) (by rw [HD.out.len]; exact hx2.th) (by rw [HD.out.len]; exact Try.infoAct) HD.out.one (hK _ _ ?_)
      clear hK K
      refine wpAny_done (by kernel_rfl) ?_ _
      have HX3 : Hid (Bx At w K0 _ K1 V p g (wholeL (lastV V.l) cs x.kind x.a x.b)) := hx2.store sv HD.out.len
      clear hx1 hx2 he1 hb2
      exact ⟨[p, vwV (lastV V.l), .agg cs.toArray, .agg (wholeL (lastV V.l) cs x.kind x.a x.b).toArray], ⟨K1, rfl, HX3⟩, by simp [putsL, Act.put]⟩
    · refine step_load (by rfl) 49 _ (by rfl) g 0 (by rfl) cs _ HX1.out.box Try.underlying49 rfl (by rw [HL.out.1]; exact Try.infoAct) (hK _ _ ?_)
      clear hK K
      refine wpAny_ready (rs := [1]) (by kernel_rfl) (by simp) ?_
      refine AllReady.cons rfl (fun K hK => ?_) AllReady.nil
      refine step_call1 (by rfl) 11 _ _ (by rfl) HEN.out p (by rfl) (sv.now _ _ V p HX1.out.at') ?_
      rintro e w1 ⟨rfl, he1⟩
      obtain ⟨K1, hx1⟩ := HX1.out.call he1
      refine ⟨_, rfl, hK _ _ ?_⟩
      clear hK K
      refine wpAny_ready (rs := [3]) (by kernel_rfl) (by simp) ?_
      refine AllReady.cons rfl (fun K hK => ?_) AllReady.nil
      refine step_call2 (by rfl) 30 _ _ _ (by rfl) HEW.out (vwV (lastV V.l)) (.agg cs.toArray) (by rfl) (by rfl) (whole_any (lastV V.l) cs x.kind x.a x.b x.k x.n x.ns HA.out w1) ?_
      rintro e w2 ⟨rfl, hb2⟩
      have hx2 := hx1.below sv hb2
      refine ⟨_, rfl, hK _ _ ?_⟩
      clear hK K
      refine wpAny_ready (rs := [4]) (by kernel_rfl) (by simp) ?_
      refine AllReady.cons rfl (fun K hK => ?_) AllReady.nil
      refine step_store (by rfl) 49 _ _ (by rfl) g 0 (wholeL (lastV V.l) cs x.kind x.a x.b) (by rfl) (by rfl) (by rw [HD.out.len]; exact hx2.th) (by rw [HD.out.len]; exact Try.infoAct) HD.out.one (hK _ _ ?_)
      clear hK K
      refine wpAny_done (by kernel_rfl) ?_ _
      have HX3 : Hid (Bx At w K0 _ K1 V p g (wholeL (lastV V.l) cs x.kind x.a x.b)) := hx2.store sv HD.out.len
      clear hx1 hx2 he1 hb2
      exact ⟨[p, vwV (lastV V.l), .agg cs.toArray, .agg (wholeL (lastV V.l) cs x.kind x.a x.b).toArray], ⟨K1, rfl, HX3⟩, by simp [putsL, Act.put]⟩
  rintro vs w3 ⟨K1, rfl, HX3⟩
  simp only [putsL, Act.put, List.setIfInBounds_toArray, List.set_cons_zero, List.set_cons_succ]
  obtain ⟨ds, hds⟩ : ∃ ds, wholeL (lastV V.l) cs x.kind x.a x.b = ds := ⟨_, rfl⟩
  rw [hds] at HX3 HD ⊢
  clear hds HX0 HX1 HA HL
  have hc0 : w3.cell? ⟨g, 0, none⟩ = some (.int .i64 kind) := HX3.out.box 0 _ (by rw [HD.out.eq]; rfl)
  have hc1 : w3.cell? ⟨g, 1, none⟩ = some (.int .i64 a) := HX3.out.box 1 _ (by rw [HD.out.eq]; rfl)
  have hc2 : w3.cell? ⟨g, 2, none⟩ = some (.int .i64 b) := HX3.out.box 2 _ (by rw [HD.out.eq]; rfl)
  have HN3 : Hid (w3.rangeAt g 3 ns) := fun j v hv => by
    have := HX3.out.box (j + 3) v (by rw [HD.out.eq]; simpa using hv)
    rw [show 3 + j = 0 + (j + 3) by omega]
    exact this
  have HNO : Hid (NoAt ns k n) := HD.out.note
  by_cases k1 : kind = 1
  · subst k1
    have HP : Hid _ := sv.promote w3 K1 V p a b HX3.out.at'
    have HE : Hid (∀ w', SvE At w3 K1 (V.prom a b) p w' → SvE At w K0 (V.does ⟨1, a, b, ns, k, n⟩) p w') := fun w' he => by
      obtain ⟨K2, hx⟩ := HX3.out.call he
      exact ⟨K2, hx.at', hx.chg, hx.new⟩
    go_wp2_with (first
      | (go_at_call 13; refine Calls.mono HP.out ?_; rintro e w4 ⟨rfl, he4⟩
         have HE4 : Hid _ := he4
         clear he4)
      | fail)
    go_ret2
    refine ⟨?_, HE.out _ HE4.out⟩
    by_cases h0 : V.promC a b = 0 <;> simp [h0]
  by_cases k2 : kind = 2
  · subst k2
    have HP : Hid _ := sv.settle w3 K1 V p a b HX3.out.at'
    have HE : Hid (∀ w', SvE At w3 K1 (V.sett a b) p w' → SvE At w K0 (V.does ⟨2, a, b, ns, k, n⟩) p w') := fun w' he => by
      obtain ⟨K2, hx⟩ := HX3.out.call he
      exact ⟨K2, hx.at', hx.chg, hx.new⟩
    clear k1
    go_wp2_with (first
      | (go_at_call 12; refine Calls.mono HP.out ?_; rintro e w4 ⟨rfl, he4⟩
         have HE4 : Hid _ := he4
         clear he4)
      | fail)
    go_ret2
    refine ⟨?_, HE.out _ HE4.out⟩
    by_cases h0 : V.settC a b = 0 <;> simp [h0]
  by_cases k3 : kind = 3
  · subst k3
    have HP : Hid _ := sv.take w3 K1 V p a k n ns HX3.out.at' HNO.out
    have HE : Hid (∀ w', SvE At w3 K1 (V.took a k n) p w' → SvE At w K0 (V.does ⟨3, a, b, ns, k, n⟩) p w') := fun w' he => by
      obtain ⟨K2, hx⟩ := HX3.out.call he
      exact ⟨K2, hx.at', hx.chg, hx.new⟩
    clear k1 k2
    go_wp2_with (first
      | (refine wpList_load_mid rfl 47 _ rfl g 3 rfl ns _ HN3.out Try.underlying47 rfl (by rw [HNO.out.len]; exact Try.infoNote) ?_)
      | (go_at_call 17; refine Calls.mono HP.out ?_; rintro e w4 ⟨m4, K4, rfl, _, he4, hc4, hn4⟩
         have HE4 : Hid (SvE At w3 K1 (V.took a k n) p w4) := ⟨K4, he4, hc4, hn4⟩
         clear he4 hc4 hn4)
      | fail)
    go_ret2
    refine ⟨?_, HE.out _ HE4.out⟩
    simp
  have b1 : (kind == 1) = false := by simpa using k1
  have b2 : (kind == 2) = false := by simpa using k2
  have b3 : (kind == 3) = false := by simpa using k3
  have HE : Hid (SvE At w K0 (V.does ⟨kind, a, b, ns, k, n⟩) p w3 ∧ ¬ kind = 1 ∧ ¬ kind = 2) := by
    refine ⟨⟨K1, ?_, HX3.out.chg, HX3.out.new⟩, k1, k2⟩
    unfold SvT.does
    rw [if_neg k1, if_neg k2, if_neg k3]
    exact HX3.out.at'
  clear k1 k2 k3
  go_wp2_with fail
  go_ret2
  refine ⟨?_, HE.out.1⟩
  simp [HE.out.2]
end Go.Proofs.Ytlbhnlpdijhmlaa
