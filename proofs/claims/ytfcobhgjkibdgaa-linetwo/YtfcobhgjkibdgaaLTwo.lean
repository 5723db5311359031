/-
  heraldlaw16: LineTwo.
-/
import Derived.Test.YtfcobhgjkibdgaaLOnly
namespace Go.Proofs.Ytfcobhgjkibdgaa
open Go.RowKit
set_option linter.unusedVariables false
set_option linter.unusedSimpArgs false

theorem step_call4 {P : Program} {ops : Array Oper} {o : Oper} {a : Act} {w : World} {K : Act → World → Prop} {Q : Exit → Act → World → Prop} {E : Prop} (hgd : o.guard = none) (f : FuncId) (x1 x2 x3 x4 : Operand) (ts : Array TypeId)
    (ho : o.op = .call { callee := .value (.func f), args := #[x1, x2, x3, x4], argTypes := ts }) (ef : ∀ args w, (callFunc f args).run P w = .ok (.enter f args) w) (u1 u2 u3 u4 : Value) (h1 : a.eval x1 = u1) (h2 : a.eval x2 = u2) (h3 : a.eval x3 = u3) (h4 : a.eval x4 = u4) {R : Ending → World → Prop} (hc : Calls P f #[u1, u2, u3, u4] w R)
    (h : ∀ e w', R e w' → ∃ r, e = .returned r ∧ K (a.put o.dst r) w') :
    if Region.wanted o (yielded ops a.tmps) = true then Oper.wp P o a w K Q else E := by
  have hw : Region.wanted o (yielded ops a.tmps) = true := by simp [Region.wanted, hgd]
  rw [if_pos hw]
  have he : (execOp a.eval o).run P w = .ok (.enter f #[u1, u2, u3, u4]) w := by
    have hf : a.eval (.func f) = .func (.func f) #[] #[] := rfl
    simp [execOp, ho, resolve, invoke, Deferred.ofValue, h1, h2, h3, h4, hf, ef]
  unfold Oper.wp
  rw [he, Oper.upon_enter]
  refine hc.mono ?_
  intro e w' hR
  obtain ⟨r, rfl, hk⟩ := h e w' hR
  exact hk
/-- The cells of a zero line. -/
def lineZ : Array Value := #[.map none, .int .i64 0]
/-- Two lines at one desk. -/
structure Du (At : World → (Nat → Prop) → LnT → Value → Prop) (w wr : World) (D : Nat) (rv : Value) (K1 : Nat → Prop) (L1 : LnT) (p1 v1 : Value) (b1 : Nat) (K2 : Nat → Prop) (L2 : LnT) (p2 v2 : Value) (b2 : Nat) : Prop where
  one : OnI At w wr K1 L1 p1 v1 D rv b1 #[v1, .int .i64 L1.gv, .bool L1.no]
  two : OnI At w wr K2 L2 p2 v2 D rv b2 #[v2, .int .i64 L2.gv, .bool L2.no]
  apart : ∀ j, K1 j → ¬ K2 j
  n1 : ¬ K1 b2
  n2 : ¬ K2 b1
  bb : b1 ≠ b2
theorem Du.swap {At : World → (Nat → Prop) → LnT → Value → Prop} {w wr : World} {D : Nat} {rv : Value} {K1 : Nat → Prop} {L1 : LnT} {p1 v1 : Value} {b1 : Nat} {K2 : Nat → Prop} {L2 : LnT} {p2 v2 : Value} {b2 : Nat} (h : Du At w wr D rv K1 L1 p1 v1 b1 K2 L2 p2 v2 b2) : Du At w wr D rv K2 L2 p2 v2 b2 K1 L1 p1 v1 b1 :=
  ⟨h.two, h.one, fun j h2 h1 => h.apart j h1 h2, h.n2, h.n1, fun e => h.bb e.symm⟩
theorem Du.at {At : World → (Nat → Prop) → LnT → Value → Prop} (sv : Lines At) {w wr w' : World} {D : Nat} {rv : Value} {K1 : Nat → Prop} {L1 : LnT} {p1 v1 : Value} {b1 : Nat} {K2 : Nat → Prop} {L2 : LnT} {p2 v2 : Value} {b2 : Nat} (h : Du At w wr D rv K1 L1 p1 v1 b1 K2 L2 p2 v2 b2) (hb : Below wr.heap.size wr w') : Du At w w' D rv K1 L1 p1 v1 b1 K2 L2 p2 v2 b2 :=
  ⟨h.one.at sv hb, h.two.at sv hb, h.apart, h.n1, h.n2, h.bb⟩
theorem Du.step {At : World → (Nat → Prop) → LnT → Value → Prop} (sv : Lines At) {w wr w4 : World} {D : Nat} {rv rv' : Value} {K1 K' : Nat → Prop} {L1 L' : LnT} {p1 v1 v' : Value} {b1 : Nat} {K2 : Nat → Prop} {L2 : LnT} {p2 v2 : Value} {b2 : Nat} (h : Du At w wr D rv K1 L1 p1 v1 b1 K2 L2 p2 v2 b2) (he : PlE At wr K1 p1 D rv L' w4 K' v' rv') : Du At w (put_3 w4 b1 v' (.int .i64 L'.gv) (.bool L'.no)) D rv' K' L' p1 v' b1 K2 L2 p2 v2 b2 := by
  have h1 := h.one.step sv he
  obtain ⟨n, xs, hr⟩ := h.two.sit.row
  have hout : ∀ j, K2 j → ¬ (K1 j ∨ j = D ∨ rv.ownBlock = some j) := fun j hj e => by
    rcases e with e | e | e
    · exact h.apart j e hj
    · exact h.two.sit.nkD (by rw [← e]; exact hj)
    · exact h.two.sit.nkR j e hj
  have hb2 : ¬ (K1 b2 ∨ b2 = D ∨ rv.ownBlock = some b2) := fun e => by
    rcases e with e | e
    · exact h.n1 e
    · exact h.two.out sv b2 (.inl rfl) (.inr e)
  have h2 : OnI At w w4 K2 L2 p2 v2 D rv' b2 #[v2, .int .i64 L2.gv, .bool L2.no] := by
    refine ⟨⟨sv.keep h.two.sit.at' ⟨he.chg.size, fun b hb hk => he.chg.block b hb (hout b hk)⟩, h.two.sit.ok, row_chg h.two.sit.ref he.chg (fun j hj e => ?_), he.sit.desk, he.sit.row, h.two.sit.nkD, fun j hj hk => (he.newR j hj).elim (fun e => h.two.sit.nkR j e hk) (fun e => by have := sv.lt h.two.sit.at' j hk; omega)⟩, ?_, h.two.nb, h.two.lowK, h.two.lowD, h1.lowR, h.two.lowB, h1.below⟩
    · obtain ⟨cur, hc⟩ := row_kind h.two.sit.ref j hj
      rcases e with e | e | e
      · exact sv.sort h.one.sit.at' j cur e hc
      · subst e
        have h9 := h.two.sit.desk
        rw [hc] at h9
        simp at h9
      · obtain ⟨c2, hc2⟩ := row_kind hr j e
        rw [hc2] at hc
        simp at hc
    · rw [he.chg.block b2 (lt_of_blk h.two.box) hb2]
      exact h.two.box
  have hl2 := lt_of_blk h.two.box
  exact ⟨h1.store sv, h2.other sv h1.box (fun e => h.bb e.symm) h.n2 h.one.lowB, fun j hj hk => (he.new j hj).elim (fun e => h.apart j e hk) (fun e => by have := sv.lt h.two.sit.at' j hk; omega), fun hk => (he.new b2 hk).elim h.n1 (fun e => by omega), h.n2, h.bb⟩
/-- A step of a script that is on the second one. -/
def onL (L1 L2 : LnT) (s : StL) : LnT × LnT := if s.on = 0 then (L1.step s, L2) else (L1, L2.step s)
def runT (l : List StL) : LnT × LnT := l.foldl (fun x s => onL x.1 x.2 s) (ln0, ln0)
theorem runT_snoc (l : List StL) (s : StL) : runT (l ++ [s]) = onL (runT l).1 (runT l).2 s := by unfold runT; rw [List.foldl_append]; rfl
theorem onL_gv (L1 L2 : LnT) (s : StL) : (onL L1 L2 s).1.gv ≤ L1.gv + 300 ∧ (onL L1 L2 s).2.gv ≤ L2.gv + 300 := by
  unfold onL
  have h1 := step_gv L1 s
  have h2 := step_gv L2 s
  split
  · exact ⟨h1, by show L2.gv ≤ _; omega⟩
  · exact ⟨by show L1.gv ≤ _; omega, h2⟩
theorem runT_gv : ∀ (n : Nat) (l : List StL), l.length = n → (runT l).1.gv ≤ 300 * n ∧ (runT l).2.gv ≤ 300 * n := by
  intro n
  induction n with
  | zero =>
    intro l hl
    obtain rfl := List.eq_nil_of_length_eq_zero hl
    exact ⟨Nat.le_refl _, Nat.le_refl _⟩
  | succ n ih =>
    intro l hl
    obtain ⟨l', s, rfl⟩ : ∃ l' s, l = l' ++ [s] := ⟨l.dropLast, l.getLast (by intro e; subst e; simp at hl), (List.dropLast_concat_getLast _).symm⟩
    have h1 := ih l' (by simpa using hl)
    have h2 := onL_gv (runT l').1 (runT l').2 s
    rw [runT_snoc]
    omega
theorem numbers_of {At : World → (Nat → Prop) → LnT → Value → Prop} (sv : Lines At) {w wr w' : World} {D : Nat} {rv : Value} {K1 K' : Nat → Prop} {L1 : LnT} {p1 v1 : Value} {b1 : Nat} {K2 : Nat → Prop} {L2 : LnT} {p2 v2 : Value} {b2 : Nat} (h : Du At w wr D rv K1 L1 p1 v1 b1 K2 L2 p2 v2 b2) (he : LnE At wr K1 L1 p1 w' K') : Du At w w' D rv K' L1 p1 v1 b1 K2 L2 p2 v2 b2 := by
  have hn : ∀ j, j < wr.heap.size → ¬ K1 j → ¬ K' j := fun j hj hk hk' => (he.new j hk').elim hk (fun e => by omega)
  have hbel : Below w.heap.size w w' := ⟨he.chg.os.trans h.one.below.os, he.chg.tape.trans h.one.below.tape, he.chg.output.trans h.one.below.output, Nat.le_trans h.one.below.size he.chg.size, fun k hk => (he.chg.block k (Nat.lt_of_lt_of_le hk h.one.below.size) (fun e => by have := h.one.lowK k e; omega)).trans (h.one.below.block k hk)⟩
  refine ⟨⟨h.one.sit.call sv he _ h.one.sit.ref h.one.sit.ok, ?_, hn _ (lt_of_blk h.one.box) h.one.nb, fun j hj => (he.new j hj).elim (h.one.lowK j) (fun e => Nat.le_trans h.one.below.size e), h.one.lowD, h.one.lowR, h.one.lowB, hbel⟩, ⟨⟨sv.keep h.two.sit.at' ⟨he.chg.size, fun b hb hk => he.chg.block b hb (fun e => h.apart b e hk)⟩, h.two.sit.ok, row_chg h.two.sit.ref he.chg (fun j hj e => ?_), ?_, ?_, h.two.sit.nkD, h.two.sit.nkR⟩, ?_, h.two.nb, h.two.lowK, h.two.lowD, h.two.lowR, h.two.lowB, hbel⟩, fun j hj hk => (he.new j hj).elim (fun e => h.apart j e hk) (fun e => by have := sv.lt h.two.sit.at' j hk; omega), hn _ (lt_of_blk h.two.box) h.n1, h.n2, h.bb⟩
  · rw [he.chg.block b1 (lt_of_blk h.one.box) h.one.nb]
    exact h.one.box
  · obtain ⟨cur, hc⟩ := row_kind h.two.sit.ref j hj
    exact sv.sort h.one.sit.at' j cur e hc
  · rw [he.chg.block D (lt_of_blk h.one.sit.desk) h.one.sit.nkD]
    exact h.one.sit.desk
  · obtain ⟨n, xs, hr⟩ := h.one.sit.row
    exact ⟨n, xs, row_chg hr he.chg (fun j hj e => h.one.sit.nkR j hj e)⟩
  · rw [he.chg.block b2 (lt_of_blk h.two.box) h.n1]
    exact h.two.box
set_option maxHeartbeats 6400000 in
set_option maxRecDepth 100000 in
theorem LineTwo_walk {At : World → (Nat → Prop) → LnT → Value → Prop} (sv : Lines At) (hz : ∀ (w : World) (b : Nat), w.heap[b]? = some (.cells lineZ 64 (0, 0)) → At w (fun j => j = b) ln0 (.pointer (some ⟨b, 0, none⟩))) (v : Value) (l : List StL) (w : World) (hl : StsAt w (fun b => b < w.heap.size) v l) (hwf : ∀ x ∈ l, (Lit.int .i64 x.n).wf = true) :
    Calls Try.prog 7 #[v] w fun e w' => e = .returned (.bool true) ∧ Below w.heap.size w w' := by
  obtain ⟨sa, sc, rfl, _⟩ := RowAt.form hl
  obtain ⟨sn, hsn⟩ : ∃ z, l.length = z := ⟨_, rfl⟩
  rw [hsn] at hl ⊢
  have HSN : Hid (l.length = sn) := hsn
  have HL : Hid (StsAt w (fun b => b < w.heap.size) (.slice sa sn sc) l) := hl
  have HKN : Hid (∀ w', _) := fun w' => known_any sv w'
  have HWF : Hid (∀ x ∈ l, (Lit.int .i64 x.n).wf = true) := hwf
  have HEP : Hid (∀ args w, (callFunc 24 args).run Try.prog w = .ok (.enter 24 args) w) := enters_of Try.func24 (by kernel_rfl) rfl
  clear hsn hl hwf
  go_enter Try.func7, Try.ntmps7
  go_wp2_with fail
  refine Calls.mono (sv.new w) ?_
  rintro e w1 ⟨b, K1, rfl, h1, hb1, hn1⟩
  have H1 : Hid (At w1 K1 ln0 (.pointer (some ⟨b, 0, none⟩)) ∧ Below w.heap.size w w1 ∧ ∀ j, K1 j → w.heap.size ≤ j) := ⟨h1, hb1, hn1⟩
  obtain ⟨W2, hW2⟩ : ∃ z, w1.alloc (.cells lineZ 64) = z := ⟨_, rfl⟩
  obtain ⟨g2, hg2⟩ : ∃ z, w1.heap.size = z := ⟨_, rfl⟩
  have H2 : Hid (W2.heap[g2]? = some (.cells lineZ 64 (0, 0)) ∧ Below w1.heap.size w1 W2 ∧ w1.heap.size = g2) := ⟨by rw [← hW2, ← hg2]; exact heap_alloc_new _ _, by rw [← hW2]; exact (Below.refl _ _).alloc (Nat.le_refl _) _, hg2⟩
  have HW2 : Hid (_ = W2) := hW2
  clear h1 hb1 hn1 hW2 hg2
  go_upto_region 3 with fail
  unfold lineZ at HW2
  rw [HW2.out, H2.out.2.2]
  go_wp2_with fail
  refine Calls.mono (refNew_any W2) ?_
  rintro e w3 ⟨rfl, hb3⟩
  obtain ⟨W4, hW4⟩ : ∃ z, w3.alloc (.cells #[.slice none 0 0, .int .i64 0, .bool false] 56) = z := ⟨_, rfl⟩
  obtain ⟨g4, hg4⟩ : ∃ z, w3.heap.size = z := ⟨_, rfl⟩
  have H4 : Hid (W4.heap[g4]? = some (.cells #[.slice none 0 0, .int .i64 0, .bool false] 56 (0, 0)) ∧ Below W2.heap.size W2 W4 ∧ w3.heap.size = g4 ∧ W2.heap.size ≤ g4) := ⟨by rw [← hW4, ← hg4]; exact heap_alloc_new _ _, by rw [← hW4]; exact trans2 hb3 ((Below.refl _ _).alloc (Nat.le_refl _) _), hg4, by rw [← hg4]; exact hb3.size⟩
  have HW4 : Hid (_ = W4) := hW4
  clear hb3 hW4 hg4
  go_upto_region 6 with fail
  rw [HW4.out, H4.out.2.2.1]
  go_wp2_with fail
  refine Calls.mono (refNew_any W4) ?_
  rintro e w5 ⟨rfl, hb5⟩
  obtain ⟨hA, hB, hbel⟩ := pair_blocks (w := w5) (t := 56) (cs := #[.slice none 0 0, .int .i64 0, .bool false]) (t' := 59) (cs' := #[.slice none 0 0])
  obtain ⟨W6, hW6⟩ : ∃ z, ((w5.alloc (.cells #[.slice none 0 0, .int .i64 0, .bool false] 56)).alloc (.cells #[.slice none 0 0] 59)) = z := ⟨_, rfl⟩
  rw [hW6] at hA hB hbel
  obtain ⟨g6, hg6⟩ : ∃ z, w5.heap.size = z := ⟨_, rfl⟩
  rw [hg6] at hA hB
  have HI0 : Hid (Du At w W6 (g6 + 1) (.slice none 0 0) K1 ln0 (.pointer (some ⟨b, 0, none⟩)) (.slice none 0 0) g4 (fun j => j = g2) ln0 (.pointer (some ⟨g2, 0, none⟩)) (.slice none 0 0) g6) := by
    have s1 := H1.out.2.1.size
    have s2 := lt_of_blk H2.out.1
    have s3 := H4.out.2.2.2
    have s4 := lt_of_blk H4.out.1
    have s5 := hb5.size
    have e1 := H2.out.2.2
    have lt1 : ∀ j, K1 j → j < g2 := fun j hj => by have := sv.lt H1.out.1 j hj; omega
    have B : Below w1.heap.size w1 W6 := trans2 (trans2 H2.out.2.1 H4.out.2.1) (trans2 hb5 hbel)
    have B2 : Below W2.heap.size W2 W6 := trans2 H4.out.2.1 (trans2 hb5 hbel)
    have BW : Below w.heap.size w W6 := trans2 H1.out.2.1 B
    refine ⟨⟨⟨sv.keep H1.out.1 (Kp.of_below B _), ok0, owns_nil _ _ _ _, hB, ⟨0, [], owns_nil _ _ _ _⟩, fun hk => by have := lt1 _ hk; omega, (fun j hj => by cases hj)⟩, kept_block (trans2 hb5 hbel) H4.out.1, fun hk => by have := lt1 _ hk; omega, H1.out.2.2, by omega, (fun j hj => by cases hj), by omega, BW⟩, ⟨⟨hz W6 g2 (kept_block B2 H2.out.1), ok0, owns_nil _ _ _ _, hB, ⟨0, [], owns_nil _ _ _ _⟩, fun hk => by have hk : g6 + 1 = g2 := hk; omega, (fun j hj => by cases hj)⟩, hA, fun hk => by have hk : g6 = g2 := hk; omega, fun j hk => by have hk : j = g2 := hk; omega, by omega, (fun j hj => by cases hj), by omega, BW⟩, fun j hj e => by have e : j = g2 := e; have := lt1 j hj; omega, fun hk => by have := lt1 _ hk; omega, fun e => by have e : g4 = g2 := e; omega, by omega⟩
  have HW6 : Hid (_ = W6) := hW6
  have HG6 : Hid (w5.heap.size = g6) := hg6
  clear hA hB hbel hW6 hg6 hb5
  go_upto_region 8 with fail
  rw [HW6.out]
  try rw [show (w5.alloc (.cells #[.slice none 0 0, .int .i64 0, .bool false] 56)).heap.size = w5.heap.size + 1 by simp]
  rw [HG6.out]
  go_wp2_with fail
  go_loopw [8, 9] (fun i _ wr => ∃ (q : Nat) (K1 K2 : Nat → Prop) (v1 v2 rv : Value), i = .int .i64 q ∧ q ≤ sn ∧ q ≤ 120 ∧ Hid (Du At w wr (g6 + 1) rv K1 (runT (l.take q)).1 (.pointer (some ⟨b, 0, none⟩)) v1 g4 K2 (runT (l.take q)).2 (.pointer (some ⟨g2, 0, none⟩)) v2 g6)) (fun i _ _ => sn - (intOf i).toNat)
  case atStart => exact ⟨0, _, _, _, _, _, rfl, Nat.zero_le _, Nat.zero_le _, HI0⟩
  case round =>
    obtain ⟨q, K1, K2, v1, v2, rv, rfl, hq, hq1, HI⟩ := hrel
    obtain ⟨LT, hLT⟩ : ∃ z, runT (l.take q) = z := ⟨_, rfl⟩
    have hgv := runT_gv (l.take q).length (l.take q) rfl
    rw [hLT, List.length_take, HSN.out] at hgv
    have hgm : LT.1.gv + 300 ≤ MaxG ∧ LT.2.gv + 300 ≤ MaxG := by unfold MaxG; omega
    rw [hLT] at HI
    by_cases hlt : q < sn
    · have hqi : (q : Int) < (sn : Int) := by omega
      by_cases h120 : q < 120
      · have hqj : (q : Int) < 120 := by omega
        obtain ⟨s, hs⟩ : ∃ s, l[q]? = some s := ⟨l[q]'(by rw [HSN.out]; exact hlt), List.getElem?_eq_getElem _⟩
        obtain ⟨sb, so, rfl, hsb, _, mv, hE⟩ := RowAt.get HL.out hs
        obtain ⟨ma, mc, rfl, _⟩ := RowAt.form hE.ms
        obtain ⟨mn, hmn⟩ : ∃ z, s.ms.length = z := ⟨_, rfl⟩
        rw [hmn] at hE
        have HEE : Hid (stE w (fun b => b < w.heap.size) sb (so + q * 6) s (.slice ma mn mc)) := hE
        have ks : ∀ {o v}, w.cell? ⟨sb, o, none⟩ = some v → wr.cell? ⟨sb, o, none⟩ = some v := fun hv => by rw [HI.out.one.below.cell (p := ⟨sb, _, none⟩) hsb]; exact hv
        have s0 := ks hE.kind
        have s1 := ks hE.on
        have s2 := ks hE.cu
        have s3 := ks hE.n
        have s4 := ks hE.a
        have s5 := ks hE.t
        have HN : Hid (runT (l.take (q + 1)) = onL LT.1 LT.2 s) := by show _ = _; rw [take_at hs, runT_snoc, hLT]
        have HGM : Hid (LT.1.gv + 300 ≤ MaxG ∧ LT.2.gv + 300 ≤ MaxG) := hgm
        have HWS : Hid ((Lit.int .i64 s.n).wf = true) := HWF.out s (List.mem_of_getElem? hs)
        have hon0 : s.on = 0 ∨ s.on ≠ 0 := by omega
        clear hs hE hmn hsb ks hgv hgm hLT
        rcases hon0 with hon | hon
        · have hn1 : onL LT.1 LT.2 s = (LT.1.step s, LT.2) := by unfold onL; rw [if_pos hon]
          rw [hn1] at HN
          have hon1 : (s.on == 0) = true := by simpa using hon
          have HJ : Hid (Du At w wr (g6 + 1) rv K1 LT.1 (.pointer (some ⟨b, 0, none⟩)) v1 g4 K2 LT.2 (.pointer (some ⟨g2, 0, none⟩)) v2 g6) := HI
          clear hn1 HI hon
          obtain ⟨a8, c8, rfl, _⟩ := fl_form HJ.out.one.sit.ref
          obtain ⟨n8, hn8⟩ : ∃ z, LT.1.fl.length = z := ⟨_, rfl⟩
          rw [hn8] at HJ
          obtain ⟨L2, hL2⟩ : ∃ z, LT.1.step s = z := ⟨_, rfl⟩
          have HPL : Hid (∀ w', Below wr.heap.size wr w' → _) := fun w' hb => plays_any sv w' K1 LT.1 (.pointer (some ⟨b, 0, none⟩)) (.slice a8 n8 c8) (g6 + 1) rv s (.slice ma mn mc) (fun b => b < w.heap.size) (HJ.out.at sv hb).one.sit HGM.out.1 (MssAt.keep HEE.out.ms (Kp.of_below (trans2 HJ.out.one.below hb) _)) HWS.out
          rw [hL2] at HPL HN
          obtain ⟨d0, d1, d2⟩ := cells_3 HJ.out.one.box
          obtain ⟨kd, on, ms, nn, aa, tt⟩ := s
          dsimp only [StL.val] at s0 s1 s2 s3 s4 s5 hon1 HPL
          clear hn8 hL2
          go_wp2_with fail
          go_region_law
            (first
            | (refine step_call4 (by rfl) 24 _ _ _ _ _ (by rfl) HEP.out (.pointer (some ⟨b, 0, none⟩)) (lnV (.slice a8 n8 c8) LT.1.gv LT.1.no) (.agg #[.int .i64 kd, .int .i64 on, .slice ma mn mc, .int .i64 nn, .int .i64 aa, .int .i64 tt]) (.pointer (some ⟨g6 + 1, 0, none⟩)) (by rfl) (by rfl) (by rfl) (by rfl) (HPL.out _ (below_drew (Below.refl _ _))) ?_
               rintro e w4 ⟨K', v', rv', rfl, hp⟩
               refine ⟨_, rfl, ?_⟩
               obtain ⟨a4, c4, rfl, _⟩ := fl_form hp.sit.ref
               obtain ⟨n4, hn4⟩ : ∃ z, L2.fl.length = z := ⟨_, rfl⟩
               rw [hn4] at hp ⊢
               have HD4 : Hid (Du At w (put_3 w4 g4 (.slice a4 n4 c4) (.int .i64 L2.gv) (.bool L2.no)) (g6 + 1) rv' K' L2 (.pointer (some ⟨b, 0, none⟩)) (.slice a4 n4 c4) g4 K2 LT.2 (.pointer (some ⟨g2, 0, none⟩)) v2 g6) := (HJ.out.at sv (below_drew (Below.refl _ _))).step sv hp
               have hx4 : w4.heap[g4]? = some (.cells #[.slice a8 n8 c8, .int .i64 LT.1.gv, .bool LT.1.no] 56 (0, 0)) := ((HJ.out.at sv (below_drew (Below.refl _ _))).one.step sv hp).box
               obtain ⟨p0, p1, p2⟩ := cells_3 hx4
               have fp := free_of hx4
               clear hp hn4 hx4)
            | fail)
          all_goals (
            obtain ⟨W5, hW5⟩ : ∃ z, ((w4.setCell ⟨g4, 0, none⟩ (.slice a4 n4 c4)).setCell ⟨g4, 1, none⟩ (.int .i64 L2.gv)).setCell ⟨g4, 2, none⟩ (.bool L2.no) = z := ⟨_, rfl⟩
            have HD5 : Hid (Du At w W5 (g6 + 1) rv' K' L2 (.pointer (some ⟨b, 0, none⟩)) (.slice a4 n4 c4) g4 K2 LT.2 (.pointer (some ⟨g2, 0, none⟩)) v2 g6) := by rw [← hW5]; exact HD4
            rw [hW5]
            clear d0 d1 d2 s0 s1 s2 s3 s4 s5 p0 p1 p2 fp hW5 HD4
            go_wp2_with fail
            go_roundw
            case rel => exact ⟨q + 1, K', K2, _, _, rv', by go_num, by omega, by omega, by rw [HN.out]; exact HD5⟩
            case measure => simp [intOf]; omega)
        · have hn1 : onL LT.1 LT.2 s = (LT.1, LT.2.step s) := by unfold onL; rw [if_neg hon]
          rw [hn1] at HN
          have hon1 : (s.on == 0) = false := by simpa using hon
          have HJ : Hid (Du At w wr (g6 + 1) rv K2 LT.2 (.pointer (some ⟨g2, 0, none⟩)) v2 g6 K1 LT.1 (.pointer (some ⟨b, 0, none⟩)) v1 g4) := HI.out.swap
          clear hn1 HI hon
          obtain ⟨a8, c8, rfl, _⟩ := fl_form HJ.out.one.sit.ref
          obtain ⟨n8, hn8⟩ : ∃ z, LT.2.fl.length = z := ⟨_, rfl⟩
          rw [hn8] at HJ
          obtain ⟨L2, hL2⟩ : ∃ z, LT.2.step s = z := ⟨_, rfl⟩
          have HPL : Hid (∀ w', Below wr.heap.size wr w' → _) := fun w' hb => plays_any sv w' K2 LT.2 (.pointer (some ⟨g2, 0, none⟩)) (.slice a8 n8 c8) (g6 + 1) rv s (.slice ma mn mc) (fun b => b < w.heap.size) (HJ.out.at sv hb).one.sit HGM.out.2 (MssAt.keep HEE.out.ms (Kp.of_below (trans2 HJ.out.one.below hb) _)) HWS.out
          rw [hL2] at HPL HN
          obtain ⟨d0, d1, d2⟩ := cells_3 HJ.out.one.box
          obtain ⟨kd, on, ms, nn, aa, tt⟩ := s
          dsimp only [StL.val] at s0 s1 s2 s3 s4 s5 hon1 HPL
          clear hn8 hL2
          go_wp2_with fail
          go_region_law
            (first
            | (refine step_call4 (by rfl) 24 _ _ _ _ _ (by rfl) HEP.out (.pointer (some ⟨g2, 0, none⟩)) (lnV (.slice a8 n8 c8) LT.2.gv LT.2.no) (.agg #[.int .i64 kd, .int .i64 on, .slice ma mn mc, .int .i64 nn, .int .i64 aa, .int .i64 tt]) (.pointer (some ⟨g6 + 1, 0, none⟩)) (by rfl) (by rfl) (by rfl) (by rfl) (HPL.out _ (below_drew (Below.refl _ _))) ?_
               rintro e w4 ⟨K', v', rv', rfl, hp⟩
               refine ⟨_, rfl, ?_⟩
               obtain ⟨a4, c4, rfl, _⟩ := fl_form hp.sit.ref
               obtain ⟨n4, hn4⟩ : ∃ z, L2.fl.length = z := ⟨_, rfl⟩
               rw [hn4] at hp ⊢
               have HD4 : Hid (Du At w (put_3 w4 g6 (.slice a4 n4 c4) (.int .i64 L2.gv) (.bool L2.no)) (g6 + 1) rv' K' L2 (.pointer (some ⟨g2, 0, none⟩)) (.slice a4 n4 c4) g6 K1 LT.1 (.pointer (some ⟨b, 0, none⟩)) v1 g4) := (HJ.out.at sv (below_drew (Below.refl _ _))).step sv hp
               have hx4 : w4.heap[g6]? = some (.cells #[.slice a8 n8 c8, .int .i64 LT.2.gv, .bool LT.2.no] 56 (0, 0)) := ((HJ.out.at sv (below_drew (Below.refl _ _))).one.step sv hp).box
               obtain ⟨p0, p1, p2⟩ := cells_3 hx4
               have fp := free_of hx4
               clear hp hn4 hx4)
            | fail)
          all_goals (
            obtain ⟨W5, hW5⟩ : ∃ z, ((w4.setCell ⟨g6, 0, none⟩ (.slice a4 n4 c4)).setCell ⟨g6, 1, none⟩ (.int .i64 L2.gv)).setCell ⟨g6, 2, none⟩ (.bool L2.no) = z := ⟨_, rfl⟩
            have HD5 : Hid (Du At w W5 (g6 + 1) rv' K' L2 (.pointer (some ⟨g2, 0, none⟩)) (.slice a4 n4 c4) g6 K1 LT.1 (.pointer (some ⟨b, 0, none⟩)) v1 g4) := by rw [← hW5]; exact HD4
            rw [hW5]
            clear d0 d1 d2 s0 s1 s2 s3 s4 s5 p0 p1 p2 fp hW5 HD4
            go_wp2_with fail
            go_roundw
            case rel => exact ⟨q + 1, K1, K', _, _, rv', by go_num, by omega, by omega, by rw [HN.out]; exact HD5.out.swap⟩
            case measure => simp [intOf]; omega)
      · have hqj : ¬ (q : Int) < 120 := by omega
        clear hgv hgm
        obtain ⟨a1, c1, rfl, _⟩ := fl_form HI.out.one.sit.ref
        obtain ⟨a2, c2, rfl, _⟩ := fl_form HI.out.two.sit.ref
        obtain ⟨m1, hm1⟩ : ∃ z, LT.1.fl.length = z := ⟨_, rfl⟩
        obtain ⟨m2, hm2⟩ : ∃ z, LT.2.fl.length = z := ⟨_, rfl⟩
        rw [hm1, hm2] at HI
        have HM : Hid ((LT.1.fl.map fun p => (p.n : Int)).length = m1 ∧ (LT.2.fl.map fun p => (p.n : Int)).length = m2 ∧ m1 ≤ 256 ∧ m2 ≤ 256) := ⟨by rw [List.length_map, hm1], by rw [List.length_map, hm2], by rw [← hm1]; exact HI.out.one.sit.ok.len, by rw [← hm2]; exact HI.out.two.sit.ok.len⟩
        clear hm1 hm2
        go_wp2_with fail
        refine Calls.mono (sv.numbers _ _ _ _ HI.out.one.sit.at' HI.out.one.sit.ok) ?_
        rintro e w6 ⟨u6, K6, rfl, hu6, hk6, hE6⟩
        obtain ⟨ua6, uc6, rfl, _⟩ := row_form hu6
        rw [HM.out.1]
        have H6 : Hid (Du At w w6 (g6 + 1) rv K6 LT.1 (.pointer (some ⟨b, 0, none⟩)) (.slice a1 m1 c1) g4 K2 LT.2 (.pointer (some ⟨g2, 0, none⟩)) (.slice a2 m2 c2) g6) := numbers_of sv HI.out hE6
        have HU6 : Hid (InsOwn w6 wr.heap.size (.slice ua6 m1 uc6) (LT.1.fl.map fun p => (p.n : Int))) := by rw [← HM.out.1]; exact hu6
        clear hu6 hk6 hE6
        go_wp2_with fail
        refine Calls.mono (sv.numbers _ _ _ _ H6.out.two.sit.at' H6.out.two.sit.ok) ?_
        rintro e w7 ⟨u7, K7, rfl, hu7, hk7, hE7⟩
        obtain ⟨ua7, uc7, rfl, _⟩ := row_form hu7
        rw [HM.out.2.1]
        have H7 : Hid (Du At w w7 (g6 + 1) rv K6 LT.1 (.pointer (some ⟨b, 0, none⟩)) (.slice a1 m1 c1) g4 K7 LT.2 (.pointer (some ⟨g2, 0, none⟩)) (.slice a2 m2 c2) g6) := (numbers_of sv H6.out.swap hE7).swap
        have HU7 : Hid (IntsAt w7 (fun _ => True) (.slice ua7 m2 uc7) (LT.2.fl.map fun p => (p.n : Int))) := by rw [← HM.out.2.1]; exact ins_at hu7 (fun _ _ => trivial)
        have HU67 : Hid (IntsAt w7 (fun _ => True) (.slice ua6 m1 uc6) (LT.1.fl.map fun p => (p.n : Int))) := ins_at (row_chg HU6.out hE7.chg (fun j hj hk => by have h1 := (row_block HU6.out j hj).1; have h2 := sv.lt HI.out.two.sit.at' j hk; omega)) (fun _ _ => trivial)
        have HR1 : Hid (∀ w', Below w7.heap.size w7 w' → _) := fun w' hb => refNumbers_any LT.1.fl LT.1.gv LT.1.no (.slice a1 m1 c1) w' (owns_below H7.out.one.sit.ref hb) H7.out.one.sit.ok.len
        have HR2 : Hid (∀ w', Below w7.heap.size w7 w' → _) := fun w' hb => refNumbers_any LT.2.fl LT.2.gv LT.2.no (.slice a2 m2 c2) w' (owns_below H7.out.two.sit.ref hb) H7.out.two.sit.ok.len
        obtain ⟨x0, x1, x2⟩ := cells_3 H7.out.one.box
        clear hu7 hk7 hE7
        go_wp2_with fail
        refine Calls.mono (HR1.out _ (Below.refl _ _)) ?_
        rintro e w8 ⟨u8, rfl, hu8, hb8⟩
        obtain ⟨ua8, uc8, rfl, _⟩ := row_form hu8
        rw [HM.out.1]
        have HU8 : Hid (IntsAt w8 (fun _ => True) (.slice ua8 m1 uc8) (LT.1.fl.map fun p => (p.n : Int))) := by rw [← HM.out.1]; exact ins_at hu8 (fun _ _ => trivial)
        have HB8 : Hid (Below w7.heap.size w7 w8) := hb8
        clear hu8 hb8 x0 x1 x2
        go_wp2_with fail
        refine Calls.mono (ints_same (LT.1.fl.map fun p => (p.n : Int)) _ _ _ _ _ (IntsAt.keep HU67.out (Kp.of_below HB8.out _)) HU8.out (by rw [HM.out.1]; exact Nat.le_trans HM.out.2.2.1 (by decide))) ?_
        rintro e w9 ⟨rfl, hb9⟩
        have HB9 : Hid (Below w7.heap.size w7 w9) := trans2 HB8.out hb9
        obtain ⟨x0, x1, x2⟩ := cells_3 (kept_block HB9.out H7.out.two.box)
        clear hb9
        go_wp2_with fail
        refine Calls.mono (HR2.out _ HB9.out) ?_
        rintro e w10 ⟨u10, rfl, hu10, hb10⟩
        obtain ⟨ua10, uc10, rfl, _⟩ := row_form hu10
        rw [HM.out.2.1]
        have HU10 : Hid (IntsAt w10 (fun _ => True) (.slice ua10 m2 uc10) (LT.2.fl.map fun p => (p.n : Int))) := by rw [← HM.out.2.1]; exact ins_at hu10 (fun _ _ => trivial)
        have HB10 : Hid (Below w7.heap.size w7 w10) := trans2 HB9.out hb10
        clear hu10 hb10 x0 x1 x2
        go_wp2_with fail
        refine Calls.mono (ints_same (LT.2.fl.map fun p => (p.n : Int)) _ _ _ _ _ (IntsAt.keep HU7.out (Kp.of_below HB10.out _)) HU10.out (by rw [HM.out.2.1]; exact Nat.le_trans HM.out.2.2.2 (by decide))) ?_
        rintro e w11 ⟨rfl, hb11⟩
        have HB11 : Hid (Below w7.heap.size w7 w11) := trans2 HB10.out hb11
        clear hb11
        go_wp2_with fail
        refine Calls.mono (HKN.out _) ?_
        rintro e w12 ⟨rfl, hb12⟩
        have HB12 : Hid (Below w.heap.size w w12) := trans2 H7.out.one.below (trans2 HB11.out hb12)
        clear hb12
        go_wp2_with fail
        go_ret
        exact ⟨rfl, HB12.out⟩
    · obtain rfl : q = sn := by omega
      have hge : ¬ (q : Int) < (q : Int) := by omega
      clear hgv hgm
      obtain ⟨a1, c1, rfl, _⟩ := fl_form HI.out.one.sit.ref
      obtain ⟨a2, c2, rfl, _⟩ := fl_form HI.out.two.sit.ref
      obtain ⟨m1, hm1⟩ : ∃ z, LT.1.fl.length = z := ⟨_, rfl⟩
      obtain ⟨m2, hm2⟩ : ∃ z, LT.2.fl.length = z := ⟨_, rfl⟩
      rw [hm1, hm2] at HI
      have HM : Hid ((LT.1.fl.map fun p => (p.n : Int)).length = m1 ∧ (LT.2.fl.map fun p => (p.n : Int)).length = m2 ∧ m1 ≤ 256 ∧ m2 ≤ 256) := ⟨by rw [List.length_map, hm1], by rw [List.length_map, hm2], by rw [← hm1]; exact HI.out.one.sit.ok.len, by rw [← hm2]; exact HI.out.two.sit.ok.len⟩
      clear hm1 hm2
      go_wp2_with fail
      refine Calls.mono (sv.numbers _ _ _ _ HI.out.one.sit.at' HI.out.one.sit.ok) ?_
      rintro e w6 ⟨u6, K6, rfl, hu6, hk6, hE6⟩
      obtain ⟨ua6, uc6, rfl, _⟩ := row_form hu6
      rw [HM.out.1]
      have H6 : Hid (Du At w w6 (g6 + 1) rv K6 LT.1 (.pointer (some ⟨b, 0, none⟩)) (.slice a1 m1 c1) g4 K2 LT.2 (.pointer (some ⟨g2, 0, none⟩)) (.slice a2 m2 c2) g6) := numbers_of sv HI.out hE6
      have HU6 : Hid (InsOwn w6 wr.heap.size (.slice ua6 m1 uc6) (LT.1.fl.map fun p => (p.n : Int))) := by rw [← HM.out.1]; exact hu6
      clear hu6 hk6 hE6
      go_wp2_with fail
      refine Calls.mono (sv.numbers _ _ _ _ H6.out.two.sit.at' H6.out.two.sit.ok) ?_
      rintro e w7 ⟨u7, K7, rfl, hu7, hk7, hE7⟩
      obtain ⟨ua7, uc7, rfl, _⟩ := row_form hu7
      rw [HM.out.2.1]
      have H7 : Hid (Du At w w7 (g6 + 1) rv K6 LT.1 (.pointer (some ⟨b, 0, none⟩)) (.slice a1 m1 c1) g4 K7 LT.2 (.pointer (some ⟨g2, 0, none⟩)) (.slice a2 m2 c2) g6) := (numbers_of sv H6.out.swap hE7).swap
      have HU7 : Hid (IntsAt w7 (fun _ => True) (.slice ua7 m2 uc7) (LT.2.fl.map fun p => (p.n : Int))) := by rw [← HM.out.2.1]; exact ins_at hu7 (fun _ _ => trivial)
      have HU67 : Hid (IntsAt w7 (fun _ => True) (.slice ua6 m1 uc6) (LT.1.fl.map fun p => (p.n : Int))) := ins_at (row_chg HU6.out hE7.chg (fun j hj hk => by have h1 := (row_block HU6.out j hj).1; have h2 := sv.lt HI.out.two.sit.at' j hk; omega)) (fun _ _ => trivial)
      have HR1 : Hid (∀ w', Below w7.heap.size w7 w' → _) := fun w' hb => refNumbers_any LT.1.fl LT.1.gv LT.1.no (.slice a1 m1 c1) w' (owns_below H7.out.one.sit.ref hb) H7.out.one.sit.ok.len
      have HR2 : Hid (∀ w', Below w7.heap.size w7 w' → _) := fun w' hb => refNumbers_any LT.2.fl LT.2.gv LT.2.no (.slice a2 m2 c2) w' (owns_below H7.out.two.sit.ref hb) H7.out.two.sit.ok.len
      obtain ⟨x0, x1, x2⟩ := cells_3 H7.out.one.box
      clear hu7 hk7 hE7
      go_wp2_with fail
      refine Calls.mono (HR1.out _ (Below.refl _ _)) ?_
      rintro e w8 ⟨u8, rfl, hu8, hb8⟩
      obtain ⟨ua8, uc8, rfl, _⟩ := row_form hu8
      rw [HM.out.1]
      have HU8 : Hid (IntsAt w8 (fun _ => True) (.slice ua8 m1 uc8) (LT.1.fl.map fun p => (p.n : Int))) := by rw [← HM.out.1]; exact ins_at hu8 (fun _ _ => trivial)
      have HB8 : Hid (Below w7.heap.size w7 w8) := hb8
      clear hu8 hb8 x0 x1 x2
      go_wp2_with fail
      refine Calls.mono (ints_same (LT.1.fl.map fun p => (p.n : Int)) _ _ _ _ _ (IntsAt.keep HU67.out (Kp.of_below HB8.out _)) HU8.out (by rw [HM.out.1]; exact Nat.le_trans HM.out.2.2.1 (by decide))) ?_
      rintro e w9 ⟨rfl, hb9⟩
      have HB9 : Hid (Below w7.heap.size w7 w9) := trans2 HB8.out hb9
      obtain ⟨x0, x1, x2⟩ := cells_3 (kept_block HB9.out H7.out.two.box)
      clear hb9
      go_wp2_with fail
      refine Calls.mono (HR2.out _ HB9.out) ?_
      rintro e w10 ⟨u10, rfl, hu10, hb10⟩
      obtain ⟨ua10, uc10, rfl, _⟩ := row_form hu10
      rw [HM.out.2.1]
      have HU10 : Hid (IntsAt w10 (fun _ => True) (.slice ua10 m2 uc10) (LT.2.fl.map fun p => (p.n : Int))) := by rw [← HM.out.2.1]; exact ins_at hu10 (fun _ _ => trivial)
      have HB10 : Hid (Below w7.heap.size w7 w10) := trans2 HB9.out hb10
      clear hu10 hb10 x0 x1 x2
      go_wp2_with fail
      refine Calls.mono (ints_same (LT.2.fl.map fun p => (p.n : Int)) _ _ _ _ _ (IntsAt.keep HU7.out (Kp.of_below HB10.out _)) HU10.out (by rw [HM.out.2.1]; exact Nat.le_trans HM.out.2.2.2 (by decide))) ?_
      rintro e w11 ⟨rfl, hb11⟩
      have HB11 : Hid (Below w7.heap.size w7 w11) := trans2 HB10.out hb11
      clear hb11
      go_wp2_with fail
      refine Calls.mono (HKN.out _) ?_
      rintro e w12 ⟨rfl, hb12⟩
      have HB12 : Hid (Below w.heap.size w w12) := trans2 H7.out.one.below (trans2 HB11.out hb12)
      clear hb12
      go_wp2_with fail
      go_ret
      exact ⟨rfl, HB12.out⟩
end Go.Proofs.Ytfcobhgjkibdgaa
