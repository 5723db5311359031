/-
  ring: all, and where its lists lie.
-/
import Derived.Test.YtnmengoefpdaiaaRAllN
import Derived.Maps.OwnIn
namespace Go.Proofs.Ytnmengoefpdaiaa
open Go.RowKit Go.Shelf
set_option linter.unusedVariables false
set_option linter.unusedSimpArgs false
attribute [local go_sem] Oper.semAt_some

/-- Lists of ops from B on, each in a block of its own. -/
structure NdP (B : Nat) (P : List PEnt) : Prop where
  lo : ∀ p ∈ P, ∀ k, p.x.ownBlock = some k → B ≤ k
  nd : ∀ (i j : Nat) (p q : PEnt) (k : Nat), P[i]? = some p → P[j]? = some q → p.x.ownBlock = some k → q.x.ownBlock = some k → i = j
theorem NdP.nil (B : Nat) : NdP B [] := ⟨(fun p hp => by cases hp), fun i j p q k h => by simp at h⟩
theorem NdP.push {B : Nat} {P : List PEnt} (h : NdP B P) {e : EnT} {x : Value} (hf : ∀ k, x.ownBlock = some k → B ≤ k ∧ ∀ y ∈ P, y.x.ownBlock ≠ some k) : NdP B (P ++ [⟨e, x⟩]) := by
  have hat : ∀ {k : Nat} {y : PEnt}, (P ++ [(⟨e, x⟩ : PEnt)])[k]? = some y → P[k]? = some y ∨ (k = P.length ∧ y = ⟨e, x⟩) := fun {k y} hy => by
    rcases Nat.lt_or_ge k P.length with hk | hk
    · rw [List.getElem?_append_left hk] at hy; exact .inl hy
    · rw [List.getElem?_append_right hk] at hy
      cases hkk : k - P.length with
      | zero => rw [hkk] at hy; simp at hy; exact .inr ⟨by omega, hy.symm⟩
      | succ n => rw [hkk] at hy; simp at hy
  refine ⟨fun y hy k hk => ?_, fun i j a c b ha hc hab hcb => ?_⟩
  · rcases List.mem_append.1 hy with hy | hy
    · exact h.lo y hy k hk
    · rw [List.mem_singleton] at hy
      subst hy
      exact (hf k hk).1
  · rcases hat ha with ha' | ⟨ia, ea⟩
    · rcases hat hc with hc' | ⟨jc, ec⟩
      · exact h.nd i j a c b ha' hc' hab hcb
      · rw [ec] at hcb
        exact absurd hab ((hf b hcb).2 a (List.mem_of_getElem? ha'))
    · rw [ea] at hab
      rcases hat hc with hc' | ⟨jc, ec⟩
      · exact absurd hcb ((hf b hab).2 c (List.mem_of_getElem? hc'))
      · omega
theorem NdP.nde {B : Nat} {P : List PEnt} {v : Value} (h : NdP B P) (hv : ∀ k, v.ownBlock = some k → B ≤ k) : NdE B v P := ⟨h.lo, h.nd, hv⟩
/-- all, under way: these are in the list. -/
structure AllJN (w : World) (p : Option Addr) (R : RingT) (lv : Value) (P : List PEnt) (q : Nat) (M : Nat → Prop) (W : World) : Prop where
  b0 : W.heap[w.heap.size]? = some (.cells #[.slice none 0 0] 27 (0, 0))
  b1 : W.heap[w.heap.size + 1]? = some (.cells #[.bool false] 4 (0, 0))
  bl : W.heap[w.heap.size + 1 + 1]? = some (.cells #[lv] 27 (0, 0))
  bb : W.heap[w.heap.size + 1 + 1 + 1]? = some (.cells #[.pointer p] 24 (0, 0))
  len : P.length = q
  es : P.map (·.e) = R.l.take q
  row : W.ownsRow w.heap.size 38 6 lv q (rowCs PEnt.cells P)
  ops : ∀ x ∈ P, OwnOps W x.x x.e.ops
  m : ∀ k, M k ↔ (k = w.heap.size + 1 + 1 ∨ lv.ownBlock = some k)
  rp : RP W p R
  fr : Below w.heap.size w W
  nd : NdP w.heap.size P
variable {w : World} {p : Option Addr} {R : RingT}
theorem AllJN.below {lv : Value} {P : List PEnt} {q : Nat} {M : Nat → Prop} {W W' : World} (h : AllJN w p R lv P q M W) (hb : Below W.heap.size W W') : AllJN w p R lv P q M W' :=
  ⟨kept_block hb h.b0, kept_block hb h.b1, kept_block hb h.bl, kept_block hb h.bb, h.len, h.es, owns_below h.row hb, fun x hx => owns_below (h.ops x hx) hb, h.m, h.rp.below hb, h.fr.trans (hb.mono h.fr.size), h.nd⟩
theorem AllJN.grown {lv : Value} {P : List PEnt} {q : Nat} {M : Nat → Prop} {W W' : World} {row : Option Nat} {B : Nat} (h : AllJN w p R lv P q M W) (hB : w.heap.size ≤ B) (hg : W.grownBy W' row) (hr : ∀ r, row = some r → B ≤ r ∧ ∃ o : Obj, W.heap[r]? = some o ∧ o.isCells = false) : AllJN w p R lv P q M W' := by
  have hk : Kp NoB W W' := (Kp.refl _ _).grown hg hr
  have no : ∀ k, ¬ NoB k := fun _ h => h
  exact ⟨hk.cells _ _ _ _ h.b0 (no _), hk.cells _ _ _ _ h.b1 (no _), hk.cells _ _ _ _ h.bl (no _), hk.cells _ _ _ _ h.bb (no _), h.len, h.es, owns_kp h.row hk (fun _ _ => no _), fun x hx => owns_kp (h.ops x hx) hk (fun _ _ => no _), h.m, h.rp.kp hk (fun _ _ => no _) (fun _ _ _ _ => no _), h.fr.trans ⟨hg.os, hg.tape, hg.output, hg.size, fun k hk' => hg.block k (Nat.lt_of_lt_of_le hk' h.fr.size) (fun e => by have := (hr k e.symm).1; omega)⟩, h.nd⟩

theorem AllJN.kp {lv : Value} {P : List PEnt} {q : Nat} {M : Nat → Prop} {W W' : World} (h : AllJN w p R lv P q M W) (hk : Kp NoB W W') (hf : Below w.heap.size w W') : AllJN w p R lv P q M W' := by
  have no : ∀ k, ¬ NoB k := fun _ h => h
  exact ⟨hk.cells _ _ _ _ h.b0 (no _), hk.cells _ _ _ _ h.b1 (no _), hk.cells _ _ _ _ h.bl (no _), hk.cells _ _ _ _ h.bb (no _), h.len, h.es, owns_kp h.row hk (fun _ _ => no _), fun x hx => owns_kp (h.ops x hx) hk (fun _ _ => no _), h.m, h.rp.kp hk (fun _ _ => no _) (fun _ _ _ _ => no _), hf, h.nd⟩
/-- One more in the list. -/
theorem AllJN.put {lv v' : Value} {P : List PEnt} {q : Nat} {M : Nat → Prop} {W w1 : World} {e : EnT} {x : Value} {o : Obj} (h : AllJN w p R lv P q M W) (he : R.l[q]? = some e) (ho : OwnOps W x e.ops) (hfr : ∀ k, x.ownBlock = some k → w.heap.size ≤ k ∧ ∀ y ∈ P, y.x.ownBlock ≠ some k)
    (hrow : w1.ownsRow w.heap.size 38 6 v' (q + 1) (rowCs PEnt.cells P ++ PEnt.cells ⟨e, x⟩)) (hg : (W.alloc o).grownBy w1 lv.ownBlock) (hat : v'.ownBlock = lv.ownBlock ∨ v'.ownBlock = some (W.heap.size + 1)) :
    AllJN w p R v' (P ++ [⟨e, x⟩]) (q + 1) (fun k => k = w.heap.size + 1 + 1 ∨ v'.ownBlock = some k) (w1.setCell ⟨w.heap.size + 1 + 1, 0, none⟩ v') ∧ Kp M W (w1.setCell ⟨w.heap.size + 1 + 1, 0, none⟩ v') ∧ KeepsOthers W (w1.setCell ⟨w.heap.size + 1 + 1, 0, none⟩ v') ∧ w1.heap[w.heap.size + 1 + 1]? = some (.cells #[lv] 27 (0, 0)) ∧ (∀ k, v'.ownBlock = some k → lv.ownBlock = some k ∨ W.heap.size ≤ k) := by
  have hlk : ∀ k, lv.ownBlock = some k → w.heap.size ≤ k ∧ ∃ cur : Array Value, W.heap[k]? = some (.cells cur 38 (0, 0)) := fun k hk => ⟨(h.row.lt k hk).1, owns_kind h.row hk⟩
  have hc1 : Chg W w1 (fun k => lv.ownBlock = some k) := ((Chg.alloc W o _).trans (Chg.grown hg))
  have hbl1 : w1.heap[w.heap.size + 1 + 1]? = some (.cells #[lv] 27 (0, 0)) := by
    rw [hc1.block _ (lt_of_blk h.bl) (fun e => ?_)]
    · exact h.bl
    · obtain ⟨_, cur, hc⟩ := hlk _ e
      rw [h.bl] at hc
      cases hc
  have hc2 : Chg W (w1.setCell ⟨w.heap.size + 1 + 1, 0, none⟩ v') M := (hc1.mono (fun k _ e => (h.m k).2 (.inr e))).trans ((chg_set1 w1 (w.heap.size + 1 + 1) 0 v').mono (fun k _ e => (h.m k).2 (.inl e)))
  have hM : ∀ k, M k → ∃ (cur : Array Value) (t : TypeId), W.heap[k]? = some (.cells cur t (0, 0)) ∧ (t = 38 ∨ t = 27) ∧ w.heap.size ≤ k := fun k hk => by
    rcases (h.m k).1 hk with rfl | e
    · exact ⟨_, _, h.bl, .inr rfl, by omega⟩
    · obtain ⟨h1, cur, hc⟩ := hlk _ e
      exact ⟨_, _, hc, .inl rfl, h1⟩
  have no : ∀ {k : Nat} {cs : Array Value} {t : TypeId} {fr : Nat × Nat}, W.heap[k]? = some (.cells cs t fr) → t ≠ 38 → t ≠ 27 → ¬ M k := fun hk h1 h2 hm => by
    obtain ⟨cur, t', hc, ht, _⟩ := hM _ hm
    rw [hk] at hc
    cases hc
    rcases ht with ht | ht
    · exact h1 ht
    · exact h2 ht
  have noO : ∀ {y : Value} {ops : List OpT}, OwnOps W y ops → ∀ k, y.ownBlock = some k → ¬ M k := fun hy k hk => by
    obtain ⟨cur, hc⟩ := owns_kind hy hk
    exact no hc (by decide) (by decide)
  have noM : ∀ {k : Nat}, k ≠ w.heap.size + 1 + 1 → lv.ownBlock ≠ some k → ¬ M k := fun h1 h2 hm => ((h.m _).1 hm).elim h1 h2
  have hl0 : lv.ownBlock ≠ some w.heap.size := fun e => by obtain ⟨_, cur, hc⟩ := hlk _ e; rw [h.b0] at hc; cases hc
  refine ⟨⟨?_, ?_, ?_, ?_, ?_, ?_, ?_, ?_, fun k => Iff.rfl, ?_, ?_, h.nd.push hfr⟩, Kp.of_chg hc2, ?_, hbl1, fun k hk => ?_⟩
  · rw [hc2.block _ (lt_of_blk h.b0) (noM (by omega) hl0)]; exact h.b0
  · rw [hc2.block _ (lt_of_blk h.b1) (no h.b1 (by decide) (by decide))]; exact h.b1
  · exact same_blk hbl1 rfl
  · rw [hc2.block _ (lt_of_blk h.bb) (no h.bb (by decide) (by decide))]; exact h.bb
  · rw [List.length_append, h.len]; rfl
  · rw [take_at he, List.map_append, h.es]; rfl
  · rw [rowCs_append]
    have e1 : rowCs PEnt.cells [(⟨e, x⟩ : PEnt)] = PEnt.cells ⟨e, x⟩ := by simp [rowCs]
    rw [e1]
    refine owns_same hrow (fun k hk => Below.heap_setCell _ _ _ k (fun e => ?_))
    obtain ⟨cur, hc⟩ := owns_kind hrow hk
    rw [show k = w.heap.size + 1 + 1 from e, hbl1] at hc
    cases hc
  · intro y hy
    rcases List.mem_append.1 hy with hy | hy
    · exact owns_chg (h.ops y hy) hc2 (noO (h.ops y hy))
    · rw [List.mem_singleton] at hy
      subst hy
      exact owns_chg ho hc2 (noO ho)
  · exact h.rp.kp (Kp.of_chg hc2) (fun b hb => by obtain ⟨_, cs, hcs⟩ := h.rp.lt hb; exact no hcs (by decide) (by decide)) (fun k cs fr hk => no hk (by decide) (by decide))
  · exact h.fr.trans (hc2.below h.fr.size (fun k _ hm => by obtain ⟨_, _, _, _, hle⟩ := hM k hm; exact hle))
  · refine ⟨hc2.size, fun k o' hk ho' => ?_⟩
    rw [hc2.block k (lt_of_blk hk) (fun hm => ?_)]
    · exact hk
    · obtain ⟨cur, t, hc, _⟩ := hM k hm
      rw [hk] at hc
      cases hc
      cases ho'
  · rcases hat with e | e
    · exact .inl (by rw [← e]; exact hk)
    · rw [e] at hk
      cases hk
      exact .inr (by omega)
set_option maxRecDepth 100000 in
set_option maxHeartbeats 6400000 in
theorem all_anyN (p : Option Addr) (R : RingT) (w : World) (h : RP w p R) :
    Calls Try.prog 6 #[.pointer p] w fun e w' => ∃ v P, e = .returned (.tuple #[v, .bool true]) ∧ P.map (·.e) = R.l ∧ EntsAt w' v P ∧ NdE w.heap.size v P ∧ Below w.heap.size w w' := by
  have HX : Hid (RP w p R) := h
  have heq := eql_func_nil
  obtain ⟨i0, hi, hz0, hz1, hz2⟩ := info_parts Try.infoEn
  clear h
  refine (callsIn_wide (n := 3)).1 ?_
  refine callsIn_of_wp_marks Try.func6 rfl trivial ?_ rfl
  simp only [Try.ntmps6, List.size_toArray, List.length_cons, List.length_nil, Nat.reduceAdd, Nat.reduceSub, Array.replicate_succ, Array.replicate_zero, List.push_toArray, List.append_toArray, List.nil_append, List.cons_append]
  gi_wp2_with (refine ⟨trivial, ?_⟩; gi_at_call 20; refine (callsIn_wide.2 (all_func _ _)).mono ?_; rintro e w' ⟨rfl, rfl⟩)
  obtain ⟨W0, hW0⟩ : ∃ W0, ((((w.alloc (.cells #[.slice none 0 0] 27)).alloc (.cells #[.bool false] 4)).alloc (.cells #[.slice none 0 0] 27)).alloc (.cells #[.pointer p] 24)) = W0 := ⟨_, rfl⟩
  have hb0 : Below w.heap.size w W0 := by rw [← hW0]; exact ((((Below.refl _ w).alloc (Nat.le_refl _) _).alloc (by simp) _).alloc (by simp; omega) _).alloc (by simp; omega) _
  have HJ0 : Hid (AllJN w p R (.slice none 0 0) [] 0 (fun k => k = w.heap.size + 1 + 1) W0) := by
    refine ⟨?_, ?_, ?_, ?_, rfl, rfl, World.ownsRow_nil _ _ _ _, fun x hx => (by cases hx), fun k => ⟨fun h => .inl h, fun h => h.elim id (fun h => (by cases h))⟩, HX.out.below hb0, hb0, NdP.nil _⟩
    · rw [← hW0]; exact new_old (new_old (new_old (heap_alloc_new _ _) _) _) _
    · rw [← hW0]; exact new_old (new_old (heap_new' (by simp)) _) _
    · rw [← hW0]; exact new_old (heap_new' (by simp)) _
    · rw [← hW0]; exact heap_new' (by simp)
  have hsz : W0.heap.size = w.heap.size + 1 + 1 + 1 + 1 := by rw [← hW0]; simp
  have hB0 : w.heap.size ≤ W0.heap.size := by omega
  rw [hW0]
  refine wpIn_range_sa (σ := AllS) (α := Value × World) rfl (by decide) (gf := 34) (lb := #[.pointer (some ⟨w.heap.size + 1 + 1 + 1, 0, none⟩)]) rfl trivial (enters_of Try.func34 (by kernel_rfl) rfl)
    (encs := fun x => #[x.1]) (fun _ => rfl)
    (I := AllI (fun q M W => ∃ lv P, AllJN w p R lv P q M W)) (Y := AllYG R (fun q M W => ∃ lv P, AllJN w p R lv P q M W)) (N := AllN) (X := fun _ _ => False) (E := fun W => ∃ lv P M, AllJN w p R lv P R.l.length M W) (s0 := (0, W0, fun k => k = w.heap.size + 1 + 1))
    (all_seqG _ p R (w.heap.size + 1 + 1 + 1) _ (fun k => k = w.heap.size + 1 + 1) _ _ _ W0 ?ej ?byy) ?oI ?oY ?oX ?oE ?st
    (A := fun s x a' W => ∃ ge e v lv P, R.l[s.1]? = some e ∧ x.1 = e.val v ∧ OwnOps W v e.ops ∧ W.heap[ge]? = some (.cells #[.int .i64 e.s, .int .i64 e.v, .int .i64 e.k, .int .i64 e.se, .int .i64 e.rq, v] 38 (0, 0)) ∧ W0.heap.size ≤ ge ∧ Kp NoB x.2 W ∧ AllJN w p R lv P s.1 s.2.2 W ∧ (∀ k, v.ownBlock = some k → w.heap.size ≤ k ∧ ∀ y ∈ P, y.x.ownBlock ≠ some k) ∧ a' = { tmps := #[.pointer p, undef, .pointer (some ⟨w.heap.size, 0, none⟩), .pointer (some ⟨w.heap.size + 1, 0, none⟩), .pointer (some ⟨w.heap.size + 1 + 1, 0, none⟩), .func (.func 34) #[] #[.pointer (some ⟨w.heap.size + 1 + 1 + 1, 0, none⟩)], .pointer (some ⟨ge, 0, none⟩), .pointer p, .func (.func 34) #[] #[.pointer (some ⟨w.heap.size + 1 + 1 + 1, 0, none⟩)], .func (.func 34) #[] #[.pointer (some ⟨w.heap.size + 1 + 1 + 1, 0, none⟩)], .bool false, .func (.func 34) #[] #[.pointer (some ⟨w.heap.size + 1 + 1 + 1, 0, none⟩)], x.1, undef, undef, undef, undef, undef, undef, undef, undef, undef], defers := [] }) ?oA ?assign ?body ?done ?stop
  case ej => exact fun M W ⟨lv, P, h⟩ => ⟨lv, P, M, h⟩
  case byy =>
    refine ⟨fun W ⟨lv, P, h⟩ => (by rw [cell_blk h.bb]; rfl), fun W ⟨lv, P, h⟩ => h.rp, fun W ⟨lv, P, h⟩ k hk => ?_, fun q M W W' ⟨lv, P, h⟩ hb => ⟨lv, P, h.below hb⟩⟩
    subst hk
    refine ⟨lt_of_blk h.bl, fun cs t fr he => ?_⟩
    rw [h.bl] at he
    cases he
    decide
  case oI => exact fun s A C row hs hg hr => ⟨hs.1.grown hg hr, by obtain ⟨lv, P, h⟩ := hs.2; exact ⟨lv, P, h.grown hB0 hg hr⟩⟩
  case oY =>
    intro s x _ A C row hs hg hr
    obtain ⟨h1, ⟨lv, P, h2⟩, e, v, h3, h4, h5, V, h6, h7, h8⟩ := hs
    exact ⟨h1.grown hg hr, ⟨lv, P, h2.grown hB0 hg hr⟩, e, v, h3, h4, owns_kp h5 ((Kp.refl NoB _).grown hg hr) (fun _ _ h => h), V, h6, h7.grown hg hr, h8⟩
  case oX => exact fun _ _ _ _ h => h.elim
  case oE => exact fun _ A C row ⟨lv, P, M, h⟩ hg hr => ⟨lv, P, M, h.grown hB0 hg hr⟩
  case st => exact ⟨Kp.refl _ _, _, _, HJ0.out⟩
  case oA =>
    intro s x a' _ A C row hs hg hr
    obtain ⟨ge, e, v, lv, P, h1, h2, h3, h4, h5, h6, h7, h9, h8⟩ := hs
    have hk : Kp NoB A C := (Kp.refl NoB _).grown hg hr
    exact ⟨ge, e, v, lv, P, h1, h2, owns_kp h3 hk (fun _ _ h => h), hk.cells _ _ _ _ h4 (fun h => h), h5, h6.grown hg hr, h7.grown hB0 hg hr, h9, h8⟩
  case assign =>
    rintro l s ⟨x1, U⟩ W K ⟨h1, ⟨lv0, P0, h20⟩, e, v, h3, h4, h5, V, ⟨lv, P, hV⟩, hkV, hfV⟩ hK
    simp only at h1 h20 h3 h4 h5 hV hkV hfV
    have h2 := hV.kp hkV h20.fr
    have hfr : ∀ k, v.ownBlock = some k → w.heap.size ≤ k ∧ ∀ y ∈ P, y.x.ownBlock ≠ some k := fun k hk => ⟨Nat.le_trans hV.fr.size (hfV k hk), fun y hy e' => by have h8 := ((hV.ops y hy).lt k e').2; have h9 := hfV k hk; omega⟩
    have HFR : Hid (∀ k, v.ownBlock = some k → w.heap.size ≤ k ∧ ∀ y ∈ P, y.x.ownBlock ≠ some k) := hfr
    clear hV hkV hfV h20 hfr
    subst h4
    obtain ⟨va, vc, rfl, -, -⟩ := owns_form h5
    have HK : Hid (∀ a' W', _ → KeepsFrom W0.heap.size W W' → K a' W') := hK
    have H1 : Hid (Kp NoB U W) := h1
    have H2 : Hid (AllJN w p R lv P s.1 s.2.2 W) := h2
    have H3 : Hid (R.l[s.1]? = some e) := h3
    have H5 : Hid (OwnOps W (.slice va e.ops.length vc) e.ops) := h5
    clear hK h1 h2 h3 h5 heq
    gi_wp2
    have hbW : Below W.heap.size W (W.alloc (.cells #[.int .i64 e.s, .int .i64 e.v, .int .i64 e.k, .int .i64 e.se, .int .i64 e.rq, .slice va e.ops.length vc] 38)) := (Below.refl _ _).alloc (Nat.le_refl _) _
    refine HK.out _ _ ⟨W.heap.size, e, .slice va e.ops.length vc, lv, P, H3.out, rfl, owns_below H5.out hbW, heap_alloc_new _ _, ?_, H1.out.trans (Kp.of_below hbW _), H2.out.below hbW, HFR.out, rfl⟩ (keeps_below hbW _)
    have := lt_of_blk H2.out.bb
    omega
  case body =>
    rintro l ⟨q, V, M⟩ ⟨x1, U⟩ a' W hlB ⟨r, hr⟩ ⟨ge, e, v, lv, P, h1, h2, h3, h4, h5, h6, h7, hfr, rfl⟩
    simp only at h1 h2 h6 h7 hfr
    subst h2
    have HFR : Hid (∀ k, v.ownBlock = some k → w.heap.size ≤ k ∧ ∀ y ∈ P, y.x.ownBlock ≠ some k) := hfr
    clear hfr
    obtain ⟨va, vc, rfl, -, -⟩ := owns_form h3
    have hq : q < R.l.length := (List.getElem?_eq_some_iff.1 h1).1
    have hq64 : q < 64 := by have h8 := h7.rp.small.1; omega
    obtain ⟨la, lc, rfl, -, -⟩ := owns_form h7.row
    have c0 : W.cell? ⟨w.heap.size + 1 + 1, 0, none⟩ = some (.slice la q lc) := by rw [cell_blk h7.bl]; rfl
    have f0 := free_blk h7.bl
    obtain ⟨e0, e1, e2, e3, e4, e5⟩ := cells_6 h4
    have HT : Hid (AllJN w p R (.slice la q lc) P q M W) := h7
    have H1 : Hid (R.l[q]? = some e) := h1
    have H3 : Hid (OwnOps W (.slice va e.ops.length vc) e.ops) := h3
    have H6 : Hid (Kp NoB U W) := h6
    have HW : Hid (w.heap.size ≤ W.heap.size) := h7.fr.size
    clear h1 h3 h4 h5 h6 h7 heq
    have HR0 : Hid ((W.alloc (.cells #[.int .i64 e.s, .int .i64 e.v, .int .i64 e.k, .int .i64 e.se, .int .i64 e.rq, .slice va e.ops.length vc] 38)).ownsRow w.heap.size 38 6 (.slice la q lc) q (rowCs PEnt.cells P)) := HT.out.row.alloc _
    have HC0 : Hid (∀ j u, [Value.int .i64 e.s, .int .i64 e.v, .int .i64 e.k, .int .i64 e.se, .int .i64 e.rq, .slice va e.ops.length vc][j]? = some u → (W.alloc (.cells #[.int .i64 e.s, .int .i64 e.v, .int .i64 e.k, .int .i64 e.se, .int .i64 e.rq, .slice va e.ops.length vc] 38)).cell? ((⟨W.heap.size, 0, none⟩ : Addr).add j) = some u) := cells_new W [.int .i64 e.s, .int .i64 e.v, .int .i64 e.k, .int .i64 e.se, .int .i64 e.rq, .slice va e.ops.length vc] 38
    have H1C : Hid (∀ u ∈ [Value.int .i64 e.s, .int .i64 e.v, .int .i64 e.k, .int .i64 e.se, .int .i64 e.rq, .slice va e.ops.length vc], u.oneCell' = true) := fun u hu => by
      simp only [List.mem_cons, List.not_mem_nil, or_false] at hu
      rcases hu with rfl | rfl | rfl | rfl | rfl | rfl <;> rfl
    have hmx : q + 1 ≤ maxLen := by unfold maxLen; omega
    have hby : (q + 1) * 64 ≤ 140737488355328 := by omega
    have hws : w.heap.size ≤ (W.alloc (.cells #[.int .i64 e.s, .int .i64 e.v, .int .i64 e.k, .int .i64 e.se, .int .i64 e.rq, .slice va e.ops.length vc] 38)).heap.size := by rw [World.size_alloc]; have := HW.out; omega
    have HMX : Hid (q + 1 ≤ maxLen) := hmx
    have HWS : Hid (w.heap.size ≤ (W.alloc (.cells #[.int .i64 e.s, .int .i64 e.v, .int .i64 e.k, .int .i64 e.se, .int .i64 e.rq, .slice va e.ops.length vc] 38)).heap.size) := hws
    clear hmx hws
    gi_wp2_with (gi_at_builtin; refine wpListIn_append_own_at _ rfl _ _ 27 rfl w.heap.size 38 i0 (.agg #[.int .i64 0, .int .i64 0, .int .i64 0, .int .i64 0, .int .i64 0, .slice none 0 0]) 6 64 Try.underlying27 hi hz0 hz1 hz2 rfl (by decide) (.slice la q lc) q (rowCs PEnt.cells P) rfl HR0.out ⟨W.heap.size, 0, none⟩ 1 1 [.int .i64 e.s, .int .i64 e.v, .int .i64 e.k, .int .i64 e.se, .int .i64 e.rq, .slice va e.ops.length vc] rfl rfl HC0.out H1C.out HMX.out hby HWS.out ?_)
    intro v' w1 hown' hgrow _ hat
    obtain ⟨la', lc', rfl, -, -⟩ := owns_form hown'
    obtain ⟨hj1, hj2, hj3, hj4, hj5⟩ := HT.out.put H1.out H3.out HFR.out hown' hgrow hat
    have HJ1 : Hid (AllJN w p R (.slice la' (q + 1) lc') (P ++ [⟨e, .slice va e.ops.length vc⟩]) (q + 1) (fun k => k = w.heap.size + 1 + 1 ∨ (Value.slice la' (q + 1) lc').ownBlock = some k) (w1.setCell ⟨w.heap.size + 1 + 1, 0, none⟩ (.slice la' (q + 1) lc'))) := hj1
    have HJ2 : Hid (Kp M W (w1.setCell ⟨w.heap.size + 1 + 1, 0, none⟩ (.slice la' (q + 1) lc'))) := hj2
    have HJ3 : Hid (KeepsOthers W (w1.setCell ⟨w.heap.size + 1 + 1, 0, none⟩ (.slice la' (q + 1) lc'))) := hj3
    have HJ5 : Hid (∀ k, (Value.slice la' (q + 1) lc').ownBlock = some k → (Value.slice la q lc).ownBlock = some k ∨ W.heap.size ≤ k) := hj5
    have n1 : w1.cell? ⟨w.heap.size + 1 + 1, 0, none⟩ = some (.slice la q lc) := by rw [cell_blk hj4]; rfl
    have n2 := free_blk hj4
    have hq1 : ((q + 1 : Nat) : Int) ≤ 100 := by omega
    clear hown' hgrow hat hj1 hj2 hj3 hj4 hj5 c0 f0 e0 e1 e2 e3 e4 e5
    gi_wp2
    refine ⟨HJ3.out.from _, (q + 1, w1.setCell ⟨w.heap.size + 1 + 1, 0, none⟩ (.slice la' (q + 1) lc'), fun k => k = w.heap.size + 1 + 1 ∨ (Value.slice la' (q + 1) lc').ownBlock = some k), ⟨rfl, (H6.out.mono (fun _ h => h.elim)).trans HJ2.out, fun k hk => ?_⟩, Kp.refl _ _, _, _, HJ1.out⟩
    rcases hk with hk | hk
    · exact .inl ((HT.out.m k).2 (.inl hk))
    · rcases HJ5.out k hk with h9 | h9
      · exact .inl ((HT.out.m k).2 (.inr h9))
      · exact .inr (Nat.le_trans H6.out.size h9)
  case done =>
    rintro D W hD ⟨lv, P, M, hT⟩ hK
    have c0 : W.cell? ⟨w.heap.size + 1 + 1, 0, none⟩ = some lv := by rw [cell_blk hT.bl]; rfl
    have r0 : W.cell? ⟨w.heap.size, 0, none⟩ = some (.slice none 0 0) := by rw [cell_blk hT.b0]; rfl
    have r1 : W.cell? ⟨w.heap.size + 1, 0, none⟩ = some (.bool false) := by rw [cell_blk hT.b1]; rfl
    have f0 := free_blk hT.b0
    have f1 := free_blk hT.b1
    have HT : Hid (AllJN w p R lv P R.l.length M W) := hT
    obtain ⟨la, lc, hlv, -, -⟩ := owns_form hT.row
    subst hlv
    clear hT HJ0 heq
    gi_wp2
    have hD0 : D ≠ w.heap.size := by omega
    have hD1 : D ≠ w.heap.size + 1 := by omega
    have hKD : ((W.setCell ⟨w.heap.size, 0, none⟩ (.slice la R.l.length lc)).setCell ⟨w.heap.size + 1, 0, none⟩ (.bool true)).heap[D]? = some (.deferred (some [])) := other_blk (other_blk hK hD0) hD1
    refine ⟨by simp, .inl ⟨_, _, rfl, run_takeDeferred hKD, ?_⟩⟩
    have hbw : Below w.heap.size w (((W.setCell ⟨w.heap.size, 0, none⟩ (.slice la R.l.length lc)).setCell ⟨w.heap.size + 1, 0, none⟩ (.bool true)).putObj D (.deferred none)) := by
      have h1 : Below w.heap.size w ((W.setCell ⟨w.heap.size, 0, none⟩ (.slice la R.l.length lc)).setCell ⟨w.heap.size + 1, 0, none⟩ (.bool true)) := (HT.out.fr.setCell (Nat.le_refl _) _).setCell (Nat.le_succ _) _
      have h2 := grownBy_putObj' ((W.setCell ⟨w.heap.size, 0, none⟩ (.slice la R.l.length lc)).setCell ⟨w.heap.size + 1, 0, none⟩ (.bool true)) D (.deferred none)
      exact h1.grown h2 h1.size (fun j hj => by cases hj; omega)
    have hch : ∀ k, k ≠ w.heap.size → k ≠ w.heap.size + 1 → k ≠ D → (((W.setCell ⟨w.heap.size, 0, none⟩ (.slice la R.l.length lc)).setCell ⟨w.heap.size + 1, 0, none⟩ (.bool true)).putObj D (.deferred none)).heap[k]? = W.heap[k]? := fun k h1 h2 h3 => by
      rw [World.putObj_heap_other h3, Below.heap_setCell _ _ _ _ h2, Below.heap_setCell _ _ _ _ h1]
    have hk0 : ∀ {y : Value} {B e s n : Nat} {xs : List Value}, W.ownsRow B e s y n xs → e ≠ 27 → e ≠ 4 → ∀ k, y.ownBlock = some k → k ≠ w.heap.size ∧ k ≠ w.heap.size + 1 ∧ k ≠ D := fun hy h1 h2 k hk => by
      obtain ⟨cur, hc⟩ := owns_kind hy hk
      refine ⟨fun e => ?_, fun e => ?_, fun e => ?_⟩
      · subst e; rw [HT.out.b0] at hc; cases hc; exact h1 rfl
      · subst e; rw [HT.out.b1] at hc; cases hc; exact h2 rfl
      · subst e; rw [hK] at hc; cases hc
    refine ⟨_, results_box2 rfl _ _ w.heap.size (w.heap.size + 1) (.slice la R.l.length lc) true rfl rfl ?_ ?_, .slice la R.l.length lc, P, rfl, by rw [HT.out.es, List.take_of_length_le (Nat.le_refl _)], ⟨?_, fun y hy => ?_⟩, HT.out.nd.nde (fun k hk => (HT.out.row.lt k hk).1), hbw⟩
    · have h9 : (((W.setCell ⟨w.heap.size, 0, none⟩ (.slice la R.l.length lc)).setCell ⟨w.heap.size + 1, 0, none⟩ (.bool true)).putObj D (.deferred none)).heap[w.heap.size]? = some (.cells #[.slice la R.l.length lc] 27 (0, 0)) := by
        rw [World.putObj_heap_other (Ne.symm hD0)]
        exact other_blk (same_blk HT.out.b0 rfl) (by omega)
      rw [cell_blk h9]; rfl
    · have h9 : (((W.setCell ⟨w.heap.size, 0, none⟩ (.slice la R.l.length lc)).setCell ⟨w.heap.size + 1, 0, none⟩ (.bool true)).putObj D (.deferred none)).heap[w.heap.size + 1]? = some (.cells #[.bool true] 4 (0, 0)) := by
        rw [World.putObj_heap_other (Ne.symm hD1)]
        exact same_blk (other_blk HT.out.b1 (by omega)) rfl
      rw [cell_blk h9]; rfl
    · have h9 := HT.out.row
      have h8 : P.length = R.l.length := HT.out.len
      rw [h8]
      exact owns_lower (owns_same h9 (fun k hk => hch k (hk0 h9 (by decide) (by decide) k hk).1 (hk0 h9 (by decide) (by decide) k hk).2.1 (hk0 h9 (by decide) (by decide) k hk).2.2))
    · have h9 := HT.out.ops y hy
      exact owns_same h9 (fun k hk => hch k (hk0 h9 (by decide) (by decide) k hk).1 (hk0 h9 (by decide) (by decide) k hk).2.1 (hk0 h9 (by decide) (by decide) k hk).2.2)
  case stop => exact fun _ _ _ _ h => h.elim
end Go.Proofs.Ytnmengoefpdaiaa
