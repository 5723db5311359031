/-
  ViewTells: the walk, for any service that serves.
-/
import Derived.Test.YtlbhnlpdijhmlaaVKeepP
import Derived.Test.YtlbhnlpdijhmlaaVScript
import Derived.Test.YtlbhnlpdijhmlaaVBare
namespace Go.Proofs.Ytlbhnlpdijhmlaa
open Go.RowKit
set_option linter.unusedVariables false
set_option linter.unusedSimpArgs false

theorem does_ne {V : SvT} (h : V.l ≠ []) (x : WhT) : (V.does x).l ≠ [] := by
  rcases does_cases V x with e | ⟨t, hs, e⟩ | e
  · rw [e]; exact h
  · rw [e]; simp
  · rw [e]; exact h
/-- The service, and the view that was. -/
structure TT (At : World → (Nat → Prop) → SvT → Value → Prop) (w0 w : World) (K : Nat → Prop) (V : SvT) (p : Value) (d : Nat) (t : VwT) : Prop where
  nw : Nw At w0 w K V p
  box : w.heap[d]? = some (.cells #[.int .i64 t.n, .int .i64 t.p, .int .i64 t.b] 28 (0, 0))
  nk : ¬ K d
theorem TT.took {At : World → (Nat → Prop) → SvT → Value → Prop} {w0 w w' : World} {K K' : Nat → Prop} {V V' : SvT} {p : Value} {d : Nat} {t : VwT} (h : TT At w0 w K V p d t) (h1 : At w' K' V' p) (h2 : Chg w w' K) (h3 : ∀ j, K' j → K j ∨ w.heap.size ≤ j) : TT At w0 w' K' V' p d t := by
  have hl := lt_of_blk h.box
  refine ⟨⟨h1, ?_, fun j hj => (h3 j hj).elim (h.nw.new j) (fun hh => Nat.le_trans h.nw.below.size hh)⟩, by rw [h2.block d hl h.nk]; exact h.box, fun hg => (h3 d hg).elim h.nk (fun hh => by omega)⟩
  exact ⟨h2.os.trans h.nw.below.os, h2.tape.trans h.nw.below.tape, h2.output.trans h.nw.below.output, Nat.le_trans h.nw.below.size h2.size, fun j hj => by rw [h2.block j (Nat.lt_of_lt_of_le hj h.nw.below.size) (fun e => by have := h.nw.new j e; omega)]; exact h.nw.below.block j hj⟩
theorem TT.call {At : World → (Nat → Prop) → SvT → Value → Prop} {w0 w w' : World} {K : Nat → Prop} {V V' : SvT} {p : Value} {d : Nat} {t : VwT} (h : TT At w0 w K V p d t) (he : SvE At w K V' p w') : ∃ K', TT At w0 w' K' V' p d t := by
  obtain ⟨K', h1, h2, h3⟩ := he
  exact ⟨K', h.took h1 h2 h3⟩
theorem TT.on {At : World → (Nat → Prop) → SvT → Value → Prop} (sv : Serves At) {w0 w w' : World} {K : Nat → Prop} {V : SvT} {p : Value} {d : Nat} {t : VwT} (h : TT At w0 w K V p d t) (hb : Below w.heap.size w w') : TT At w0 w' K V p d t :=
  ⟨h.nw.on sv hb, kept_block hb h.box, h.nk⟩
theorem TT.cells {At : World → (Nat → Prop) → SvT → Value → Prop} {w0 w : World} {K : Nat → Prop} {V : SvT} {p : Value} {d : Nat} {t : VwT} (h : TT At w0 w K V p d t) : w.cell? ⟨d, 0, none⟩ = some (.int .i64 t.n) ∧ w.cell? ⟨d, 1, none⟩ = some (.int .i64 t.p) ∧ w.cell? ⟨d, 2, none⟩ = some (.int .i64 t.b) := by
  rw [cell_of h.box, cell_of h.box, cell_of h.box]
  exact ⟨rfl, rfl, rfl⟩
theorem took_l (V : SvT) (f k n : Int) : (V.took f k n).l = V.l := by
  unfold SvT.took SvT.sett
  split
  · split <;> rfl
  · rfl
theorem took_set {V : SvT} (hv : V.l ≠ []) (f k n : Int) : (V.took f k n).set = (V.set || decide (k = 23 ∧ f = (lastV V.l).p ∧ n = (lastV V.l).n)) := by
  unfold SvT.took SvT.sett SvT.settC
  by_cases h1 : k = 23
  · by_cases h2 : f = (lastV V.l).p
    · by_cases h3 : n = (lastV V.l).n <;> simp [h1, h2, h3, hv]
    · simp [h1, h2, hv]
  · simp [h1]
structure TN (At : World → (Nat → Prop) → SvT → Value → Prop) (w0 w : World) (K : Nat → Prop) (V : SvT) (p : Value) (d : Nat) (t : VwT) (mb mo : Nat) (cs : List Value) : Prop extends TT At w0 w K V p d t where
  rng : w.rangeAt mb mo cs
  mlt : mb < w.heap.size
  mk' : ¬ K mb
theorem TN.call {At : World → (Nat → Prop) → SvT → Value → Prop} {w0 w w' : World} {K : Nat → Prop} {V V' : SvT} {p : Value} {d : Nat} {t : VwT} {mb mo : Nat} {cs : List Value} (h : TN At w0 w K V p d t mb mo cs) (he : SvE At w K V' p w') : ∃ K', TN At w0 w' K' V' p d t mb mo cs := by
  obtain ⟨K', h1, h2, h3⟩ := he
  have hm := h.mlt
  refine ⟨K', h.toTT.took h1 h2 h3, fun j v hv => ?_, Nat.lt_of_lt_of_le h.mlt h2.size, fun hg => (h3 mb hg).elim h.mk' (fun hh => by omega)⟩
  have hx := h.rng j v hv
  simp only [World.cell?] at hx ⊢
  rw [h2.block mb h.mlt h.mk']
  exact hx
theorem TN.on {At : World → (Nat → Prop) → SvT → Value → Prop} (sv : Serves At) {w0 w w' : World} {K : Nat → Prop} {V : SvT} {p : Value} {d : Nat} {t : VwT} {mb mo : Nat} {cs : List Value} (h : TN At w0 w K V p d t mb mo cs) (hb : Below w.heap.size w w') : TN At w0 w' K V p d t mb mo cs :=
  ⟨h.toTT.on sv hb, fun j v hv => by rw [hb.cell (p := ⟨mb, mo + j, none⟩) h.mlt]; exact h.rng j v hv, Nat.lt_of_lt_of_le h.mlt hb.size, h.mk'⟩
theorem TN.st {At : World → (Nat → Prop) → SvT → Value → Prop} {w0 w : World} {K : Nat → Prop} {V : SvT} {p : Value} {d : Nat} {t : VwT} {mb mo : Nat} {cs : List Value} (h : TN At w0 w K V p d t mb mo cs) : w.rangeAt mb mo cs ∧ w.cell? ⟨d, 0, none⟩ = some (.int .i64 t.n) ∧ w.cell? ⟨d, 1, none⟩ = some (.int .i64 t.p) ∧ w.cell? ⟨d, 2, none⟩ = some (.int .i64 t.b) := ⟨h.rng, h.toTT.cells⟩
theorem step_callw {P : Program} {ops : Array Oper} {o : Oper} {a : Act} {w : World} {K : Act → World → Prop} {Q : Exit → Act → World → Prop} {E : Prop} (hw : Region.wanted o (yielded ops a.tmps) = true) (f : FuncId) (xs : List Operand) (ts : Array TypeId)
    (ho : o.op = .call { callee := .value (.func f), args := xs.toArray, argTypes := ts }) (ef : ∀ args w, (callFunc f args).run P w = .ok (.enter f args) w) (us : List Value) (hx : xs.map a.eval = us) {R : Ending → World → Prop} (hc : Calls P f us.toArray w R)
    (h : ∀ e w', R e w' → ∃ r, e = .returned r ∧ K (a.put o.dst r) w') :
    if Region.wanted o (yielded ops a.tmps) = true then Oper.wp P o a w K Q else E := by
  rw [if_pos hw]
  have he : (execOp a.eval o).run P w = .ok (.enter f us.toArray) w := by
    have hf : a.eval (.func f) = .func (.func f) #[] #[] := rfl
    simp [execOp, ho, resolve, invoke, Deferred.ofValue, hx, hf, ef]
  unfold Oper.wp
  rw [he, Oper.upon_enter]
  refine hc.mono ?_
  intro e w' hR
  obtain ⟨r, rfl, hk⟩ := h e w' hR
  exact hk
theorem note_0 {w : World} {D : Nat} {ns : List Value} {k nn : Int} {T : TypeId} (hn : NoAt ns k nn) (h : w.heap[D]? = some (.cells ns.toArray T (0, 0))) : w.cell? ⟨D, 0, none⟩ = some (.int .i64 k) := by
  rw [cell_of h]; simpa using hn.k
theorem note_1 {w : World} {D : Nat} {ns : List Value} {k nn : Int} {T : TypeId} (hn : NoAt ns k nn) (h : w.heap[D]? = some (.cells ns.toArray T (0, 0))) : w.cell? ⟨D, 1, none⟩ = some (.int .i64 nn) := by
  rw [cell_of h]; simpa using hn.n
theorem nos_one {w : World} {S : Nat → Prop} {v : Value} {x : List Value} (h : NosAt w S v [x]) : ∃ b o c, v = .slice (some ⟨b, o, none⟩) 1 c ∧ w.rangeAt b o x ∧ b < w.heap.size ∧ S b := by
  obtain ⟨a, c, rfl, hc⟩ := RowAt.form h
  obtain ⟨b, o, rfl, hS, hb, hr⟩ := RowAt.get h (i := 0) rfl
  exact ⟨b, o, c, rfl, by simpa using hr, hb, hS⟩
set_option maxHeartbeats 12800000 in
set_option maxRecDepth 100000 in
theorem ViewTells_walk {At : World → (Nat → Prop) → SvT → Value → Prop} (sv : Serves At) (nodes from_ k nn : Int) (ns : List Value) (v : Value) (l : List WhT) (w : World) (h : ActsAt w (fun b => b < w.heap.size) v l) (hl : l.length ≤ maxLen) (hno : NoAt ns k nn) :
    Calls Try.prog 6 #[.int .i64 nodes, v, .int .i64 from_, .agg ns.toArray] w fun e w' => e = .returned (.bool true) ∧ Below w.heap.size w w' := by
  unfold maxLen at hl
  obtain ⟨a, c, rfl, hc⟩ := RowAt.form h
  obtain ⟨m, hm⟩ : ∃ m, l.length = m := ⟨_, rfl⟩
  rw [hm] at h hl ⊢
  have HM : Hid (l.length = m) := hm
  have HLS : Hid (ActsAt w (fun b => b < w.heap.size) (.slice a m c) l) := h
  have HBE : Hid (∀ w, _) := fun w => begins_any sv w
  have HNO : Hid (NoAt ns k nn) := hno
  clear h hm hc hno
  obtain ⟨W, hWW⟩ : ∃ W, w.alloc (.cells ns.toArray 47) = W := ⟨_, rfl⟩
  obtain ⟨D, hDD⟩ : ∃ D, w.heap.size = D := ⟨_, rfl⟩
  have hW : Below w.heap.size w W := by rw [← hWW]; exact (Below.refl _ _).alloc (Nat.le_refl _) _
  have HW0 : Hid (Below w.heap.size w W) := hW
  have HL0 : Hid (ActsAt W (fun b => b < w.heap.size) (.slice a m c) l) := ActsAt.keep HLS.out (Kp.of_below hW _)
  have HD0 : Hid (W.heap[D]? = some (.cells ns.toArray 47 (0, 0))) := by rw [← hWW, ← hDD]; exact heap_alloc_new _ _
  clear hW
  by_cases hnn : nodes < 1 ∨ 5 < nodes
  · have HN : Hid (∀ w, _) := fun w => sv.new_no w nodes hnn
    clear hnn
    go_enter Try.func6, Try.ntmps6
    go_wp2_with fail
    clear hWW hDD
    refine Calls.mono (HBE.out _) ?_
    rintro e w1 ⟨rfl, hb1⟩
    have HB1 : Hid _ := hb1
    clear hb1
    go_wp2_with fail
    refine Calls.mono (HN.out _) ?_
    rintro e w2 ⟨rfl, hb2⟩
    have HB2 : Hid _ := trans2 HW0.out (trans2 HB1.out hb2)
    clear hb2
    go_wp2_with fail
    go_ret
    exact ⟨rfl, HB2.out⟩
  have h15 : 1 ≤ nodes ∧ nodes ≤ 5 := by omega
  have HN : Hid (∀ w, _) := fun w => sv.new_ok w nodes h15.1 h15.2
  clear hnn
  go_enter Try.func6, Try.ntmps6
  go_wp2_with fail
  clear hWW hDD
  refine Calls.mono (HBE.out _) ?_
  rintro e w1 ⟨rfl, hb1⟩
  have HB1 : Hid (Below W.heap.size W w1) := hb1
  clear hb1
  go_wp2_with fail
  refine Calls.mono (HN.out _) ?_
  rintro e w2 ⟨sb, K, rfl, h1, h2, h3⟩
  obtain ⟨p, hp⟩ : ∃ p, Value.pointer (some ⟨sb, 0, none⟩) = p := ⟨_, rfl⟩
  have H2 : Hid (Nw At W w2 K (newV nodes) p) := ⟨by rw [← hp]; exact h1, trans2 HB1.out h2, fun j hj => Nat.le_trans HB1.out.size (h3 j hj)⟩
  have HV2 : Hid ((newV nodes).l ≠ []) := by show _ ≠ _; simp [newV]
  rw [hp]
  clear h1 h2 h3 hp h15
  go_wp2_with fail
  go_loopw [12] (fun i wr => ∃ (q : Nat) (K : Nat → Prop) (V : SvT), i = .int .i64 q ∧ q ≤ m ∧ Hid (Nw At W wr K V p) ∧ Hid (V.l ≠ [])) (fun i _ => m - (intOf i).toNat)
  case atStart => exact ⟨0, K, _, rfl, Nat.zero_le _, H2, HV2⟩
  case round =>
    clear H2 HV2
    obtain ⟨q, K, V, rfl, hq, HW, HV⟩ := hrel
    by_cases hlt : q < m ∧ q < 160
    · obtain ⟨hlt, h160⟩ := hlt
      have hqi : (q : Int) < (m : Int) := by omega
      have h160' : (q : Int) < 160 := by omega
      obtain ⟨y, hy⟩ : ∃ y, l[q]? = some y := ⟨l[q]'(by rw [HM.out]; exact hlt), List.getElem?_eq_getElem _⟩
      obtain ⟨b, o, rfl, _, hb, cs, hat, hr⟩ := RowAt.get (ActsAt.keep HL0.out (Kp.of_below HW.out.below _)) hy
      have HR : Hid (wr.rangeAt b (o + q * 24) cs ∧ y.At cs) := ⟨hr, hat⟩
      clear hy hb hat hr
      go_wp2_with (first
        | (refine wpList_load_mid rfl 49 _ rfl b (o + q * 24) rfl cs _ HR.out.1 Try.underlying49 rfl (by rw [HR.out.2.len]; exact Try.infoAct) ?_)
        | (go_at_call 15; refine Calls.mono (did_any sv wr K V p y cs HW.out.at' HR.out.2) ?_; rintro e w4 ⟨rfl, he4⟩
           obtain ⟨K4, h4⟩ := HW.out.call he4
           have H4 : Hid (Nw At W w4 K4 (V.does (wholeT (lastV V.l) y)) p) := h4
           clear he4 h4)
        | fail)
      exact ⟨⟨q + 1, K4, _, by go_num, by omega, H4, does_ne HV.out _⟩, by simp [intOf]; omega⟩
    · have hexit : ((q : Int) < (m : Int) ∧ ¬ (q : Int) < 160) ∨ ¬ (q : Int) < (m : Int) := by omega
      clear hlt
      rcases hexit with ⟨h1', h2'⟩ | h1'
      · go_wp2_with fail
        refine Calls.mono (sv.now wr K V p HW.out.at') ?_
        rintro e w3 ⟨rfl, he3⟩
        obtain ⟨K3, h3⟩ := HW.out.call he3
        have H3 : Hid (Nw At W w3 K3 V p) := h3
        clear he3 h3
        obtain ⟨t, ht⟩ : ∃ t, lastV V.l = t := ⟨_, rfl⟩
        have HT : Hid (lastV V.l = t) := ht
        rw [ht]
        unfold vwV
        go_wp2_with fail
        obtain ⟨w4, hw4⟩ : ∃ w4, w3.alloc (.cells #[.int .i64 t.n, .int .i64 t.p, .int .i64 t.b] 28) = w4 := ⟨_, rfl⟩
        obtain ⟨d, hd⟩ : ∃ d, w3.heap.size = d := ⟨_, rfl⟩
        have H4 : Hid (TT At W w4 K3 V p d t) := ⟨H3.out.on sv (by rw [← hw4]; exact (Below.refl _ _).alloc (Nat.le_refl _) _), by rw [← hw4, ← hd]; exact heap_alloc_new _ _, fun hk => by have := sv.lt H3.out.at' d hk; omega⟩
        rw [hw4, hd]
        clear hw4 hd H3 ht
        refine Calls.mono (sv.settled w4 K3 V p H4.out.nw.at') ?_
        rintro e w5 ⟨rfl, he5⟩
        obtain ⟨K5, h5⟩ := H4.out.call he5
        have H5 : Hid (TT At W w5 K5 V p d t) := h5
        have HRD : Hid (w5.rangeAt D 0 ns) := range_of (kept_block h5.nw.below HD0.out)
        clear he5 h5 H4 HW
        obtain ⟨was, hwas⟩ : ∃ b, V.set = b := ⟨_, rfl⟩
        have HWAS : Hid (V.set = was) := hwas
        rw [hwas]
        clear hwas
        by_cases hk21 : k = 21
        · subst hk21
          go_wp2_with (first
            | (refine wpList_load_mid rfl 47 _ rfl D 0 rfl ns _ HRD.out Try.underlying47 rfl (by rw [HNO.out.len]; exact Try.infoNote) ?_)
            | (go_at_call 17; refine Calls.mono (sv.take w5 K5 V p from_ 21 nn ns H5.out.nw.at' HNO.out) ?_; rintro e w6 ⟨mv, K6, rfl, hn6, he6, hc6, hk6⟩
               have h6 := H5.out.took he6 hc6 hk6
               rw [show V.took from_ 21 nn = V from if_neg (by decide)] at h6
               rw [show V.tells 21 = [tellCs t] by unfold SvT.tells; rw [if_pos ⟨HV.out, rfl⟩, HT.out]] at hn6
               obtain ⟨mb, mo, mc, rfl, hmr, hml, hms⟩ := nos_one hn6
               have H6 : Hid (TN At W w6 K6 V p d t mb mo (tellCs t)) := ⟨h6, hmr, hml, hms.2⟩
               have n0 := note_0 HNO.out (kept_block h6.nw.below HD0.out)
               have n1 := note_1 HNO.out (kept_block h6.nw.below HD0.out)
               obtain ⟨d0, d1, d2⟩ := h6.cells
               clear he6 hc6 hk6 h6 hmr hn6 hml hms)
            | fail)
          obtain ⟨w7, hw7⟩ : ∃ w7, w6.drew = w7 := ⟨_, rfl⟩
          have H7 : Hid (TN At W w7 K6 V p d t mb mo (tellCs t)) := by rw [← hw7]; exact H6.out.on sv (below_drew (Below.refl _ _))
          refine wp_region_held_drew (S := (fun w' => w'.rangeAt mb mo (tellCs t) ∧ w'.cell? ⟨d, 0, none⟩ = some (.int .i64 t.n) ∧ w'.cell? ⟨d, 1, none⟩ = some (.int .i64 t.p) ∧ w'.cell? ⟨d, 2, none⟩ = some (.int .i64 t.b))) (by kernel_rfl) (by rw [hw7]; exact H7.out.st) (fun hHeld => ?_)
          rw [hw7] at hHeld ⊢
          clear hw7 H6
          refine wpAnyH_take (i := 0) (v := ?_) rfl (by kernel_rfl) (by kernel_rfl) (by kernel_rfl) (fun _ _ _ h => h) ?_ hHeld ?_
          rotate_left
          · refine Or.inl ⟨by rfl, ?_⟩; intro w hSw; obtain ⟨hh1, hh2, hh3, hh4⟩ := hSw; clear hh1; go_simp <;> with_reducible rfl
          try simp only [List.getElem_toArray, List.getElem_cons_succ, List.getElem_cons_zero, Act.put, List.setIfInBounds_toArray, List.set_cons_zero, List.set_cons_succ]
          refine wpAnyH_take (i := 1) (v := ?_) rfl (by kernel_rfl) (by kernel_rfl) (by kernel_rfl) (fun _ _ _ h => h) ?_ hHeld ?_
          rotate_left
          · refine Or.inl ⟨by rfl, ?_⟩; intro w hSw; obtain ⟨hh1, hh2, hh3, hh4⟩ := hSw; clear hh1; go_simp <;> with_reducible rfl
          try simp only [List.getElem_toArray, List.getElem_cons_succ, List.getElem_cons_zero, Act.put, List.setIfInBounds_toArray, List.set_cons_zero, List.set_cons_succ]
          refine wpAnyH_take (i := 2) (v := ?_) rfl (by kernel_rfl) (by kernel_rfl) (by kernel_rfl) (fun _ _ _ h => h) ?_ hHeld ?_
          rotate_left
          · refine Or.inl ⟨by rfl, ?_⟩; intro w hSw; obtain ⟨hh1, hh2, hh3, hh4⟩ := hSw; clear hh1; go_simp <;> with_reducible rfl
          try simp only [List.getElem_toArray, List.getElem_cons_succ, List.getElem_cons_zero, Act.put, List.setIfInBounds_toArray, List.set_cons_zero, List.set_cons_succ]
          refine wpAnyH_take (i := 3) (v := ?_) rfl (by kernel_rfl) (by kernel_rfl) (by kernel_rfl) (fun _ _ _ h => h) ?_ hHeld ?_
          rotate_left
          · refine Or.inl ⟨by rfl, ?_⟩; intro w hSw; obtain ⟨hh1, hh2, hh3, hh4⟩ := hSw; clear hh1; go_simp <;> with_reducible rfl
          try simp only [List.getElem_toArray, List.getElem_cons_succ, List.getElem_cons_zero, Act.put, List.setIfInBounds_toArray, List.set_cons_zero, List.set_cons_succ]
          refine wpAnyH_take (i := 4) (v := ?_) rfl (by kernel_rfl) (by kernel_rfl) (by kernel_rfl) (fun _ _ _ h => h) ?_ hHeld ?_
          rotate_left
          · refine Or.inl ⟨by rfl, ?_⟩; intro w hSw; obtain ⟨hh1, hh2, hh3, hh4⟩ := hSw; clear hh1; go_simp <;> with_reducible rfl
          try simp only [List.getElem_toArray, List.getElem_cons_succ, List.getElem_cons_zero, Act.put, List.setIfInBounds_toArray, List.set_cons_zero, List.set_cons_succ]
          refine wpAnyH_take (i := 5) (v := ?_) rfl (by kernel_rfl) (by kernel_rfl) (by kernel_rfl) (fun _ _ _ h => h) ?_ hHeld ?_
          rotate_left
          · refine Or.inl ⟨by rfl, ?_⟩; intro w hSw; obtain ⟨hh1, hh2, hh3, hh4⟩ := hSw; clear hh1; go_simp <;> with_reducible rfl
          try simp only [List.getElem_toArray, List.getElem_cons_succ, List.getElem_cons_zero, Act.put, List.setIfInBounds_toArray, List.set_cons_zero, List.set_cons_succ]
          refine wpAnyH_take (i := 6) rfl (by kernel_rfl) (by kernel_rfl) (by kernel_rfl) (fun _ _ _ h => h) (yieldsIf_load_mid (by rfl) 47 _ rfl mb mo (by rfl) (tellCs t) _ (fun w hSw => hSw.1) Try.underlying47 rfl Try.infoNote) hHeld ?_
          try simp only [List.getElem_toArray, List.getElem_cons_succ, List.getElem_cons_zero, Act.put, List.setIfInBounds_toArray, List.set_cons_zero, List.set_cons_succ]
          refine wpAnyH_take (i := 7) (v := ?_) rfl (by kernel_rfl) (by kernel_rfl) (by kernel_rfl) (fun _ _ _ h => h) ?_ hHeld ?_
          rotate_left
          · refine Or.inl ⟨by rfl, ?_⟩; intro w hSw; obtain ⟨hh1, hh2, hh3, hh4⟩ := hSw; clear hh1; go_simp <;> with_reducible rfl
          try simp only [List.getElem_toArray, List.getElem_cons_succ, List.getElem_cons_zero, Act.put, List.setIfInBounds_toArray, List.set_cons_zero, List.set_cons_succ]
          refine wpAnyH_ready (rs := [8]) (by kernel_rfl) (by simp) ?_
          refine AllReadyH.cons rfl (fun K hK => ?_) AllReadyH.nil
          refine step_callw (by rfl) 18 _ _ (by rfl) (fun _ _ => by rfl) [.agg (tellCs t).toArray, .int .i64 22, vwV t] (by rfl) (bare_tell t w7) ?_
          rintro e w8 ⟨rfl, hb8⟩
          have H8 : Hid (TN At W w8 K6 V p d t mb mo (tellCs t)) := H7.out.on sv hb8
          refine ⟨_, rfl, hK.out _ _ H8.out.st (fun hHeld => ?_)⟩
          clear hK K hb8 H7
          try simp only [List.getElem_toArray, List.getElem_cons_succ, List.getElem_cons_zero, Act.put, List.setIfInBounds_toArray, List.set_cons_zero, List.set_cons_succ]
          refine wpAnyH_take (i := 9) (v := ?_) rfl (by kernel_rfl) (by kernel_rfl) (by kernel_rfl) (fun _ _ _ h => h) ?_ hHeld ?_
          rotate_left
          · refine Or.inl ⟨by rfl, ?_⟩; intro w hSw; obtain ⟨hh1, hh2, hh3, hh4⟩ := hSw; clear hh1; go_simp <;> with_reducible rfl
          try simp only [List.getElem_toArray, List.getElem_cons_succ, List.getElem_cons_zero, Act.put, List.setIfInBounds_toArray, List.set_cons_zero, List.set_cons_succ]
          refine wpAnyH_take (i := 10) (v := ?_) rfl (by kernel_rfl) (by kernel_rfl) (by kernel_rfl) (fun _ _ _ h => h) ?_ hHeld ?_
          rotate_left
          · refine Or.inl ⟨by rfl, ?_⟩; intro w hSw; obtain ⟨hh1, hh2, hh3, hh4⟩ := hSw; clear hh1; go_simp <;> with_reducible rfl
          try simp only [List.getElem_toArray, List.getElem_cons_succ, List.getElem_cons_zero, Act.put, List.setIfInBounds_toArray, List.set_cons_zero, List.set_cons_succ]
          refine wpAnyH_take (i := 11) (v := ?_) rfl (by kernel_rfl) (by kernel_rfl) (by kernel_rfl) (fun _ _ _ h => h) ?_ hHeld ?_
          rotate_left
          · refine Or.inl ⟨by rfl, ?_⟩; intro w hSw; obtain ⟨hh1, hh2, hh3, hh4⟩ := hSw; clear hh1; go_simp <;> with_reducible rfl
          try simp only [List.getElem_toArray, List.getElem_cons_succ, List.getElem_cons_zero, Act.put, List.setIfInBounds_toArray, List.set_cons_zero, List.set_cons_succ]
          refine wpAnyH_take (i := 13) (v := ?_) rfl (by kernel_rfl) (by kernel_rfl) (by kernel_rfl) (fun _ _ _ h => h) ?_ hHeld ?_
          rotate_left
          · refine Or.inl ⟨by rfl, ?_⟩; intro w hSw; obtain ⟨hh1, hh2, hh3, hh4⟩ := hSw; clear hh1; go_simp <;> with_reducible rfl
          try simp only [List.getElem_toArray, List.getElem_cons_succ, List.getElem_cons_zero, Act.put, List.setIfInBounds_toArray, List.set_cons_zero, List.set_cons_succ]
          refine wpAnyH_ready (rs := [12]) (by kernel_rfl) (by simp) ?_
          refine AllReadyH.cons rfl (fun K hK => ?_) AllReadyH.nil
          refine step_callw (by rfl) 11 _ _ (by rfl) (fun _ _ => by rfl) [p] (by rfl) (sv.now w8 K6 V p H8.out.nw.at') ?_
          rintro e w9 ⟨rfl, he9⟩
          obtain ⟨K9, h9⟩ := H8.out.call he9
          have H9 : Hid (TN At W w9 K9 V p d t mb mo (tellCs t)) := h9
          refine ⟨_, rfl, hK.out _ _ H9.out.st (fun hHeld => ?_)⟩
          clear hK K he9 h9 H8
          rw [HT.out]
          unfold vwV
          try simp only [List.getElem_toArray, List.getElem_cons_succ, List.getElem_cons_zero, Act.put, List.setIfInBounds_toArray, List.set_cons_zero, List.set_cons_succ]
          refine wpAnyH_take (i := 14) (v := ?_) rfl (by kernel_rfl) (by kernel_rfl) (by kernel_rfl) (fun _ _ _ h => h) ?_ hHeld ?_
          rotate_left
          · refine Or.inl ⟨by rfl, ?_⟩; intro w hSw; obtain ⟨hh1, hh2, hh3, hh4⟩ := hSw; clear hh1; go_simp <;> with_reducible rfl
          try simp only [List.getElem_toArray, List.getElem_cons_succ, List.getElem_cons_zero, Act.put, List.setIfInBounds_toArray, List.set_cons_zero, List.set_cons_succ]
          refine wpAnyH_take (i := 15) (v := ?_) rfl (by kernel_rfl) (by kernel_rfl) (by kernel_rfl) (fun _ _ _ h => h) ?_ hHeld ?_
          rotate_left
          · refine Or.inl ⟨by rfl, ?_⟩; intro w hSw; obtain ⟨hh1, hh2, hh3, hh4⟩ := hSw; clear hh1; go_simp <;> with_reducible rfl
          try simp only [List.getElem_toArray, List.getElem_cons_succ, List.getElem_cons_zero, Act.put, List.setIfInBounds_toArray, List.set_cons_zero, List.set_cons_succ]
          refine wpAnyH_take (i := 16) (v := ?_) rfl (by kernel_rfl) (by kernel_rfl) (by kernel_rfl) (fun _ _ _ h => h) ?_ hHeld ?_
          rotate_left
          · refine Or.inl ⟨by rfl, ?_⟩; intro w hSw; obtain ⟨hh1, hh2, hh3, hh4⟩ := hSw; clear hh1; go_simp <;> with_reducible rfl
          try simp only [List.getElem_toArray, List.getElem_cons_succ, List.getElem_cons_zero, Act.put, List.setIfInBounds_toArray, List.set_cons_zero, List.set_cons_succ]
          refine wpAnyH_take (i := 17) (v := ?_) rfl (by kernel_rfl) (by kernel_rfl) (by kernel_rfl) (fun _ _ _ h => h) ?_ hHeld ?_
          rotate_left
          · refine Or.inl ⟨by rfl, ?_⟩; intro w hSw; obtain ⟨hh1, hh2, hh3, hh4⟩ := hSw; clear hh1; go_simp <;> with_reducible rfl
          try simp only [List.getElem_toArray, List.getElem_cons_succ, List.getElem_cons_zero, Act.put, List.setIfInBounds_toArray, List.set_cons_zero, List.set_cons_succ]
          refine wpAnyH_take (i := 19) (v := ?_) rfl (by kernel_rfl) (by kernel_rfl) (by kernel_rfl) (fun _ _ _ h => h) ?_ hHeld ?_
          rotate_left
          · refine Or.inl ⟨by rfl, ?_⟩; intro w hSw; obtain ⟨hh1, hh2, hh3, hh4⟩ := hSw; clear hh1; go_simp <;> with_reducible rfl
          try simp only [List.getElem_toArray, List.getElem_cons_succ, List.getElem_cons_zero, Act.put, List.setIfInBounds_toArray, List.set_cons_zero, List.set_cons_succ]
          refine wpAnyH_ready (rs := [18]) (by kernel_rfl) (by simp) ?_
          refine AllReadyH.cons rfl (fun K hK => ?_) AllReadyH.nil
          refine step_callw (by rfl) 16 _ _ (by rfl) (fun _ _ => by rfl) [p] (by rfl) (sv.settled w9 K9 V p H9.out.nw.at') ?_
          rintro e w10 ⟨rfl, he10⟩
          obtain ⟨K10, h10⟩ := H9.out.call he10
          have H10 : Hid (TN At W w10 K10 V p d t mb mo (tellCs t)) := h10
          refine ⟨_, rfl, hK.out _ _ H10.out.st (fun hHeld => ?_)⟩
          clear hK K he10 h10 H9
          rw [HWAS.out]
          try simp only [List.getElem_toArray, List.getElem_cons_succ, List.getElem_cons_zero, Act.put, List.setIfInBounds_toArray, List.set_cons_zero, List.set_cons_succ]
          refine wpAnyH_take (i := 20) (v := ?_) rfl (by kernel_rfl) (by kernel_rfl) (by kernel_rfl) (fun _ _ _ h => h) ?_ hHeld ?_
          rotate_left
          · refine Or.inl ⟨by rfl, ?_⟩; intro w hSw; obtain ⟨hh1, hh2, hh3, hh4⟩ := hSw; clear hh1; go_simp <;> with_reducible rfl
          try simp only [List.getElem_toArray, List.getElem_cons_succ, List.getElem_cons_zero, Act.put, List.setIfInBounds_toArray, List.set_cons_zero, List.set_cons_succ]
          refine wpAnyH_take (i := 21) (v := ?_) rfl (by kernel_rfl) (by kernel_rfl) (by kernel_rfl) (fun _ _ _ h => h) ?_ hHeld ?_
          rotate_left
          · refine Or.inl ⟨by rfl, ?_⟩; intro w hSw; obtain ⟨hh1, hh2, hh3, hh4⟩ := hSw; clear hh1; go_simp <;> with_reducible rfl
          try simp only [List.getElem_toArray, List.getElem_cons_succ, List.getElem_cons_zero, Act.put, List.setIfInBounds_toArray, List.set_cons_zero, List.set_cons_succ]
          refine wpAnyH_ready (rs := [22]) (by kernel_rfl) (by simp) ?_
          refine AllReadyH.cons rfl (fun K hK => ?_) AllReadyH.nil
          go_simp
          refine hK.out _ _ hHeld (fun hHeld => ?_)
          clear hK K
          try simp only [List.getElem_toArray, List.getElem_cons_succ, List.getElem_cons_zero, Act.put, List.setIfInBounds_toArray, List.set_cons_zero, List.set_cons_succ]
          refine wpAnyH_done (by kernel_rfl) ?_ _
          go_wp2_with fail
          go_ret
          exact ⟨by simp, trans2 HW0.out H10.out.nw.below⟩
        · cases was with
          | true =>
            go_wp2_with (first
              | (refine wpList_load_mid rfl 47 _ rfl D 0 rfl ns _ HRD.out Try.underlying47 rfl (by rw [HNO.out.len]; exact Try.infoNote) ?_)
              | (go_at_call 17; refine Calls.mono (sv.take w5 K5 V p from_ k nn ns H5.out.nw.at' HNO.out) ?_; rintro e w6 ⟨mv, K6, rfl, hn6, he6, hc6, hk6⟩
                 have h6 := H5.out.took he6 hc6 hk6
                 rw [show V.tells k = [] from if_neg (fun h => hk21 h.2)] at hn6
                 obtain ⟨ma, mc, rfl, _⟩ := RowAt.form hn6
                 obtain ⟨V6, hV6⟩ : ∃ V6, V.took from_ k nn = V6 := ⟨_, rfl⟩
                 have hset := took_set HV.out from_ k nn
                 rw [HWAS.out, HT.out, hV6] at hset
                 have HSET : Hid (V6.set = _) := hset
                 have ht6 : lastV V6.l = t := by rw [← hV6, took_l]; exact HT.out
                 have HT6 : Hid (lastV V6.l = t) := ht6
                 rw [hV6] at h6
                 have H6 : Hid (TT At W w6 K6 V6 p d t) := h6
                 have n0 := note_0 HNO.out (kept_block h6.nw.below HD0.out)
                 have n1 := note_1 HNO.out (kept_block h6.nw.below HD0.out)
                 obtain ⟨d0, d1, d2⟩ := h6.cells
                 clear he6 hc6 hk6 h6 hn6 hV6 hset ht6)
              | fail)
            all_goals (
              obtain ⟨w7, hw7⟩ : ∃ w7, w6.drew = w7 := ⟨_, rfl⟩
              have H7 : Hid (TT At W w7 K6 V6 p d t) := by rw [← hw7]; exact H6.out.on sv (below_drew (Below.refl _ _))
              refine wp_region_held_drew (S := (fun w' => w'.cell? ⟨d, 0, none⟩ = some (.int .i64 t.n) ∧ w'.cell? ⟨d, 1, none⟩ = some (.int .i64 t.p) ∧ w'.cell? ⟨d, 2, none⟩ = some (.int .i64 t.b))) (by kernel_rfl) (by rw [hw7]; exact H7.out.cells) (fun hHeld => ?_)
              rw [hw7] at hHeld ⊢
              clear hw7 H6 d0 d1 d2 n0 n1
              refine wpAnyH_take (i := 0) (v := ?_) rfl (by kernel_rfl) (by kernel_rfl) (by kernel_rfl) (fun _ _ _ h => h) ?_ hHeld ?_
              rotate_left
              · refine Or.inl ⟨by rfl, ?_⟩; intro w hSw; obtain ⟨hh2, hh3, hh4⟩ := hSw; go_simp <;> with_reducible rfl
              try simp only [List.getElem_toArray, List.getElem_cons_succ, List.getElem_cons_zero, Act.put, List.setIfInBounds_toArray, List.set_cons_zero, List.set_cons_succ]
              refine wpAnyH_take (i := 1) (v := ?_) rfl (by kernel_rfl) (by kernel_rfl) (by kernel_rfl) (fun _ _ _ h => h) ?_ hHeld ?_
              rotate_left
              · refine Or.inl ⟨by rfl, ?_⟩; intro w hSw; obtain ⟨hh2, hh3, hh4⟩ := hSw; go_simp <;> with_reducible rfl
              try simp only [List.getElem_toArray, List.getElem_cons_succ, List.getElem_cons_zero, Act.put, List.setIfInBounds_toArray, List.set_cons_zero, List.set_cons_succ]
              refine wpAnyH_take (i := 2) (v := ?_) rfl (by kernel_rfl) (by kernel_rfl) (by kernel_rfl) (fun _ _ _ h => h) ?_ hHeld ?_
              rotate_left
              · refine Or.inl ⟨by rfl, ?_⟩; intro w hSw; obtain ⟨hh2, hh3, hh4⟩ := hSw; go_simp <;> with_reducible rfl
              try simp only [List.getElem_toArray, List.getElem_cons_succ, List.getElem_cons_zero, Act.put, List.setIfInBounds_toArray, List.set_cons_zero, List.set_cons_succ]
              refine wpAnyH_take (i := 3) (v := ?_) rfl (by kernel_rfl) (by kernel_rfl) (by kernel_rfl) (fun _ _ _ h => h) ?_ hHeld ?_
              rotate_left
              · refine Or.inl ⟨by rfl, ?_⟩; intro w hSw; obtain ⟨hh2, hh3, hh4⟩ := hSw; go_simp <;> with_reducible rfl
              try simp only [List.getElem_toArray, List.getElem_cons_succ, List.getElem_cons_zero, Act.put, List.setIfInBounds_toArray, List.set_cons_zero, List.set_cons_succ]
              refine wpAnyH_take (i := 4) (v := ?_) rfl (by kernel_rfl) (by kernel_rfl) (by kernel_rfl) (fun _ _ _ h => h) ?_ hHeld ?_
              rotate_left
              · refine Or.inl ⟨by rfl, ?_⟩; intro w hSw; obtain ⟨hh2, hh3, hh4⟩ := hSw; go_simp <;> with_reducible rfl
              try simp only [List.getElem_toArray, List.getElem_cons_succ, List.getElem_cons_zero, Act.put, List.setIfInBounds_toArray, List.set_cons_zero, List.set_cons_succ]
              refine wpAnyH_take (i := 6) (v := ?_) rfl (by kernel_rfl) (by kernel_rfl) (by kernel_rfl) (fun _ _ _ h => h) ?_ hHeld ?_
              rotate_left
              · refine Or.inl ⟨by rfl, ?_⟩; intro w hSw; obtain ⟨hh2, hh3, hh4⟩ := hSw; go_simp <;> with_reducible rfl
              try simp only [List.getElem_toArray, List.getElem_cons_succ, List.getElem_cons_zero, Act.put, List.setIfInBounds_toArray, List.set_cons_zero, List.set_cons_succ]
              refine wpAnyH_ready (rs := [5]) (by kernel_rfl) (by simp) ?_
              refine AllReadyH.cons rfl (fun K hK => ?_) AllReadyH.nil
              refine step_callw (by rfl) 11 _ _ (by rfl) (fun _ _ => by rfl) [p] (by rfl) (sv.now w7 K6 V6 p H7.out.nw.at') ?_
              rintro e w9 ⟨rfl, he9⟩
              obtain ⟨K9, h9⟩ := H7.out.call he9
              have H9 : Hid (TT At W w9 K9 V6 p d t) := h9
              refine ⟨_, rfl, hK.out _ _ H9.out.cells (fun hHeld => ?_)⟩
              clear hK K he9 h9 H7
              rw [HT6.out]
              unfold vwV
              try simp only [List.getElem_toArray, List.getElem_cons_succ, List.getElem_cons_zero, Act.put, List.setIfInBounds_toArray, List.set_cons_zero, List.set_cons_succ]
              refine wpAnyH_take (i := 7) (v := ?_) rfl (by kernel_rfl) (by kernel_rfl) (by kernel_rfl) (fun _ _ _ h => h) ?_ hHeld ?_
              rotate_left
              · refine Or.inl ⟨by rfl, ?_⟩; intro w hSw; obtain ⟨hh2, hh3, hh4⟩ := hSw; go_simp <;> with_reducible rfl
              try simp only [List.getElem_toArray, List.getElem_cons_succ, List.getElem_cons_zero, Act.put, List.setIfInBounds_toArray, List.set_cons_zero, List.set_cons_succ]
              refine wpAnyH_take (i := 8) (v := ?_) rfl (by kernel_rfl) (by kernel_rfl) (by kernel_rfl) (fun _ _ _ h => h) ?_ hHeld ?_
              rotate_left
              · refine Or.inl ⟨by rfl, ?_⟩; intro w hSw; obtain ⟨hh2, hh3, hh4⟩ := hSw; go_simp <;> with_reducible rfl
              try simp only [List.getElem_toArray, List.getElem_cons_succ, List.getElem_cons_zero, Act.put, List.setIfInBounds_toArray, List.set_cons_zero, List.set_cons_succ]
              refine wpAnyH_take (i := 9) (v := ?_) rfl (by kernel_rfl) (by kernel_rfl) (by kernel_rfl) (fun _ _ _ h => h) ?_ hHeld ?_
              rotate_left
              · refine Or.inl ⟨by rfl, ?_⟩; intro w hSw; obtain ⟨hh2, hh3, hh4⟩ := hSw; go_simp <;> with_reducible rfl
              try simp only [List.getElem_toArray, List.getElem_cons_succ, List.getElem_cons_zero, Act.put, List.setIfInBounds_toArray, List.set_cons_zero, List.set_cons_succ]
              refine wpAnyH_take (i := 10) (v := ?_) rfl (by kernel_rfl) (by kernel_rfl) (by kernel_rfl) (fun _ _ _ h => h) ?_ hHeld ?_
              rotate_left
              · refine Or.inl ⟨by rfl, ?_⟩; intro w hSw; obtain ⟨hh2, hh3, hh4⟩ := hSw; go_simp <;> with_reducible rfl
              try simp only [List.getElem_toArray, List.getElem_cons_succ, List.getElem_cons_zero, Act.put, List.setIfInBounds_toArray, List.set_cons_zero, List.set_cons_succ]
              refine wpAnyH_take (i := 12) (v := ?_) rfl (by kernel_rfl) (by kernel_rfl) (by kernel_rfl) (fun _ _ _ h => h) ?_ hHeld ?_
              rotate_left
              · refine Or.inl ⟨by rfl, ?_⟩; intro w hSw; obtain ⟨hh2, hh3, hh4⟩ := hSw; go_simp <;> with_reducible rfl
              try simp only [List.getElem_toArray, List.getElem_cons_succ, List.getElem_cons_zero, Act.put, List.setIfInBounds_toArray, List.set_cons_zero, List.set_cons_succ]
              refine wpAnyH_ready (rs := [11]) (by kernel_rfl) (by simp) ?_
              refine AllReadyH.cons rfl (fun K hK => ?_) AllReadyH.nil
              refine step_callw (by rfl) 16 _ _ (by rfl) (fun _ _ => by rfl) [p] (by rfl) (sv.settled w9 K9 V6 p H9.out.nw.at') ?_
              rintro e w10 ⟨rfl, he10⟩
              obtain ⟨K10, h10⟩ := H9.out.call he10
              have H10 : Hid (TT At W w10 K10 V6 p d t) := h10
              refine ⟨_, rfl, hK.out _ _ H10.out.cells (fun hHeld => ?_)⟩
              clear hK K he10 h10 H9
              rw [HSET.out]
              try simp only [List.getElem_toArray, List.getElem_cons_succ, List.getElem_cons_zero, Act.put, List.setIfInBounds_toArray, List.set_cons_zero, List.set_cons_succ]
              refine wpAnyH_take (i := 13) (v := ?_) rfl (by kernel_rfl) (by kernel_rfl) (by kernel_rfl) (fun _ _ _ h => h) ?_ hHeld ?_
              rotate_left
              · refine Or.inl ⟨by rfl, ?_⟩; intro w hSw; obtain ⟨hh2, hh3, hh4⟩ := hSw; go_simp <;> with_reducible rfl
              try simp only [List.getElem_toArray, List.getElem_cons_succ, List.getElem_cons_zero, Act.put, List.setIfInBounds_toArray, List.set_cons_zero, List.set_cons_succ]
              refine wpAnyH_take (i := 14) (v := undef) rfl (by kernel_rfl) (by kernel_rfl) (by kernel_rfl) (fun _ _ _ h => h) (Or.inr ⟨by rfl, rfl⟩) hHeld ?_
              try simp only [List.getElem_toArray, List.getElem_cons_succ, List.getElem_cons_zero, Act.put, List.setIfInBounds_toArray, List.set_cons_zero, List.set_cons_succ]
              refine wpAnyH_take (i := 15) (v := ?_) rfl (by kernel_rfl) (by kernel_rfl) (by kernel_rfl) (fun _ _ _ h => h) ?_ hHeld ?_
              rotate_left
              · refine Or.inl ⟨by rfl, ?_⟩; intro w hSw; obtain ⟨hh2, hh3, hh4⟩ := hSw; go_simp <;> with_reducible rfl
              try simp only [List.getElem_toArray, List.getElem_cons_succ, List.getElem_cons_zero, Act.put, List.setIfInBounds_toArray, List.set_cons_zero, List.set_cons_succ]
              refine wpAnyH_take (i := 16) (v := ?_) rfl (by kernel_rfl) (by kernel_rfl) (by kernel_rfl) (fun _ _ _ h => h) ?_ hHeld ?_
              rotate_left
              · refine Or.inl ⟨by rfl, ?_⟩; intro w hSw; obtain ⟨hh2, hh3, hh4⟩ := hSw; go_simp <;> with_reducible rfl
              try simp only [List.getElem_toArray, List.getElem_cons_succ, List.getElem_cons_zero, Act.put, List.setIfInBounds_toArray, List.set_cons_zero, List.set_cons_succ]
              refine wpAnyH_take (i := 17) (v := ?_) rfl (by kernel_rfl) (by kernel_rfl) (by kernel_rfl) (fun _ _ _ h => h) ?_ hHeld ?_
              rotate_left
              · refine Or.inl ⟨by rfl, ?_⟩; intro w hSw; obtain ⟨hh2, hh3, hh4⟩ := hSw; go_simp <;> with_reducible rfl
              try simp only [List.getElem_toArray, List.getElem_cons_succ, List.getElem_cons_zero, Act.put, List.setIfInBounds_toArray, List.set_cons_zero, List.set_cons_succ]
              refine wpAnyH_ready (rs := [18]) (by kernel_rfl) (by simp) ?_
              refine AllReadyH.cons rfl (fun K hK => ?_) AllReadyH.nil
              go_simp
              refine hK.out _ _ hHeld (fun hHeld => ?_)
              clear hK K
              try simp only [List.getElem_toArray, List.getElem_cons_succ, List.getElem_cons_zero, Act.put, List.setIfInBounds_toArray, List.set_cons_zero, List.set_cons_succ]
              refine wpAnyH_done (by kernel_rfl) ?_ _
              go_wp2_with fail
              go_ret
              exact ⟨by simp, trans2 HW0.out H10.out.nw.below⟩)
          | false =>
            go_wp2_with (first
              | (refine wpList_load_mid rfl 47 _ rfl D 0 rfl ns _ HRD.out Try.underlying47 rfl (by rw [HNO.out.len]; exact Try.infoNote) ?_)
              | (go_at_call 17; refine Calls.mono (sv.take w5 K5 V p from_ k nn ns H5.out.nw.at' HNO.out) ?_; rintro e w6 ⟨mv, K6, rfl, hn6, he6, hc6, hk6⟩
                 have h6 := H5.out.took he6 hc6 hk6
                 rw [show V.tells k = [] from if_neg (fun h => hk21 h.2)] at hn6
                 obtain ⟨ma, mc, rfl, _⟩ := RowAt.form hn6
                 obtain ⟨V6, hV6⟩ : ∃ V6, V.took from_ k nn = V6 := ⟨_, rfl⟩
                 have hset := took_set HV.out from_ k nn
                 rw [HWAS.out, HT.out, hV6] at hset
                 have HSET : Hid (V6.set = _) := hset
                 have ht6 : lastV V6.l = t := by rw [← hV6, took_l]; exact HT.out
                 have HT6 : Hid (lastV V6.l = t) := ht6
                 rw [hV6] at h6
                 have H6 : Hid (TT At W w6 K6 V6 p d t) := h6
                 have n0 := note_0 HNO.out (kept_block h6.nw.below HD0.out)
                 have n1 := note_1 HNO.out (kept_block h6.nw.below HD0.out)
                 obtain ⟨d0, d1, d2⟩ := h6.cells
                 clear he6 hc6 hk6 h6 hn6 hV6 hset ht6)
              | fail)
            all_goals (
              obtain ⟨w7, hw7⟩ : ∃ w7, w6.drew = w7 := ⟨_, rfl⟩
              have H7 : Hid (TT At W w7 K6 V6 p d t) := by rw [← hw7]; exact H6.out.on sv (below_drew (Below.refl _ _))
              refine wp_region_held_drew (S := (fun w' => w'.cell? ⟨d, 0, none⟩ = some (.int .i64 t.n) ∧ w'.cell? ⟨d, 1, none⟩ = some (.int .i64 t.p) ∧ w'.cell? ⟨d, 2, none⟩ = some (.int .i64 t.b))) (by kernel_rfl) (by rw [hw7]; exact H7.out.cells) (fun hHeld => ?_)
              rw [hw7] at hHeld ⊢
              clear hw7 H6 d0 d1 d2 n0 n1
              refine wpAnyH_take (i := 0) (v := ?_) rfl (by kernel_rfl) (by kernel_rfl) (by kernel_rfl) (fun _ _ _ h => h) ?_ hHeld ?_
              rotate_left
              · refine Or.inl ⟨by rfl, ?_⟩; intro w hSw; obtain ⟨hh2, hh3, hh4⟩ := hSw; go_simp <;> with_reducible rfl
              try simp only [List.getElem_toArray, List.getElem_cons_succ, List.getElem_cons_zero, Act.put, List.setIfInBounds_toArray, List.set_cons_zero, List.set_cons_succ]
              refine wpAnyH_take (i := 1) (v := ?_) rfl (by kernel_rfl) (by kernel_rfl) (by kernel_rfl) (fun _ _ _ h => h) ?_ hHeld ?_
              rotate_left
              · refine Or.inl ⟨by rfl, ?_⟩; intro w hSw; obtain ⟨hh2, hh3, hh4⟩ := hSw; go_simp <;> with_reducible rfl
              try simp only [List.getElem_toArray, List.getElem_cons_succ, List.getElem_cons_zero, Act.put, List.setIfInBounds_toArray, List.set_cons_zero, List.set_cons_succ]
              refine wpAnyH_take (i := 2) (v := ?_) rfl (by kernel_rfl) (by kernel_rfl) (by kernel_rfl) (fun _ _ _ h => h) ?_ hHeld ?_
              rotate_left
              · refine Or.inl ⟨by rfl, ?_⟩; intro w hSw; obtain ⟨hh2, hh3, hh4⟩ := hSw; go_simp <;> with_reducible rfl
              try simp only [List.getElem_toArray, List.getElem_cons_succ, List.getElem_cons_zero, Act.put, List.setIfInBounds_toArray, List.set_cons_zero, List.set_cons_succ]
              refine wpAnyH_take (i := 3) (v := ?_) rfl (by kernel_rfl) (by kernel_rfl) (by kernel_rfl) (fun _ _ _ h => h) ?_ hHeld ?_
              rotate_left
              · refine Or.inl ⟨by rfl, ?_⟩; intro w hSw; obtain ⟨hh2, hh3, hh4⟩ := hSw; go_simp <;> with_reducible rfl
              try simp only [List.getElem_toArray, List.getElem_cons_succ, List.getElem_cons_zero, Act.put, List.setIfInBounds_toArray, List.set_cons_zero, List.set_cons_succ]
              refine wpAnyH_take (i := 4) (v := ?_) rfl (by kernel_rfl) (by kernel_rfl) (by kernel_rfl) (fun _ _ _ h => h) ?_ hHeld ?_
              rotate_left
              · refine Or.inl ⟨by rfl, ?_⟩; intro w hSw; obtain ⟨hh2, hh3, hh4⟩ := hSw; go_simp <;> with_reducible rfl
              try simp only [List.getElem_toArray, List.getElem_cons_succ, List.getElem_cons_zero, Act.put, List.setIfInBounds_toArray, List.set_cons_zero, List.set_cons_succ]
              refine wpAnyH_take (i := 6) (v := ?_) rfl (by kernel_rfl) (by kernel_rfl) (by kernel_rfl) (fun _ _ _ h => h) ?_ hHeld ?_
              rotate_left
              · refine Or.inl ⟨by rfl, ?_⟩; intro w hSw; obtain ⟨hh2, hh3, hh4⟩ := hSw; go_simp <;> with_reducible rfl
              try simp only [List.getElem_toArray, List.getElem_cons_succ, List.getElem_cons_zero, Act.put, List.setIfInBounds_toArray, List.set_cons_zero, List.set_cons_succ]
              refine wpAnyH_ready (rs := [5]) (by kernel_rfl) (by simp) ?_
              refine AllReadyH.cons rfl (fun K hK => ?_) AllReadyH.nil
              refine step_callw (by rfl) 11 _ _ (by rfl) (fun _ _ => by rfl) [p] (by rfl) (sv.now w7 K6 V6 p H7.out.nw.at') ?_
              rintro e w9 ⟨rfl, he9⟩
              obtain ⟨K9, h9⟩ := H7.out.call he9
              have H9 : Hid (TT At W w9 K9 V6 p d t) := h9
              refine ⟨_, rfl, hK.out _ _ H9.out.cells (fun hHeld => ?_)⟩
              clear hK K he9 h9 H7
              rw [HT6.out]
              unfold vwV
              try simp only [List.getElem_toArray, List.getElem_cons_succ, List.getElem_cons_zero, Act.put, List.setIfInBounds_toArray, List.set_cons_zero, List.set_cons_succ]
              refine wpAnyH_take (i := 7) (v := ?_) rfl (by kernel_rfl) (by kernel_rfl) (by kernel_rfl) (fun _ _ _ h => h) ?_ hHeld ?_
              rotate_left
              · refine Or.inl ⟨by rfl, ?_⟩; intro w hSw; obtain ⟨hh2, hh3, hh4⟩ := hSw; go_simp <;> with_reducible rfl
              try simp only [List.getElem_toArray, List.getElem_cons_succ, List.getElem_cons_zero, Act.put, List.setIfInBounds_toArray, List.set_cons_zero, List.set_cons_succ]
              refine wpAnyH_take (i := 8) (v := ?_) rfl (by kernel_rfl) (by kernel_rfl) (by kernel_rfl) (fun _ _ _ h => h) ?_ hHeld ?_
              rotate_left
              · refine Or.inl ⟨by rfl, ?_⟩; intro w hSw; obtain ⟨hh2, hh3, hh4⟩ := hSw; go_simp <;> with_reducible rfl
              try simp only [List.getElem_toArray, List.getElem_cons_succ, List.getElem_cons_zero, Act.put, List.setIfInBounds_toArray, List.set_cons_zero, List.set_cons_succ]
              refine wpAnyH_take (i := 9) (v := ?_) rfl (by kernel_rfl) (by kernel_rfl) (by kernel_rfl) (fun _ _ _ h => h) ?_ hHeld ?_
              rotate_left
              · refine Or.inl ⟨by rfl, ?_⟩; intro w hSw; obtain ⟨hh2, hh3, hh4⟩ := hSw; go_simp <;> with_reducible rfl
              try simp only [List.getElem_toArray, List.getElem_cons_succ, List.getElem_cons_zero, Act.put, List.setIfInBounds_toArray, List.set_cons_zero, List.set_cons_succ]
              refine wpAnyH_take (i := 10) (v := ?_) rfl (by kernel_rfl) (by kernel_rfl) (by kernel_rfl) (fun _ _ _ h => h) ?_ hHeld ?_
              rotate_left
              · refine Or.inl ⟨by rfl, ?_⟩; intro w hSw; obtain ⟨hh2, hh3, hh4⟩ := hSw; go_simp <;> with_reducible rfl
              try simp only [List.getElem_toArray, List.getElem_cons_succ, List.getElem_cons_zero, Act.put, List.setIfInBounds_toArray, List.set_cons_zero, List.set_cons_succ]
              refine wpAnyH_take (i := 12) (v := ?_) rfl (by kernel_rfl) (by kernel_rfl) (by kernel_rfl) (fun _ _ _ h => h) ?_ hHeld ?_
              rotate_left
              · refine Or.inl ⟨by rfl, ?_⟩; intro w hSw; obtain ⟨hh2, hh3, hh4⟩ := hSw; go_simp <;> with_reducible rfl
              try simp only [List.getElem_toArray, List.getElem_cons_succ, List.getElem_cons_zero, Act.put, List.setIfInBounds_toArray, List.set_cons_zero, List.set_cons_succ]
              refine wpAnyH_ready (rs := [11]) (by kernel_rfl) (by simp) ?_
              refine AllReadyH.cons rfl (fun K hK => ?_) AllReadyH.nil
              refine step_callw (by rfl) 16 _ _ (by rfl) (fun _ _ => by rfl) [p] (by rfl) (sv.settled w9 K9 V6 p H9.out.nw.at') ?_
              rintro e w10 ⟨rfl, he10⟩
              obtain ⟨K10, h10⟩ := H9.out.call he10
              have H10 : Hid (TT At W w10 K10 V6 p d t) := h10
              refine ⟨_, rfl, hK.out _ _ H10.out.cells (fun hHeld => ?_)⟩
              clear hK K he10 h10 H9
              rw [HSET.out]
              try simp only [List.getElem_toArray, List.getElem_cons_succ, List.getElem_cons_zero, Act.put, List.setIfInBounds_toArray, List.set_cons_zero, List.set_cons_succ]
              refine wpAnyH_take (i := 13) (v := ?_) rfl (by kernel_rfl) (by kernel_rfl) (by kernel_rfl) (fun _ _ _ h => h) ?_ hHeld ?_
              rotate_left
              · refine Or.inl ⟨by rfl, ?_⟩; intro w hSw; obtain ⟨hh2, hh3, hh4⟩ := hSw; go_simp <;> with_reducible rfl
              try simp only [List.getElem_toArray, List.getElem_cons_succ, List.getElem_cons_zero, Act.put, List.setIfInBounds_toArray, List.set_cons_zero, List.set_cons_succ]
              refine wpAnyH_take (i := 14) (v := ?_) rfl (by kernel_rfl) (by kernel_rfl) (by kernel_rfl) (fun _ _ _ h => h) ?_ hHeld ?_
              rotate_left
              · refine Or.inl ⟨by rfl, ?_⟩; intro w hSw; obtain ⟨hh2, hh3, hh4⟩ := hSw; go_simp <;> with_reducible rfl
              try simp only [List.getElem_toArray, List.getElem_cons_succ, List.getElem_cons_zero, Act.put, List.setIfInBounds_toArray, List.set_cons_zero, List.set_cons_succ]
              refine wpAnyH_take (i := 15) (v := ?_) rfl (by kernel_rfl) (by kernel_rfl) (by kernel_rfl) (fun _ _ _ h => h) ?_ hHeld ?_
              rotate_left
              · refine Or.inl ⟨by rfl, ?_⟩; intro w hSw; obtain ⟨hh2, hh3, hh4⟩ := hSw; go_simp <;> with_reducible rfl
              try simp only [List.getElem_toArray, List.getElem_cons_succ, List.getElem_cons_zero, Act.put, List.setIfInBounds_toArray, List.set_cons_zero, List.set_cons_succ]
              refine wpAnyH_take (i := 16) (v := ?_) rfl (by kernel_rfl) (by kernel_rfl) (by kernel_rfl) (fun _ _ _ h => h) ?_ hHeld ?_
              rotate_left
              · refine Or.inl ⟨by rfl, ?_⟩; intro w hSw; obtain ⟨hh2, hh3, hh4⟩ := hSw; go_simp <;> with_reducible rfl
              try simp only [List.getElem_toArray, List.getElem_cons_succ, List.getElem_cons_zero, Act.put, List.setIfInBounds_toArray, List.set_cons_zero, List.set_cons_succ]
              refine wpAnyH_take (i := 17) (v := ?_) rfl (by kernel_rfl) (by kernel_rfl) (by kernel_rfl) (fun _ _ _ h => h) ?_ hHeld ?_
              rotate_left
              · refine Or.inl ⟨by rfl, ?_⟩; intro w hSw; obtain ⟨hh2, hh3, hh4⟩ := hSw; go_simp <;> with_reducible rfl
              try simp only [List.getElem_toArray, List.getElem_cons_succ, List.getElem_cons_zero, Act.put, List.setIfInBounds_toArray, List.set_cons_zero, List.set_cons_succ]
              refine wpAnyH_ready (rs := [18]) (by kernel_rfl) (by simp) ?_
              refine AllReadyH.cons rfl (fun K hK => ?_) AllReadyH.nil
              go_simp
              refine hK.out _ _ hHeld (fun hHeld => ?_)
              clear hK K
              try simp only [List.getElem_toArray, List.getElem_cons_succ, List.getElem_cons_zero, Act.put, List.setIfInBounds_toArray, List.set_cons_zero, List.set_cons_succ]
              refine wpAnyH_done (by kernel_rfl) ?_ _
              go_wp2_with fail
              go_ret
              exact ⟨by simp_all <;> rfl, trans2 HW0.out H10.out.nw.below⟩)
      · go_wp2_with fail
        refine Calls.mono (sv.now wr K V p HW.out.at') ?_
        rintro e w3 ⟨rfl, he3⟩
        obtain ⟨K3, h3⟩ := HW.out.call he3
        have H3 : Hid (Nw At W w3 K3 V p) := h3
        clear he3 h3
        obtain ⟨t, ht⟩ : ∃ t, lastV V.l = t := ⟨_, rfl⟩
        have HT : Hid (lastV V.l = t) := ht
        rw [ht]
        unfold vwV
        go_wp2_with fail
        obtain ⟨w4, hw4⟩ : ∃ w4, w3.alloc (.cells #[.int .i64 t.n, .int .i64 t.p, .int .i64 t.b] 28) = w4 := ⟨_, rfl⟩
        obtain ⟨d, hd⟩ : ∃ d, w3.heap.size = d := ⟨_, rfl⟩
        have H4 : Hid (TT At W w4 K3 V p d t) := ⟨H3.out.on sv (by rw [← hw4]; exact (Below.refl _ _).alloc (Nat.le_refl _) _), by rw [← hw4, ← hd]; exact heap_alloc_new _ _, fun hk => by have := sv.lt H3.out.at' d hk; omega⟩
        rw [hw4, hd]
        clear hw4 hd H3 ht
        refine Calls.mono (sv.settled w4 K3 V p H4.out.nw.at') ?_
        rintro e w5 ⟨rfl, he5⟩
        obtain ⟨K5, h5⟩ := H4.out.call he5
        have H5 : Hid (TT At W w5 K5 V p d t) := h5
        have HRD : Hid (w5.rangeAt D 0 ns) := range_of (kept_block h5.nw.below HD0.out)
        clear he5 h5 H4 HW
        obtain ⟨was, hwas⟩ : ∃ b, V.set = b := ⟨_, rfl⟩
        have HWAS : Hid (V.set = was) := hwas
        rw [hwas]
        clear hwas
        by_cases hk21 : k = 21
        · subst hk21
          go_wp2_with (first
            | (refine wpList_load_mid rfl 47 _ rfl D 0 rfl ns _ HRD.out Try.underlying47 rfl (by rw [HNO.out.len]; exact Try.infoNote) ?_)
            | (go_at_call 17; refine Calls.mono (sv.take w5 K5 V p from_ 21 nn ns H5.out.nw.at' HNO.out) ?_; rintro e w6 ⟨mv, K6, rfl, hn6, he6, hc6, hk6⟩
               have h6 := H5.out.took he6 hc6 hk6
               rw [show V.took from_ 21 nn = V from if_neg (by decide)] at h6
               rw [show V.tells 21 = [tellCs t] by unfold SvT.tells; rw [if_pos ⟨HV.out, rfl⟩, HT.out]] at hn6
               obtain ⟨mb, mo, mc, rfl, hmr, hml, hms⟩ := nos_one hn6
               have H6 : Hid (TN At W w6 K6 V p d t mb mo (tellCs t)) := ⟨h6, hmr, hml, hms.2⟩
               have n0 := note_0 HNO.out (kept_block h6.nw.below HD0.out)
               have n1 := note_1 HNO.out (kept_block h6.nw.below HD0.out)
               obtain ⟨d0, d1, d2⟩ := h6.cells
               clear he6 hc6 hk6 h6 hmr hn6 hml hms)
            | fail)
          obtain ⟨w7, hw7⟩ : ∃ w7, w6.drew = w7 := ⟨_, rfl⟩
          have H7 : Hid (TN At W w7 K6 V p d t mb mo (tellCs t)) := by rw [← hw7]; exact H6.out.on sv (below_drew (Below.refl _ _))
          refine wp_region_held_drew (S := (fun w' => w'.rangeAt mb mo (tellCs t) ∧ w'.cell? ⟨d, 0, none⟩ = some (.int .i64 t.n) ∧ w'.cell? ⟨d, 1, none⟩ = some (.int .i64 t.p) ∧ w'.cell? ⟨d, 2, none⟩ = some (.int .i64 t.b))) (by kernel_rfl) (by rw [hw7]; exact H7.out.st) (fun hHeld => ?_)
          rw [hw7] at hHeld ⊢
          clear hw7 H6
          refine wpAnyH_take (i := 0) (v := ?_) rfl (by kernel_rfl) (by kernel_rfl) (by kernel_rfl) (fun _ _ _ h => h) ?_ hHeld ?_
          rotate_left
          · refine Or.inl ⟨by rfl, ?_⟩; intro w hSw; obtain ⟨hh1, hh2, hh3, hh4⟩ := hSw; clear hh1; go_simp <;> with_reducible rfl
          try simp only [List.getElem_toArray, List.getElem_cons_succ, List.getElem_cons_zero, Act.put, List.setIfInBounds_toArray, List.set_cons_zero, List.set_cons_succ]
          refine wpAnyH_take (i := 1) (v := ?_) rfl (by kernel_rfl) (by kernel_rfl) (by kernel_rfl) (fun _ _ _ h => h) ?_ hHeld ?_
          rotate_left
          · refine Or.inl ⟨by rfl, ?_⟩; intro w hSw; obtain ⟨hh1, hh2, hh3, hh4⟩ := hSw; clear hh1; go_simp <;> with_reducible rfl
          try simp only [List.getElem_toArray, List.getElem_cons_succ, List.getElem_cons_zero, Act.put, List.setIfInBounds_toArray, List.set_cons_zero, List.set_cons_succ]
          refine wpAnyH_take (i := 2) (v := ?_) rfl (by kernel_rfl) (by kernel_rfl) (by kernel_rfl) (fun _ _ _ h => h) ?_ hHeld ?_
          rotate_left
          · refine Or.inl ⟨by rfl, ?_⟩; intro w hSw; obtain ⟨hh1, hh2, hh3, hh4⟩ := hSw; clear hh1; go_simp <;> with_reducible rfl
          try simp only [List.getElem_toArray, List.getElem_cons_succ, List.getElem_cons_zero, Act.put, List.setIfInBounds_toArray, List.set_cons_zero, List.set_cons_succ]
          refine wpAnyH_take (i := 3) (v := ?_) rfl (by kernel_rfl) (by kernel_rfl) (by kernel_rfl) (fun _ _ _ h => h) ?_ hHeld ?_
          rotate_left
          · refine Or.inl ⟨by rfl, ?_⟩; intro w hSw; obtain ⟨hh1, hh2, hh3, hh4⟩ := hSw; clear hh1; go_simp <;> with_reducible rfl
          try simp only [List.getElem_toArray, List.getElem_cons_succ, List.getElem_cons_zero, Act.put, List.setIfInBounds_toArray, List.set_cons_zero, List.set_cons_succ]
          refine wpAnyH_take (i := 4) (v := ?_) rfl (by kernel_rfl) (by kernel_rfl) (by kernel_rfl) (fun _ _ _ h => h) ?_ hHeld ?_
          rotate_left
          · refine Or.inl ⟨by rfl, ?_⟩; intro w hSw; obtain ⟨hh1, hh2, hh3, hh4⟩ := hSw; clear hh1; go_simp <;> with_reducible rfl
          try simp only [List.getElem_toArray, List.getElem_cons_succ, List.getElem_cons_zero, Act.put, List.setIfInBounds_toArray, List.set_cons_zero, List.set_cons_succ]
          refine wpAnyH_take (i := 5) (v := ?_) rfl (by kernel_rfl) (by kernel_rfl) (by kernel_rfl) (fun _ _ _ h => h) ?_ hHeld ?_
          rotate_left
          · refine Or.inl ⟨by rfl, ?_⟩; intro w hSw; obtain ⟨hh1, hh2, hh3, hh4⟩ := hSw; clear hh1; go_simp <;> with_reducible rfl
          try simp only [List.getElem_toArray, List.getElem_cons_succ, List.getElem_cons_zero, Act.put, List.setIfInBounds_toArray, List.set_cons_zero, List.set_cons_succ]
          refine wpAnyH_take (i := 6) rfl (by kernel_rfl) (by kernel_rfl) (by kernel_rfl) (fun _ _ _ h => h) (yieldsIf_load_mid (by rfl) 47 _ rfl mb mo (by rfl) (tellCs t) _ (fun w hSw => hSw.1) Try.underlying47 rfl Try.infoNote) hHeld ?_
          try simp only [List.getElem_toArray, List.getElem_cons_succ, List.getElem_cons_zero, Act.put, List.setIfInBounds_toArray, List.set_cons_zero, List.set_cons_succ]
          refine wpAnyH_take (i := 7) (v := ?_) rfl (by kernel_rfl) (by kernel_rfl) (by kernel_rfl) (fun _ _ _ h => h) ?_ hHeld ?_
          rotate_left
          · refine Or.inl ⟨by rfl, ?_⟩; intro w hSw; obtain ⟨hh1, hh2, hh3, hh4⟩ := hSw; clear hh1; go_simp <;> with_reducible rfl
          try simp only [List.getElem_toArray, List.getElem_cons_succ, List.getElem_cons_zero, Act.put, List.setIfInBounds_toArray, List.set_cons_zero, List.set_cons_succ]
          refine wpAnyH_ready (rs := [8]) (by kernel_rfl) (by simp) ?_
          refine AllReadyH.cons rfl (fun K hK => ?_) AllReadyH.nil
          refine step_callw (by rfl) 18 _ _ (by rfl) (fun _ _ => by rfl) [.agg (tellCs t).toArray, .int .i64 22, vwV t] (by rfl) (bare_tell t w7) ?_
          rintro e w8 ⟨rfl, hb8⟩
          have H8 : Hid (TN At W w8 K6 V p d t mb mo (tellCs t)) := H7.out.on sv hb8
          refine ⟨_, rfl, hK.out _ _ H8.out.st (fun hHeld => ?_)⟩
          clear hK K hb8 H7
          try simp only [List.getElem_toArray, List.getElem_cons_succ, List.getElem_cons_zero, Act.put, List.setIfInBounds_toArray, List.set_cons_zero, List.set_cons_succ]
          refine wpAnyH_take (i := 9) (v := ?_) rfl (by kernel_rfl) (by kernel_rfl) (by kernel_rfl) (fun _ _ _ h => h) ?_ hHeld ?_
          rotate_left
          · refine Or.inl ⟨by rfl, ?_⟩; intro w hSw; obtain ⟨hh1, hh2, hh3, hh4⟩ := hSw; clear hh1; go_simp <;> with_reducible rfl
          try simp only [List.getElem_toArray, List.getElem_cons_succ, List.getElem_cons_zero, Act.put, List.setIfInBounds_toArray, List.set_cons_zero, List.set_cons_succ]
          refine wpAnyH_take (i := 10) (v := ?_) rfl (by kernel_rfl) (by kernel_rfl) (by kernel_rfl) (fun _ _ _ h => h) ?_ hHeld ?_
          rotate_left
          · refine Or.inl ⟨by rfl, ?_⟩; intro w hSw; obtain ⟨hh1, hh2, hh3, hh4⟩ := hSw; clear hh1; go_simp <;> with_reducible rfl
          try simp only [List.getElem_toArray, List.getElem_cons_succ, List.getElem_cons_zero, Act.put, List.setIfInBounds_toArray, List.set_cons_zero, List.set_cons_succ]
          refine wpAnyH_take (i := 11) (v := ?_) rfl (by kernel_rfl) (by kernel_rfl) (by kernel_rfl) (fun _ _ _ h => h) ?_ hHeld ?_
          rotate_left
          · refine Or.inl ⟨by rfl, ?_⟩; intro w hSw; obtain ⟨hh1, hh2, hh3, hh4⟩ := hSw; clear hh1; go_simp <;> with_reducible rfl
          try simp only [List.getElem_toArray, List.getElem_cons_succ, List.getElem_cons_zero, Act.put, List.setIfInBounds_toArray, List.set_cons_zero, List.set_cons_succ]
          refine wpAnyH_take (i := 13) (v := ?_) rfl (by kernel_rfl) (by kernel_rfl) (by kernel_rfl) (fun _ _ _ h => h) ?_ hHeld ?_
          rotate_left
          · refine Or.inl ⟨by rfl, ?_⟩; intro w hSw; obtain ⟨hh1, hh2, hh3, hh4⟩ := hSw; clear hh1; go_simp <;> with_reducible rfl
          try simp only [List.getElem_toArray, List.getElem_cons_succ, List.getElem_cons_zero, Act.put, List.setIfInBounds_toArray, List.set_cons_zero, List.set_cons_succ]
          refine wpAnyH_ready (rs := [12]) (by kernel_rfl) (by simp) ?_
          refine AllReadyH.cons rfl (fun K hK => ?_) AllReadyH.nil
          refine step_callw (by rfl) 11 _ _ (by rfl) (fun _ _ => by rfl) [p] (by rfl) (sv.now w8 K6 V p H8.out.nw.at') ?_
          rintro e w9 ⟨rfl, he9⟩
          obtain ⟨K9, h9⟩ := H8.out.call he9
          have H9 : Hid (TN At W w9 K9 V p d t mb mo (tellCs t)) := h9
          refine ⟨_, rfl, hK.out _ _ H9.out.st (fun hHeld => ?_)⟩
          clear hK K he9 h9 H8
          rw [HT.out]
          unfold vwV
          try simp only [List.getElem_toArray, List.getElem_cons_succ, List.getElem_cons_zero, Act.put, List.setIfInBounds_toArray, List.set_cons_zero, List.set_cons_succ]
          refine wpAnyH_take (i := 14) (v := ?_) rfl (by kernel_rfl) (by kernel_rfl) (by kernel_rfl) (fun _ _ _ h => h) ?_ hHeld ?_
          rotate_left
          · refine Or.inl ⟨by rfl, ?_⟩; intro w hSw; obtain ⟨hh1, hh2, hh3, hh4⟩ := hSw; clear hh1; go_simp <;> with_reducible rfl
          try simp only [List.getElem_toArray, List.getElem_cons_succ, List.getElem_cons_zero, Act.put, List.setIfInBounds_toArray, List.set_cons_zero, List.set_cons_succ]
          refine wpAnyH_take (i := 15) (v := ?_) rfl (by kernel_rfl) (by kernel_rfl) (by kernel_rfl) (fun _ _ _ h => h) ?_ hHeld ?_
          rotate_left
          · refine Or.inl ⟨by rfl, ?_⟩; intro w hSw; obtain ⟨hh1, hh2, hh3, hh4⟩ := hSw; clear hh1; go_simp <;> with_reducible rfl
          try simp only [List.getElem_toArray, List.getElem_cons_succ, List.getElem_cons_zero, Act.put, List.setIfInBounds_toArray, List.set_cons_zero, List.set_cons_succ]
          refine wpAnyH_take (i := 16) (v := ?_) rfl (by kernel_rfl) (by kernel_rfl) (by kernel_rfl) (fun _ _ _ h => h) ?_ hHeld ?_
          rotate_left
          · refine Or.inl ⟨by rfl, ?_⟩; intro w hSw; obtain ⟨hh1, hh2, hh3, hh4⟩ := hSw; clear hh1; go_simp <;> with_reducible rfl
          try simp only [List.getElem_toArray, List.getElem_cons_succ, List.getElem_cons_zero, Act.put, List.setIfInBounds_toArray, List.set_cons_zero, List.set_cons_succ]
          refine wpAnyH_take (i := 17) (v := ?_) rfl (by kernel_rfl) (by kernel_rfl) (by kernel_rfl) (fun _ _ _ h => h) ?_ hHeld ?_
          rotate_left
          · refine Or.inl ⟨by rfl, ?_⟩; intro w hSw; obtain ⟨hh1, hh2, hh3, hh4⟩ := hSw; clear hh1; go_simp <;> with_reducible rfl
          try simp only [List.getElem_toArray, List.getElem_cons_succ, List.getElem_cons_zero, Act.put, List.setIfInBounds_toArray, List.set_cons_zero, List.set_cons_succ]
          refine wpAnyH_take (i := 19) (v := ?_) rfl (by kernel_rfl) (by kernel_rfl) (by kernel_rfl) (fun _ _ _ h => h) ?_ hHeld ?_
          rotate_left
          · refine Or.inl ⟨by rfl, ?_⟩; intro w hSw; obtain ⟨hh1, hh2, hh3, hh4⟩ := hSw; clear hh1; go_simp <;> with_reducible rfl
          try simp only [List.getElem_toArray, List.getElem_cons_succ, List.getElem_cons_zero, Act.put, List.setIfInBounds_toArray, List.set_cons_zero, List.set_cons_succ]
          refine wpAnyH_ready (rs := [18]) (by kernel_rfl) (by simp) ?_
          refine AllReadyH.cons rfl (fun K hK => ?_) AllReadyH.nil
          refine step_callw (by rfl) 16 _ _ (by rfl) (fun _ _ => by rfl) [p] (by rfl) (sv.settled w9 K9 V p H9.out.nw.at') ?_
          rintro e w10 ⟨rfl, he10⟩
          obtain ⟨K10, h10⟩ := H9.out.call he10
          have H10 : Hid (TN At W w10 K10 V p d t mb mo (tellCs t)) := h10
          refine ⟨_, rfl, hK.out _ _ H10.out.st (fun hHeld => ?_)⟩
          clear hK K he10 h10 H9
          rw [HWAS.out]
          try simp only [List.getElem_toArray, List.getElem_cons_succ, List.getElem_cons_zero, Act.put, List.setIfInBounds_toArray, List.set_cons_zero, List.set_cons_succ]
          refine wpAnyH_take (i := 20) (v := ?_) rfl (by kernel_rfl) (by kernel_rfl) (by kernel_rfl) (fun _ _ _ h => h) ?_ hHeld ?_
          rotate_left
          · refine Or.inl ⟨by rfl, ?_⟩; intro w hSw; obtain ⟨hh1, hh2, hh3, hh4⟩ := hSw; clear hh1; go_simp <;> with_reducible rfl
          try simp only [List.getElem_toArray, List.getElem_cons_succ, List.getElem_cons_zero, Act.put, List.setIfInBounds_toArray, List.set_cons_zero, List.set_cons_succ]
          refine wpAnyH_take (i := 21) (v := ?_) rfl (by kernel_rfl) (by kernel_rfl) (by kernel_rfl) (fun _ _ _ h => h) ?_ hHeld ?_
          rotate_left
          · refine Or.inl ⟨by rfl, ?_⟩; intro w hSw; obtain ⟨hh1, hh2, hh3, hh4⟩ := hSw; clear hh1; go_simp <;> with_reducible rfl
          try simp only [List.getElem_toArray, List.getElem_cons_succ, List.getElem_cons_zero, Act.put, List.setIfInBounds_toArray, List.set_cons_zero, List.set_cons_succ]
          refine wpAnyH_ready (rs := [22]) (by kernel_rfl) (by simp) ?_
          refine AllReadyH.cons rfl (fun K hK => ?_) AllReadyH.nil
          go_simp
          refine hK.out _ _ hHeld (fun hHeld => ?_)
          clear hK K
          try simp only [List.getElem_toArray, List.getElem_cons_succ, List.getElem_cons_zero, Act.put, List.setIfInBounds_toArray, List.set_cons_zero, List.set_cons_succ]
          refine wpAnyH_done (by kernel_rfl) ?_ _
          go_wp2_with fail
          go_ret
          exact ⟨by simp, trans2 HW0.out H10.out.nw.below⟩
        · cases was with
          | true =>
            go_wp2_with (first
              | (refine wpList_load_mid rfl 47 _ rfl D 0 rfl ns _ HRD.out Try.underlying47 rfl (by rw [HNO.out.len]; exact Try.infoNote) ?_)
              | (go_at_call 17; refine Calls.mono (sv.take w5 K5 V p from_ k nn ns H5.out.nw.at' HNO.out) ?_; rintro e w6 ⟨mv, K6, rfl, hn6, he6, hc6, hk6⟩
                 have h6 := H5.out.took he6 hc6 hk6
                 rw [show V.tells k = [] from if_neg (fun h => hk21 h.2)] at hn6
                 obtain ⟨ma, mc, rfl, _⟩ := RowAt.form hn6
                 obtain ⟨V6, hV6⟩ : ∃ V6, V.took from_ k nn = V6 := ⟨_, rfl⟩
                 have hset := took_set HV.out from_ k nn
                 rw [HWAS.out, HT.out, hV6] at hset
                 have HSET : Hid (V6.set = _) := hset
                 have ht6 : lastV V6.l = t := by rw [← hV6, took_l]; exact HT.out
                 have HT6 : Hid (lastV V6.l = t) := ht6
                 rw [hV6] at h6
                 have H6 : Hid (TT At W w6 K6 V6 p d t) := h6
                 have n0 := note_0 HNO.out (kept_block h6.nw.below HD0.out)
                 have n1 := note_1 HNO.out (kept_block h6.nw.below HD0.out)
                 obtain ⟨d0, d1, d2⟩ := h6.cells
                 clear he6 hc6 hk6 h6 hn6 hV6 hset ht6)
              | fail)
            all_goals (
              obtain ⟨w7, hw7⟩ : ∃ w7, w6.drew = w7 := ⟨_, rfl⟩
              have H7 : Hid (TT At W w7 K6 V6 p d t) := by rw [← hw7]; exact H6.out.on sv (below_drew (Below.refl _ _))
              refine wp_region_held_drew (S := (fun w' => w'.cell? ⟨d, 0, none⟩ = some (.int .i64 t.n) ∧ w'.cell? ⟨d, 1, none⟩ = some (.int .i64 t.p) ∧ w'.cell? ⟨d, 2, none⟩ = some (.int .i64 t.b))) (by kernel_rfl) (by rw [hw7]; exact H7.out.cells) (fun hHeld => ?_)
              rw [hw7] at hHeld ⊢
              clear hw7 H6 d0 d1 d2 n0 n1
              refine wpAnyH_take (i := 0) (v := ?_) rfl (by kernel_rfl) (by kernel_rfl) (by kernel_rfl) (fun _ _ _ h => h) ?_ hHeld ?_
              rotate_left
              · refine Or.inl ⟨by rfl, ?_⟩; intro w hSw; obtain ⟨hh2, hh3, hh4⟩ := hSw; go_simp <;> with_reducible rfl
              try simp only [List.getElem_toArray, List.getElem_cons_succ, List.getElem_cons_zero, Act.put, List.setIfInBounds_toArray, List.set_cons_zero, List.set_cons_succ]
              refine wpAnyH_take (i := 1) (v := ?_) rfl (by kernel_rfl) (by kernel_rfl) (by kernel_rfl) (fun _ _ _ h => h) ?_ hHeld ?_
              rotate_left
              · refine Or.inl ⟨by rfl, ?_⟩; intro w hSw; obtain ⟨hh2, hh3, hh4⟩ := hSw; go_simp <;> with_reducible rfl
              try simp only [List.getElem_toArray, List.getElem_cons_succ, List.getElem_cons_zero, Act.put, List.setIfInBounds_toArray, List.set_cons_zero, List.set_cons_succ]
              refine wpAnyH_take (i := 2) (v := ?_) rfl (by kernel_rfl) (by kernel_rfl) (by kernel_rfl) (fun _ _ _ h => h) ?_ hHeld ?_
              rotate_left
              · refine Or.inl ⟨by rfl, ?_⟩; intro w hSw; obtain ⟨hh2, hh3, hh4⟩ := hSw; go_simp <;> with_reducible rfl
              try simp only [List.getElem_toArray, List.getElem_cons_succ, List.getElem_cons_zero, Act.put, List.setIfInBounds_toArray, List.set_cons_zero, List.set_cons_succ]
              refine wpAnyH_take (i := 3) (v := ?_) rfl (by kernel_rfl) (by kernel_rfl) (by kernel_rfl) (fun _ _ _ h => h) ?_ hHeld ?_
              rotate_left
              · refine Or.inl ⟨by rfl, ?_⟩; intro w hSw; obtain ⟨hh2, hh3, hh4⟩ := hSw; go_simp <;> with_reducible rfl
              try simp only [List.getElem_toArray, List.getElem_cons_succ, List.getElem_cons_zero, Act.put, List.setIfInBounds_toArray, List.set_cons_zero, List.set_cons_succ]
              refine wpAnyH_take (i := 4) (v := ?_) rfl (by kernel_rfl) (by kernel_rfl) (by kernel_rfl) (fun _ _ _ h => h) ?_ hHeld ?_
              rotate_left
              · refine Or.inl ⟨by rfl, ?_⟩; intro w hSw; obtain ⟨hh2, hh3, hh4⟩ := hSw; go_simp <;> with_reducible rfl
              try simp only [List.getElem_toArray, List.getElem_cons_succ, List.getElem_cons_zero, Act.put, List.setIfInBounds_toArray, List.set_cons_zero, List.set_cons_succ]
              refine wpAnyH_take (i := 6) (v := ?_) rfl (by kernel_rfl) (by kernel_rfl) (by kernel_rfl) (fun _ _ _ h => h) ?_ hHeld ?_
              rotate_left
              · refine Or.inl ⟨by rfl, ?_⟩; intro w hSw; obtain ⟨hh2, hh3, hh4⟩ := hSw; go_simp <;> with_reducible rfl
              try simp only [List.getElem_toArray, List.getElem_cons_succ, List.getElem_cons_zero, Act.put, List.setIfInBounds_toArray, List.set_cons_zero, List.set_cons_succ]
              refine wpAnyH_ready (rs := [5]) (by kernel_rfl) (by simp) ?_
              refine AllReadyH.cons rfl (fun K hK => ?_) AllReadyH.nil
              refine step_callw (by rfl) 11 _ _ (by rfl) (fun _ _ => by rfl) [p] (by rfl) (sv.now w7 K6 V6 p H7.out.nw.at') ?_
              rintro e w9 ⟨rfl, he9⟩
              obtain ⟨K9, h9⟩ := H7.out.call he9
              have H9 : Hid (TT At W w9 K9 V6 p d t) := h9
              refine ⟨_, rfl, hK.out _ _ H9.out.cells (fun hHeld => ?_)⟩
              clear hK K he9 h9 H7
              rw [HT6.out]
              unfold vwV
              try simp only [List.getElem_toArray, List.getElem_cons_succ, List.getElem_cons_zero, Act.put, List.setIfInBounds_toArray, List.set_cons_zero, List.set_cons_succ]
              refine wpAnyH_take (i := 7) (v := ?_) rfl (by kernel_rfl) (by kernel_rfl) (by kernel_rfl) (fun _ _ _ h => h) ?_ hHeld ?_
              rotate_left
              · refine Or.inl ⟨by rfl, ?_⟩; intro w hSw; obtain ⟨hh2, hh3, hh4⟩ := hSw; go_simp <;> with_reducible rfl
              try simp only [List.getElem_toArray, List.getElem_cons_succ, List.getElem_cons_zero, Act.put, List.setIfInBounds_toArray, List.set_cons_zero, List.set_cons_succ]
              refine wpAnyH_take (i := 8) (v := ?_) rfl (by kernel_rfl) (by kernel_rfl) (by kernel_rfl) (fun _ _ _ h => h) ?_ hHeld ?_
              rotate_left
              · refine Or.inl ⟨by rfl, ?_⟩; intro w hSw; obtain ⟨hh2, hh3, hh4⟩ := hSw; go_simp <;> with_reducible rfl
              try simp only [List.getElem_toArray, List.getElem_cons_succ, List.getElem_cons_zero, Act.put, List.setIfInBounds_toArray, List.set_cons_zero, List.set_cons_succ]
              refine wpAnyH_take (i := 9) (v := ?_) rfl (by kernel_rfl) (by kernel_rfl) (by kernel_rfl) (fun _ _ _ h => h) ?_ hHeld ?_
              rotate_left
              · refine Or.inl ⟨by rfl, ?_⟩; intro w hSw; obtain ⟨hh2, hh3, hh4⟩ := hSw; go_simp <;> with_reducible rfl
              try simp only [List.getElem_toArray, List.getElem_cons_succ, List.getElem_cons_zero, Act.put, List.setIfInBounds_toArray, List.set_cons_zero, List.set_cons_succ]
              refine wpAnyH_take (i := 10) (v := ?_) rfl (by kernel_rfl) (by kernel_rfl) (by kernel_rfl) (fun _ _ _ h => h) ?_ hHeld ?_
              rotate_left
              · refine Or.inl ⟨by rfl, ?_⟩; intro w hSw; obtain ⟨hh2, hh3, hh4⟩ := hSw; go_simp <;> with_reducible rfl
              try simp only [List.getElem_toArray, List.getElem_cons_succ, List.getElem_cons_zero, Act.put, List.setIfInBounds_toArray, List.set_cons_zero, List.set_cons_succ]
              refine wpAnyH_take (i := 12) (v := ?_) rfl (by kernel_rfl) (by kernel_rfl) (by kernel_rfl) (fun _ _ _ h => h) ?_ hHeld ?_
              rotate_left
              · refine Or.inl ⟨by rfl, ?_⟩; intro w hSw; obtain ⟨hh2, hh3, hh4⟩ := hSw; go_simp <;> with_reducible rfl
              try simp only [List.getElem_toArray, List.getElem_cons_succ, List.getElem_cons_zero, Act.put, List.setIfInBounds_toArray, List.set_cons_zero, List.set_cons_succ]
              refine wpAnyH_ready (rs := [11]) (by kernel_rfl) (by simp) ?_
              refine AllReadyH.cons rfl (fun K hK => ?_) AllReadyH.nil
              refine step_callw (by rfl) 16 _ _ (by rfl) (fun _ _ => by rfl) [p] (by rfl) (sv.settled w9 K9 V6 p H9.out.nw.at') ?_
              rintro e w10 ⟨rfl, he10⟩
              obtain ⟨K10, h10⟩ := H9.out.call he10
              have H10 : Hid (TT At W w10 K10 V6 p d t) := h10
              refine ⟨_, rfl, hK.out _ _ H10.out.cells (fun hHeld => ?_)⟩
              clear hK K he10 h10 H9
              rw [HSET.out]
              try simp only [List.getElem_toArray, List.getElem_cons_succ, List.getElem_cons_zero, Act.put, List.setIfInBounds_toArray, List.set_cons_zero, List.set_cons_succ]
              refine wpAnyH_take (i := 13) (v := ?_) rfl (by kernel_rfl) (by kernel_rfl) (by kernel_rfl) (fun _ _ _ h => h) ?_ hHeld ?_
              rotate_left
              · refine Or.inl ⟨by rfl, ?_⟩; intro w hSw; obtain ⟨hh2, hh3, hh4⟩ := hSw; go_simp <;> with_reducible rfl
              try simp only [List.getElem_toArray, List.getElem_cons_succ, List.getElem_cons_zero, Act.put, List.setIfInBounds_toArray, List.set_cons_zero, List.set_cons_succ]
              refine wpAnyH_take (i := 14) (v := undef) rfl (by kernel_rfl) (by kernel_rfl) (by kernel_rfl) (fun _ _ _ h => h) (Or.inr ⟨by rfl, rfl⟩) hHeld ?_
              try simp only [List.getElem_toArray, List.getElem_cons_succ, List.getElem_cons_zero, Act.put, List.setIfInBounds_toArray, List.set_cons_zero, List.set_cons_succ]
              refine wpAnyH_take (i := 15) (v := ?_) rfl (by kernel_rfl) (by kernel_rfl) (by kernel_rfl) (fun _ _ _ h => h) ?_ hHeld ?_
              rotate_left
              · refine Or.inl ⟨by rfl, ?_⟩; intro w hSw; obtain ⟨hh2, hh3, hh4⟩ := hSw; go_simp <;> with_reducible rfl
              try simp only [List.getElem_toArray, List.getElem_cons_succ, List.getElem_cons_zero, Act.put, List.setIfInBounds_toArray, List.set_cons_zero, List.set_cons_succ]
              refine wpAnyH_take (i := 16) (v := ?_) rfl (by kernel_rfl) (by kernel_rfl) (by kernel_rfl) (fun _ _ _ h => h) ?_ hHeld ?_
              rotate_left
              · refine Or.inl ⟨by rfl, ?_⟩; intro w hSw; obtain ⟨hh2, hh3, hh4⟩ := hSw; go_simp <;> with_reducible rfl
              try simp only [List.getElem_toArray, List.getElem_cons_succ, List.getElem_cons_zero, Act.put, List.setIfInBounds_toArray, List.set_cons_zero, List.set_cons_succ]
              refine wpAnyH_take (i := 17) (v := ?_) rfl (by kernel_rfl) (by kernel_rfl) (by kernel_rfl) (fun _ _ _ h => h) ?_ hHeld ?_
              rotate_left
              · refine Or.inl ⟨by rfl, ?_⟩; intro w hSw; obtain ⟨hh2, hh3, hh4⟩ := hSw; go_simp <;> with_reducible rfl
              try simp only [List.getElem_toArray, List.getElem_cons_succ, List.getElem_cons_zero, Act.put, List.setIfInBounds_toArray, List.set_cons_zero, List.set_cons_succ]
              refine wpAnyH_ready (rs := [18]) (by kernel_rfl) (by simp) ?_
              refine AllReadyH.cons rfl (fun K hK => ?_) AllReadyH.nil
              go_simp
              refine hK.out _ _ hHeld (fun hHeld => ?_)
              clear hK K
              try simp only [List.getElem_toArray, List.getElem_cons_succ, List.getElem_cons_zero, Act.put, List.setIfInBounds_toArray, List.set_cons_zero, List.set_cons_succ]
              refine wpAnyH_done (by kernel_rfl) ?_ _
              go_wp2_with fail
              go_ret
              exact ⟨by simp, trans2 HW0.out H10.out.nw.below⟩)
          | false =>
            go_wp2_with (first
              | (refine wpList_load_mid rfl 47 _ rfl D 0 rfl ns _ HRD.out Try.underlying47 rfl (by rw [HNO.out.len]; exact Try.infoNote) ?_)
              | (go_at_call 17; refine Calls.mono (sv.take w5 K5 V p from_ k nn ns H5.out.nw.at' HNO.out) ?_; rintro e w6 ⟨mv, K6, rfl, hn6, he6, hc6, hk6⟩
                 have h6 := H5.out.took he6 hc6 hk6
                 rw [show V.tells k = [] from if_neg (fun h => hk21 h.2)] at hn6
                 obtain ⟨ma, mc, rfl, _⟩ := RowAt.form hn6
                 obtain ⟨V6, hV6⟩ : ∃ V6, V.took from_ k nn = V6 := ⟨_, rfl⟩
                 have hset := took_set HV.out from_ k nn
                 rw [HWAS.out, HT.out, hV6] at hset
                 have HSET : Hid (V6.set = _) := hset
                 have ht6 : lastV V6.l = t := by rw [← hV6, took_l]; exact HT.out
                 have HT6 : Hid (lastV V6.l = t) := ht6
                 rw [hV6] at h6
                 have H6 : Hid (TT At W w6 K6 V6 p d t) := h6
                 have n0 := note_0 HNO.out (kept_block h6.nw.below HD0.out)
                 have n1 := note_1 HNO.out (kept_block h6.nw.below HD0.out)
                 obtain ⟨d0, d1, d2⟩ := h6.cells
                 clear he6 hc6 hk6 h6 hn6 hV6 hset ht6)
              | fail)
            all_goals (
              obtain ⟨w7, hw7⟩ : ∃ w7, w6.drew = w7 := ⟨_, rfl⟩
              have H7 : Hid (TT At W w7 K6 V6 p d t) := by rw [← hw7]; exact H6.out.on sv (below_drew (Below.refl _ _))
              refine wp_region_held_drew (S := (fun w' => w'.cell? ⟨d, 0, none⟩ = some (.int .i64 t.n) ∧ w'.cell? ⟨d, 1, none⟩ = some (.int .i64 t.p) ∧ w'.cell? ⟨d, 2, none⟩ = some (.int .i64 t.b))) (by kernel_rfl) (by rw [hw7]; exact H7.out.cells) (fun hHeld => ?_)
              rw [hw7] at hHeld ⊢
              clear hw7 H6 d0 d1 d2 n0 n1
              refine wpAnyH_take (i := 0) (v := ?_) rfl (by kernel_rfl) (by kernel_rfl) (by kernel_rfl) (fun _ _ _ h => h) ?_ hHeld ?_
              rotate_left
              · refine Or.inl ⟨by rfl, ?_⟩; intro w hSw; obtain ⟨hh2, hh3, hh4⟩ := hSw; go_simp <;> with_reducible rfl
              try simp only [List.getElem_toArray, List.getElem_cons_succ, List.getElem_cons_zero, Act.put, List.setIfInBounds_toArray, List.set_cons_zero, List.set_cons_succ]
              refine wpAnyH_take (i := 1) (v := ?_) rfl (by kernel_rfl) (by kernel_rfl) (by kernel_rfl) (fun _ _ _ h => h) ?_ hHeld ?_
              rotate_left
              · refine Or.inl ⟨by rfl, ?_⟩; intro w hSw; obtain ⟨hh2, hh3, hh4⟩ := hSw; go_simp <;> with_reducible rfl
              try simp only [List.getElem_toArray, List.getElem_cons_succ, List.getElem_cons_zero, Act.put, List.setIfInBounds_toArray, List.set_cons_zero, List.set_cons_succ]
              refine wpAnyH_take (i := 2) (v := ?_) rfl (by kernel_rfl) (by kernel_rfl) (by kernel_rfl) (fun _ _ _ h => h) ?_ hHeld ?_
              rotate_left
              · refine Or.inl ⟨by rfl, ?_⟩; intro w hSw; obtain ⟨hh2, hh3, hh4⟩ := hSw; go_simp <;> with_reducible rfl
              try simp only [List.getElem_toArray, List.getElem_cons_succ, List.getElem_cons_zero, Act.put, List.setIfInBounds_toArray, List.set_cons_zero, List.set_cons_succ]
              refine wpAnyH_take (i := 3) (v := ?_) rfl (by kernel_rfl) (by kernel_rfl) (by kernel_rfl) (fun _ _ _ h => h) ?_ hHeld ?_
              rotate_left
              · refine Or.inl ⟨by rfl, ?_⟩; intro w hSw; obtain ⟨hh2, hh3, hh4⟩ := hSw; go_simp <;> with_reducible rfl
              try simp only [List.getElem_toArray, List.getElem_cons_succ, List.getElem_cons_zero, Act.put, List.setIfInBounds_toArray, List.set_cons_zero, List.set_cons_succ]
              refine wpAnyH_take (i := 4) (v := ?_) rfl (by kernel_rfl) (by kernel_rfl) (by kernel_rfl) (fun _ _ _ h => h) ?_ hHeld ?_
              rotate_left
              · refine Or.inl ⟨by rfl, ?_⟩; intro w hSw; obtain ⟨hh2, hh3, hh4⟩ := hSw; go_simp <;> with_reducible rfl
              try simp only [List.getElem_toArray, List.getElem_cons_succ, List.getElem_cons_zero, Act.put, List.setIfInBounds_toArray, List.set_cons_zero, List.set_cons_succ]
              refine wpAnyH_take (i := 6) (v := ?_) rfl (by kernel_rfl) (by kernel_rfl) (by kernel_rfl) (fun _ _ _ h => h) ?_ hHeld ?_
              rotate_left
              · refine Or.inl ⟨by rfl, ?_⟩; intro w hSw; obtain ⟨hh2, hh3, hh4⟩ := hSw; go_simp <;> with_reducible rfl
              try simp only [List.getElem_toArray, List.getElem_cons_succ, List.getElem_cons_zero, Act.put, List.setIfInBounds_toArray, List.set_cons_zero, List.set_cons_succ]
              refine wpAnyH_ready (rs := [5]) (by kernel_rfl) (by simp) ?_
              refine AllReadyH.cons rfl (fun K hK => ?_) AllReadyH.nil
              refine step_callw (by rfl) 11 _ _ (by rfl) (fun _ _ => by rfl) [p] (by rfl) (sv.now w7 K6 V6 p H7.out.nw.at') ?_
              rintro e w9 ⟨rfl, he9⟩
              obtain ⟨K9, h9⟩ := H7.out.call he9
              have H9 : Hid (TT At W w9 K9 V6 p d t) := h9
              refine ⟨_, rfl, hK.out _ _ H9.out.cells (fun hHeld => ?_)⟩
              clear hK K he9 h9 H7
              rw [HT6.out]
              unfold vwV
              try simp only [List.getElem_toArray, List.getElem_cons_succ, List.getElem_cons_zero, Act.put, List.setIfInBounds_toArray, List.set_cons_zero, List.set_cons_succ]
              refine wpAnyH_take (i := 7) (v := ?_) rfl (by kernel_rfl) (by kernel_rfl) (by kernel_rfl) (fun _ _ _ h => h) ?_ hHeld ?_
              rotate_left
              · refine Or.inl ⟨by rfl, ?_⟩; intro w hSw; obtain ⟨hh2, hh3, hh4⟩ := hSw; go_simp <;> with_reducible rfl
              try simp only [List.getElem_toArray, List.getElem_cons_succ, List.getElem_cons_zero, Act.put, List.setIfInBounds_toArray, List.set_cons_zero, List.set_cons_succ]
              refine wpAnyH_take (i := 8) (v := ?_) rfl (by kernel_rfl) (by kernel_rfl) (by kernel_rfl) (fun _ _ _ h => h) ?_ hHeld ?_
              rotate_left
              · refine Or.inl ⟨by rfl, ?_⟩; intro w hSw; obtain ⟨hh2, hh3, hh4⟩ := hSw; go_simp <;> with_reducible rfl
              try simp only [List.getElem_toArray, List.getElem_cons_succ, List.getElem_cons_zero, Act.put, List.setIfInBounds_toArray, List.set_cons_zero, List.set_cons_succ]
              refine wpAnyH_take (i := 9) (v := ?_) rfl (by kernel_rfl) (by kernel_rfl) (by kernel_rfl) (fun _ _ _ h => h) ?_ hHeld ?_
              rotate_left
              · refine Or.inl ⟨by rfl, ?_⟩; intro w hSw; obtain ⟨hh2, hh3, hh4⟩ := hSw; go_simp <;> with_reducible rfl
              try simp only [List.getElem_toArray, List.getElem_cons_succ, List.getElem_cons_zero, Act.put, List.setIfInBounds_toArray, List.set_cons_zero, List.set_cons_succ]
              refine wpAnyH_take (i := 10) (v := ?_) rfl (by kernel_rfl) (by kernel_rfl) (by kernel_rfl) (fun _ _ _ h => h) ?_ hHeld ?_
              rotate_left
              · refine Or.inl ⟨by rfl, ?_⟩; intro w hSw; obtain ⟨hh2, hh3, hh4⟩ := hSw; go_simp <;> with_reducible rfl
              try simp only [List.getElem_toArray, List.getElem_cons_succ, List.getElem_cons_zero, Act.put, List.setIfInBounds_toArray, List.set_cons_zero, List.set_cons_succ]
              refine wpAnyH_take (i := 12) (v := ?_) rfl (by kernel_rfl) (by kernel_rfl) (by kernel_rfl) (fun _ _ _ h => h) ?_ hHeld ?_
              rotate_left
              · refine Or.inl ⟨by rfl, ?_⟩; intro w hSw; obtain ⟨hh2, hh3, hh4⟩ := hSw; go_simp <;> with_reducible rfl
              try simp only [List.getElem_toArray, List.getElem_cons_succ, List.getElem_cons_zero, Act.put, List.setIfInBounds_toArray, List.set_cons_zero, List.set_cons_succ]
              refine wpAnyH_ready (rs := [11]) (by kernel_rfl) (by simp) ?_
              refine AllReadyH.cons rfl (fun K hK => ?_) AllReadyH.nil
              refine step_callw (by rfl) 16 _ _ (by rfl) (fun _ _ => by rfl) [p] (by rfl) (sv.settled w9 K9 V6 p H9.out.nw.at') ?_
              rintro e w10 ⟨rfl, he10⟩
              obtain ⟨K10, h10⟩ := H9.out.call he10
              have H10 : Hid (TT At W w10 K10 V6 p d t) := h10
              refine ⟨_, rfl, hK.out _ _ H10.out.cells (fun hHeld => ?_)⟩
              clear hK K he10 h10 H9
              rw [HSET.out]
              try simp only [List.getElem_toArray, List.getElem_cons_succ, List.getElem_cons_zero, Act.put, List.setIfInBounds_toArray, List.set_cons_zero, List.set_cons_succ]
              refine wpAnyH_take (i := 13) (v := ?_) rfl (by kernel_rfl) (by kernel_rfl) (by kernel_rfl) (fun _ _ _ h => h) ?_ hHeld ?_
              rotate_left
              · refine Or.inl ⟨by rfl, ?_⟩; intro w hSw; obtain ⟨hh2, hh3, hh4⟩ := hSw; go_simp <;> with_reducible rfl
              try simp only [List.getElem_toArray, List.getElem_cons_succ, List.getElem_cons_zero, Act.put, List.setIfInBounds_toArray, List.set_cons_zero, List.set_cons_succ]
              refine wpAnyH_take (i := 14) (v := ?_) rfl (by kernel_rfl) (by kernel_rfl) (by kernel_rfl) (fun _ _ _ h => h) ?_ hHeld ?_
              rotate_left
              · refine Or.inl ⟨by rfl, ?_⟩; intro w hSw; obtain ⟨hh2, hh3, hh4⟩ := hSw; go_simp <;> with_reducible rfl
              try simp only [List.getElem_toArray, List.getElem_cons_succ, List.getElem_cons_zero, Act.put, List.setIfInBounds_toArray, List.set_cons_zero, List.set_cons_succ]
              refine wpAnyH_take (i := 15) (v := ?_) rfl (by kernel_rfl) (by kernel_rfl) (by kernel_rfl) (fun _ _ _ h => h) ?_ hHeld ?_
              rotate_left
              · refine Or.inl ⟨by rfl, ?_⟩; intro w hSw; obtain ⟨hh2, hh3, hh4⟩ := hSw; go_simp <;> with_reducible rfl
              try simp only [List.getElem_toArray, List.getElem_cons_succ, List.getElem_cons_zero, Act.put, List.setIfInBounds_toArray, List.set_cons_zero, List.set_cons_succ]
              refine wpAnyH_take (i := 16) (v := ?_) rfl (by kernel_rfl) (by kernel_rfl) (by kernel_rfl) (fun _ _ _ h => h) ?_ hHeld ?_
              rotate_left
              · refine Or.inl ⟨by rfl, ?_⟩; intro w hSw; obtain ⟨hh2, hh3, hh4⟩ := hSw; go_simp <;> with_reducible rfl
              try simp only [List.getElem_toArray, List.getElem_cons_succ, List.getElem_cons_zero, Act.put, List.setIfInBounds_toArray, List.set_cons_zero, List.set_cons_succ]
              refine wpAnyH_take (i := 17) (v := ?_) rfl (by kernel_rfl) (by kernel_rfl) (by kernel_rfl) (fun _ _ _ h => h) ?_ hHeld ?_
              rotate_left
              · refine Or.inl ⟨by rfl, ?_⟩; intro w hSw; obtain ⟨hh2, hh3, hh4⟩ := hSw; go_simp <;> with_reducible rfl
              try simp only [List.getElem_toArray, List.getElem_cons_succ, List.getElem_cons_zero, Act.put, List.setIfInBounds_toArray, List.set_cons_zero, List.set_cons_succ]
              refine wpAnyH_ready (rs := [18]) (by kernel_rfl) (by simp) ?_
              refine AllReadyH.cons rfl (fun K hK => ?_) AllReadyH.nil
              go_simp
              refine hK.out _ _ hHeld (fun hHeld => ?_)
              clear hK K
              try simp only [List.getElem_toArray, List.getElem_cons_succ, List.getElem_cons_zero, Act.put, List.setIfInBounds_toArray, List.set_cons_zero, List.set_cons_succ]
              refine wpAnyH_done (by kernel_rfl) ?_ _
              go_wp2_with fail
              go_ret
              exact ⟨by simp_all <;> rfl, trans2 HW0.out H10.out.nw.below⟩)
end Go.Proofs.Ytlbhnlpdijhmlaa
