/-
  own.go: ViewIsNew: small facts of its walk.
-/
import Derived.Test.YtlbhnlpdijhmlaaVAskN
namespace Go.Proofs.Ytlbhnlpdijhmlaa
open Go.RowKit
set_option linter.unusedVariables false
set_option linter.unusedSimpArgs false

theorem Nw.called {w0 w w' : World} {K K' : Nat → Prop} {V V' : SvT} {p : Value} (h : Nw AtV w0 w K V p) (h1 : AtV w' K' V' p) (h2 : Chg w w' K) (h3 : ∀ j, K' j → K j ∨ w.heap.size ≤ j) : Nw AtV w0 w' K' V' p :=
  ⟨h1, ⟨h2.os.trans h.below.os, h2.tape.trans h.below.tape, h2.output.trans h.below.output, Nat.le_trans h.below.size h2.size, fun j hj => by rw [h2.block j (Nat.lt_of_lt_of_le hj h.below.size) (fun e => by have := h.new j e; omega)]; exact h.below.block j hj⟩, fun j hj => (h3 j hj).elim (h.new j) (fun hh => Nat.le_trans h.below.size hh)⟩
theorem below_app {w w' : World} {g s c : Nat} {ob : Obj} (hs : w.heap.size = s) (hal : ((Value.slice (some ⟨s, 0, none⟩) 0 0 = .slice (some ⟨g, 0, none⟩) 0 c) ∧ (w.alloc ob).grownBy w' (some g)) ∨ ((w.alloc ob).heap.size ≤ g ∧ (w.alloc ob).grownBy w' none)) : w.heap.size ≤ g ∧ Below w.heap.size w w' := by
  have h0 : Chg w (w.alloc ob) (fun _ => False) := Chg.alloc w ob _
  rcases hal with ⟨e, hg⟩ | ⟨hle, hg⟩
  · simp only [Value.slice.injEq, Option.some.injEq, Addr.mk.injEq, and_true, true_and] at e
    have hg' : w.heap.size ≤ g := by omega
    exact ⟨hg', (chg_more h0 (Chg.grown hg) (fun j hj => .inr (by cases hj; exact hg'))).below (Nat.le_refl _) (fun _ _ e => e.elim)⟩
  · exact ⟨Nat.le_trans h0.size hle, (chg_more h0 (Chg.grown hg) (fun j hj => by cases hj)).below (Nat.le_refl _) (fun _ _ e => e.elim)⟩
theorem owns_empty {w : World} {s : Nat} {e : TypeId} (sz : Nat) (hs : w.heap.size = s) : (w.alloc (.cells #[] e)).ownsRow 0 e sz (.slice (some ⟨s, 0, none⟩) 0 0) 0 [] := by
  subst hs
  exact owns_of_blk (xs := []) (heap_alloc_new _ _) (by simp) (Nat.zero_le _)
theorem snoc_at {α : Type} (l : List α) (x : α) : (l ++ [x])[l.length]? = some x := by simp
theorem snoc_len {α β : Type} {l : List α} {m : List β} (x : α) (h : m.length = l.length) : (l ++ [x])[m.length]? = some x := by rw [h]; exact snoc_at l x
/-- What was answered can be appended. -/
theorem row_news {w : World} {T : TypeId} {sz g n c : Nat} {l : List (El sz)} (h : w.ownsRow 0 T sz (.slice (some ⟨g, 0, none⟩) n c) n (fl l)) : ∀ j u, (fl l)[j]? = some u → w.cell? (Addr.add ⟨g, 0, none⟩ j) = some u := fun j u hu => by
  rw [addr_add, Nat.zero_add]
  exact cell_n h hu
theorem fl_one {sz : Nat} (l : List (El sz)) : ∀ u ∈ fl l, u.oneCell' = true := fun u hu => by
  obtain ⟨e, _, he⟩ := List.mem_flatMap.1 hu
  exact e.2.2 u he
theorem Qs.one {w wr : World} {B : Nat} {hv hn vv pv p : Value} {us ms xs : List Value} {K : Nat → Prop} {V : SvT} {Ws : List (List VwT)} (ha : Ak wr B hv hn us ms (VL Ws ++ [V.l.map elV]) (NL Ws ++ [[elN (lastV V.l)]]) vv pv xs (VL Ws ++ [V.l.map elV]) (PL Ws ++ [elV (lastV V.l)]) K w.heap.size) (hn' : Nw AtV w wr K V p) (h0 : V.nodes ≠ 0) : Qs w wr B vv pv p K V (Ws ++ [V.l]) := by
  refine ⟨⟨hv, hn, us, ms, xs, ?_⟩, hn', h0⟩
  have e1 : VL (Ws ++ [V.l]) = VL Ws ++ [V.l.map elV] := by simp [VL]
  have e2 : NL (Ws ++ [V.l]) = NL Ws ++ [[elN (lastV V.l)]] := by simp [NL]
  have e3 : PL (Ws ++ [V.l]) = PL Ws ++ [elV (lastV V.l)] := by simp [PL]
  rw [e1, e2, e3]
  exact ha
theorem AtV.ne {w : World} {K : Nat → Prop} {V : SvT} {p : Value} (h : AtV w K V p) (h0 : V.nodes ≠ 0) : V.l ≠ [] := fun e => h0 ((serves.ok h).zero e).1
theorem Qs.did {w wr w' : World} {B : Nat} {vv pv p : Value} {K K' : Nat → Prop} {V V' : SvT} {Vs : List (List VwT)} (h : Qs w wr B vv pv p K V Vs) (h1 : AtV w' K' V' p) (h2 : Chg wr w' K) (h3 : ∀ j, K' j → K j ∨ wr.heap.size ≤ j) (h0 : V'.nodes = V.nodes) : Qs w w' B vv pv p K' V' Vs := by
  obtain ⟨⟨hv, hn, us, ms, xs, ha⟩, hnw, hz⟩ := h
  exact ⟨⟨hv, hn, us, ms, xs, ha.called h2 h3⟩, hnw.called h1 h2 h3, by rw [h0]; exact hz⟩
theorem does_nodesN (V : SvT) (x : WhT) : (V.does x).nodes = V.nodes := by
  have hs : ∀ n k, (V.sett n k).nodes = V.nodes := fun n k => by unfold SvT.sett; split <;> rfl
  unfold SvT.does
  split
  · unfold SvT.prom; split <;> rfl
  · split
    · exact hs _ _
    · split
      · unfold SvT.took
        split
        · exact hs _ _
        · rfl
      · rfl
theorem vs_next {Vs : List (List VwT)} {l : List VwT} {q : Nat} (hl : Vs.length = 2 * q) (hp : ∀ k, k < Vs.length → Vs[k]? = Vs[k / 2 * 2]?) (h4 : ∀ x ∈ Vs, x.length ≤ 401) (hll : l.length ≤ 401) :
    (Vs ++ List.replicate 2 l).length = 2 * (q + 1) ∧ (∀ k, k < (Vs ++ List.replicate 2 l).length → (Vs ++ List.replicate 2 l)[k]? = (Vs ++ List.replicate 2 l)[k / 2 * 2]?) ∧ (∀ x ∈ Vs ++ List.replicate 2 l, x.length ≤ 401) ∧ (Vs ++ List.replicate 2 l).getLast? = some l := by
  have hlen : (Vs ++ List.replicate 2 l).length = 2 * (q + 1) := by simp; omega
  refine ⟨hlen, fun k hk => ?_, fun x hx => ?_, by simp [List.replicate]⟩
  · by_cases h1 : k < Vs.length
    · rw [List.getElem?_append_left h1, List.getElem?_append_left (by omega)]
      exact hp k h1
    · rw [List.getElem?_append_right (by omega), List.getElem?_append_right (by omega), List.getElem?_replicate, List.getElem?_replicate, if_pos (by omega), if_pos (by omega)]
  · rcases List.mem_append.1 hx with hx | hx
    · exact h4 x hx
    · rw [(List.mem_replicate.1 hx).2]; exact hll
/-- All lists that were asked for, by their number. -/
structure Rn (w : World) (B gv cv gx cx gn cn gp cp N : Nat) (us ms xs : List Value) (Vs : List (List VwT)) : Prop where
  box : w.heap[B]? = some (.cells #[.slice (some ⟨gv, 0, none⟩) N cv, .slice none 0 0, .slice (some ⟨gn, 0, none⟩) N cn, .slice none 0 0] 60 (0, 0))
  hr : w.ownsRow 0 31 1 (.slice (some ⟨gv, 0, none⟩) N cv) N us
  nr : w.ownsRow 0 52 1 (.slice (some ⟨gn, 0, none⟩) N cn) N ms
  cv : w.ownsRow 0 31 1 (.slice (some ⟨gx, 0, none⟩) N cx) N xs
  pr : w.ownsRow 0 28 3 (.slice (some ⟨gp, 0, none⟩) N cp) N (fl (PL Vs))
  fu : Fam w 28 3 us (VL Vs)
  fm : Fam w 47 21 ms (NL Vs)
  cf : Fam w 28 3 xs (VL Vs)
  len : us.length = N ∧ ms.length = N ∧ xs.length = N ∧ Vs.length = N
theorem Ak.rn {w : World} {B N : Nat} {hv hn vv pv : Value} {us ms xs : List Value} {Vs : List (List VwT)} {K : Nat → Prop} {W : Nat} (h : Ak w B hv hn us ms (VL Vs) (NL Vs) vv pv xs (VL Vs) (PL Vs) K W) (hN : Vs.length = N) (h0 : 0 < N) : ∃ gv cv gx cx gn cn gp cp, hv = .slice (some ⟨gv, 0, none⟩) N cv ∧ vv = .slice (some ⟨gx, 0, none⟩) N cx ∧ hn = .slice (some ⟨gn, 0, none⟩) N cn ∧ pv = .slice (some ⟨gp, 0, none⟩) N cp ∧ Rn w B gv cv gx cx gn cn gp cp N us ms xs Vs := by
  have e1 : us.length = N := by have := h.bo.fu.len; rw [List.length_map, hN] at this; exact this
  have e2 : ms.length = N := by have := h.bo.fm.len; rw [List.length_map, hN] at this; exact this
  have e3 : xs.length = N := by have := h.cp.cf.len; rw [List.length_map, hN] at this; exact this
  have e4 : (PL Vs).length = N := by rw [List.length_map, hN]
  have r1 := h.bo.hr
  have r2 := h.bo.nr
  have r3 := h.cp.cv
  have r4 := h.cp.pr
  have bx := h.bo.box
  rw [e1] at r1
  rw [e2] at r2
  rw [e3] at r3
  rw [e4] at r4
  obtain ⟨gv, cv, rfl, _⟩ := r1.form h0
  obtain ⟨gn, cn, rfl, _⟩ := r2.form h0
  obtain ⟨gx, cx, rfl, _⟩ := r3.form h0
  obtain ⟨gp, cp, rfl, _⟩ := r4.form h0
  exact ⟨gv, cv, gx, cx, gn, cn, gp, cp, rfl, rfl, rfl, rfl, bx, r1, r2, r3, r4, h.bo.fu, h.bo.fm, h.cp.cf, e1, e2, e3, hN⟩
theorem Rn.on {w w' : World} {B gv cv gx cx gn cn gp cp N : Nat} {us ms xs : List Value} {Vs : List (List VwT)} (h : Rn w B gv cv gx cx gn cn gp cp N us ms xs Vs) (hb : Below w.heap.size w w') : Rn w' B gv cv gx cx gn cn gp cp N us ms xs Vs :=
  ⟨kept_block hb h.box, owns_below h.hr hb, owns_below h.nr hb, owns_below h.cv hb, owns_below h.pr hb, h.fu.keep (Kp.of_below hb _), h.fm.keep (Kp.of_below hb _), h.cf.keep (Kp.of_below hb _), h.len⟩
theorem Fam.vws {w : World} {us : List Value} {Vs : List (List VwT)} (h : Fam w 28 3 us (VL Vs)) {k : Nat} {u : Value} {l : List VwT} (hu : us[k]? = some u) (hl : Vs[k]? = some l) : VwsAt w (fun _ => True) u l := by
  have h1 := h.row k u (l.map elV) hu (by rw [List.getElem?_map, hl]; rfl)
  rw [fl_elV, List.length_map] at h1
  exact vws_row h1 (fun _ _ => trivial)
/-- What a round of the look asks of memory. -/
def RnS (B gv cv gn cn gx j j2 : Nat) (N : Nat) (uj xj xe : Value) (mg mc : Nat) (gp : Nat) (t : VwT) (w' : World) : Prop :=
  w'.rangeAt mg 0 (tellCs t) ∧ w'.rangeAt gp (j * 3) (vwCs t) ∧ w'.cell? ⟨B, 0, none⟩ = some (.slice (some ⟨gv, 0, none⟩) N cv) ∧ w'.cell? ⟨B, 2, none⟩ = some (.slice (some ⟨gn, 0, none⟩) N cn) ∧ w'.cell? ⟨gv, j, none⟩ = some uj ∧ w'.cell? ⟨gx, j, none⟩ = some xj ∧ w'.cell? ⟨gx, j2, none⟩ = some xe ∧ w'.cell? ⟨gn, j, none⟩ = some (.slice (some ⟨mg, 0, none⟩) 1 mc)
theorem Rn.at {w : World} {B gv cv gx cx gn cn gp cp N : Nat} {us ms xs : List Value} {Vs : List (List VwT)} (h : Rn w B gv cv gx cx gn cn gp cp N us ms xs Vs) {j : Nat} (hj : j < N) : ∃ uj xj xe mg mc l l2, us[j]? = some uj ∧ xs[j]? = some xj ∧ xs[j / 2 * 2]? = some xe ∧ Vs[j]? = some l ∧ Vs[j / 2 * 2]? = some l2 ∧ ∀ w', Below w.heap.size w w' → RnS B gv cv gn cn gx j (j / 2 * 2) N uj xj xe mg mc gp (lastV l) w' := by
  obtain ⟨l1, l2, l3, l4⟩ := h.len
  have hj2 : j / 2 * 2 < N := by omega
  obtain ⟨uj, hu⟩ : ∃ u, us[j]? = some u := ⟨us[j]'(by omega), List.getElem?_eq_getElem _⟩
  obtain ⟨xj, hx⟩ : ∃ u, xs[j]? = some u := ⟨xs[j]'(by omega), List.getElem?_eq_getElem _⟩
  obtain ⟨xe, hxe⟩ : ∃ u, xs[j / 2 * 2]? = some u := ⟨xs[j / 2 * 2]'(by omega), List.getElem?_eq_getElem _⟩
  obtain ⟨mj, hm⟩ : ∃ u, ms[j]? = some u := ⟨ms[j]'(by omega), List.getElem?_eq_getElem _⟩
  obtain ⟨l, hl⟩ : ∃ l, Vs[j]? = some l := ⟨Vs[j]'(by omega), List.getElem?_eq_getElem _⟩
  obtain ⟨l', hl'⟩ : ∃ l, Vs[j / 2 * 2]? = some l := ⟨Vs[j / 2 * 2]'(by omega), List.getElem?_eq_getElem _⟩
  have hrow := h.fm.row j mj [elN (lastV l)] hm (by rw [List.getElem?_map, hl]; rfl)
  obtain ⟨mg, mc, rfl, _⟩ := hrow.form (by simp)
  refine ⟨uj, xj, xe, mg, mc, l, l', hu, hx, hxe, hl, hl', fun w' hb => ?_⟩
  have h' := h.on hb
  have hrow' := owns_below hrow hb
  obtain ⟨b0, b1, b2, b3⟩ := cells_4 h'.box
  refine ⟨fun i v hv => ?_, fun i v hv => ?_, b0, b2, cell_n h'.hr hu, cell_n h'.cv hx, cell_n h'.cv hxe, cell_n h'.nr hm⟩
  · rw [Nat.zero_add]
    exact cell_n hrow' (by simpa [fl, elN] using hv)
  · refine cell_n h'.pr ?_
    exact flat_at (cells := fun e : El 3 => e.1) (fun e => e.2.1) (L := PL Vs) (i := j) (x := elV (lastV l)) (j := i) (by rw [List.getElem?_map, hl]; rfl) hv
theorem copy1 {w W9 w10 : World} {B s g5 c5 : Nat} (nl : Nat) {ob : Obj} {hv hn vv pv p : Value} {us ms xs : List Value} {ls cl : List (List (El 3))} {ns : List (List (El 21))} {ps : List (El 3)} {K : Nat → Prop} {V : SvT} (h : Ak W9 B hv hn us ms ls ns vv pv xs cl ps K w.heap.size) (hnw : Nw AtV w W9 K V p) (hs : W9.heap.size = s) (hal : ((Value.slice (some ⟨s, 0, none⟩) 0 0 = .slice (some ⟨g5, 0, none⟩) 0 c5) ∧ (W9.alloc ob).grownBy w10 (some g5)) ∨ ((W9.alloc ob).heap.size ≤ g5 ∧ (W9.alloc ob).grownBy w10 none)) :
    Ak w10 B hv hn us ms ls ns vv pv xs cl ps K w.heap.size ∧ Nw AtV w w10 K V p ∧ ∀ b, (Value.slice (some ⟨g5, 0, none⟩) nl c5).ownBlock = some b → ¬ BkB B hv hn us ms b ∧ ¬ CpB vv pv xs b ∧ ¬ K b ∧ w.heap.size ≤ b := by
  have hb10 := below_app hs hal
  refine ⟨h.called (Chg.of_below hb10.2 _) (fun j h => .inl h), hnw.on serves hb10.2, fun b hb => ?_⟩
  cases hb
  have h1 : W9.heap.size ≤ g5 := hb10.1
  exact ⟨fun e => by have : g5 < W9.heap.size := h.bo.lt _ e; omega, fun e => by have : g5 < W9.heap.size := h.cp.lt _ e; omega, fun e => by have : g5 < W9.heap.size := serves.lt hnw.at' _ e; omega, Nat.le_trans hnw.below.size h1⟩
theorem wrap_small {n : Int} (h0 : 0 ≤ n) (h1 : n ≤ 1000) : IntKind.i64.wrap n = n := by rw [IntKind.wrap_i64]; omega
theorem wrap_half {j j2 : Nat} (h : j / 2 * 2 = j2) (hj : j ≤ 400) : IntKind.i64.wrap (IntKind.i64.wrap ((j : Int) / 2) * 2) = (j2 : Int) := by
  have h1 : (j : Int) / 2 = ((j / 2 : Nat) : Int) := by omega
  rw [h1, wrap_small (n := ((j / 2 : Nat) : Int)) (by omega) (by omega), wrap_small (by omega) (by omega)]
  omega
theorem Try.infoVw3 : (Try.prog.info? 28).map (·.size) = some 3 := by kernel_rfl
end Go.Proofs.Ytlbhnlpdijhmlaa
