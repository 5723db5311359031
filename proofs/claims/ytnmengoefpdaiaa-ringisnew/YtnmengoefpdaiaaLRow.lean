/-
  Rows of elements of several cells.
-/
import Derived.Test.YtnmengoefpdaiaaQBase
import Derived.ArgAppend
import Derived.Shelf.Abstract
namespace Go.Proofs.Ytnmengoefpdaiaa.I
open Go.RowKit
set_option linter.unusedVariables false
set_option linter.unusedSimpArgs false

theorem RowAt.form {α : Type} {w : World} {S : Nat → Prop} {sz : Nat} {E : Nat → Nat → α → Prop} {v : Value} {l : List α} (h : RowAt w S sz E v l) : ∃ a c, v = .slice a l.length c ∧ l.length ≤ c := by
  obtain ⟨a, c, hv, hc, _⟩ := h
  exact ⟨a, c, hv, hc⟩
theorem RowAt.get {α : Type} {w : World} {S : Nat → Prop} {sz : Nat} {E : Nat → Nat → α → Prop} {a : Option Addr} {n c : Nat} {l : List α} (h : RowAt w S sz E (.slice a n c) l) {i : Nat} {x : α} (hx : l[i]? = some x) : ∃ b o, a = some ⟨b, o, none⟩ ∧ S b ∧ b < w.heap.size ∧ E b (o + i * sz) x := by
  obtain ⟨a', c', hv, _, _, hr⟩ := h
  cases hv
  rcases hr with h | ⟨b, o, rfl, hS, hlt, hE⟩
  · rw [h] at hx; cases hx
  · exact ⟨b, o, rfl, hS, hlt, hE i x hx⟩
theorem cell_blkD {w : World} {g : Nat} {cur : Array Value} {e : TypeId} {fz : Nat × Nat} (h : w.heap[g]? = some (.cells cur e fz)) (o : Nat) : w.cell? ⟨g, o, none⟩ = cur[o]? := by
  unfold World.cell?
  rw [h]
  rfl
theorem set_at {w : World} {g o : Nat} {arr : Array Value} {t : TypeId} {x : Value} (h : w.heap[g]? = some (.cells arr t (0, 0))) : (w.setCell ⟨g, o, none⟩ x).heap[g]? = some (.cells (arr.setIfInBounds o x) t (0, 0)) := heap_setCell_same w g o arr t x h
theorem cell_of {w : World} {g o : Nat} {arr : Array Value} {t : TypeId} (h : w.heap[g]? = some (.cells arr t (0, 0))) : w.cell? ⟨g, o, none⟩ = arr[o]? := by simp [World.cell?, h]
theorem free_of {w : World} {g : Nat} {arr : Array Value} {t : TypeId} (h : w.heap[g]? = some (.cells arr t (0, 0))) (o : Nat) : w.frozen? ⟨g, o, none⟩ = false := by simp [World.frozen?, h]
theorem chg_put3 (w : World) (g : Nat) (x0 x1 x2 : Value) : Chg w (put_3 w g x0 x1 x2) (fun k => k = g) :=
  ((Chg.set w ⟨g, 0, none⟩ x0).trans (Chg.set _ ⟨g, 1, none⟩ x1)).trans (Chg.set _ ⟨g, 2, none⟩ x2)
theorem flat_at {α : Type} {cells : α → List Value} {sz : Nat} (hsz : ∀ x, (cells x).length = sz) : ∀ {L : List α} {i : Nat} {x : α} {j : Nat} {u : Value}, L[i]? = some x → (cells x)[j]? = some u → (L.flatMap cells)[i * sz + j]? = some u
  | [], i, x, j, u, h, _ => by simp at h
  | y :: L, 0, x, j, u, h, hu => by
    obtain rfl : y = x := by simpa using h
    rw [List.flatMap_cons, Nat.zero_mul, Nat.zero_add, List.getElem?_append_left (by rw [hsz]; have := (List.getElem?_eq_some_iff.1 hu).1; rw [hsz] at this; exact this)]
    exact hu
  | y :: L, i + 1, x, j, u, h, hu => by
    have h' : L[i]? = some x := by simpa using h
    rw [List.flatMap_cons, List.getElem?_append_right (by rw [hsz, Nat.add_mul]; omega), hsz, show (i + 1) * sz + j - sz = i * sz + j by rw [Nat.add_mul]; omega]
    exact flat_at hsz h' hu
theorem flat_len {α : Type} {cells : α → List Value} {sz : Nat} (hsz : ∀ x, (cells x).length = sz) : ∀ L : List α, (L.flatMap cells).length = L.length * sz
  | [] => by simp
  | y :: L => by rw [List.flatMap_cons, List.length_append, hsz, flat_len hsz L, List.length_cons, Nat.add_mul]; omega
theorem row_cells {α : Type} {w : World} {base e sz : Nat} {v : Value} {cells : α → List Value} {L : List α} (hsz : ∀ x, (cells x).length = sz) (h : w.ownsRow base e sz v L.length (L.flatMap cells)) :
    ∃ a c, v = .slice a L.length c ∧ L.length ≤ c ∧ (a = none → c = 0) ∧ (L = [] ∨ ∃ g, a = some ⟨g, 0, none⟩ ∧ v.ownBlock = some g ∧ base ≤ g ∧ g < w.heap.size ∧ ∀ i x, L[i]? = some x → ∀ j u, (cells x)[j]? = some u → w.cell? ⟨g, 0 + i * sz + j, none⟩ = some u) := by
  rcases h.2 with ⟨rfl, h0⟩ | ⟨g, cap, cur, rfl, hb, hg, hn, hc, hs, ht⟩
  · exact ⟨none, 0, by rw [h0], by omega, fun _ => rfl, .inl (List.eq_nil_of_length_eq_zero h0)⟩
  · refine ⟨_, cap, rfl, hn, (fun h => by cases h), ?_⟩
    rcases Nat.eq_zero_or_pos L.length with h0 | h0
    · exact .inl (List.eq_nil_of_length_eq_zero h0)
    · refine .inr ⟨g, rfl, rfl, hb, lt_of_blk hg, fun i x hi j u hj => ?_⟩
      have h1 := flat_at hsz hi hj
      have hlt := (List.getElem?_eq_some_iff.1 h1).1
      rw [flat_len hsz] at hlt
      rw [← ht, List.getElem?_take, if_pos hlt, Array.getElem?_toList] at h1
      rw [Nat.zero_add, cell_blkD hg]
      exact h1
theorem row_block {w : World} {base e sz n : Nat} {v : Value} {xs : List Value} (h : w.ownsRow base e sz v n xs) : ∀ k, v.ownBlock = some k → base ≤ k ∧ k < w.heap.size := by
  intro k hk
  rcases h.2 with ⟨rfl, _⟩ | ⟨g, cap, cur, rfl, hb, hg, _⟩
  · cases hk
  · cases hk
    exact ⟨hb, lt_of_blk hg⟩
theorem row_chg {w w' : World} {base e sz n : Nat} {v : Value} {xs : List Value} {S : Nat → Prop} (h : w.ownsRow base e sz v n xs) (hc : Chg w w' S) (hS : ∀ k, v.ownBlock = some k → ¬ S k) : w'.ownsRow base e sz v n xs :=
  owns_same h (fun k hk => hc.block k (row_block h k hk).2 (hS k hk))
theorem wpList_row {tS tE sz bt : Nat} {z : Value} (hu : Try.prog.underlying tS = some (.slice tE)) (hinfo : (Try.prog.info? tE).map (fun i => (i.zero, i.size, i.bytes)) = some (some z, sz, bt)) (hzs : z.cells.size = sz) (h0 : 0 < sz)
    {w : World} {ops : Array Oper} {rest : List Oper} {o : Oper} {act : Act} {Q : Exit → Act → World → Prop} (hgd : o.guard = none) (s x : Operand) (ho : o.op = .call { callee := .builtin .append, args := #[s, x], argTypes := #[tS, tS] })
    (base : Nat) (v : Value) (n : Nat) (xs : List Value) (hs : act.eval s = v) (hown : w.ownsRow base tE sz v n xs) (g c : Nat) (news : List Value) (hx : act.eval x = .slice (some ⟨g, 0, none⟩) 1 c) (hg : w.heap[g]? = some (.cells news.toArray tE (0, 0))) (hl : news.length = sz) (h1 : ∀ u ∈ news, u.oneCell' = true)
    (hb1 : n + 1 ≤ maxLen) (hb2 : (n + 1) * bt ≤ 140737488355328) (hB : base ≤ w.heap.size)
    (h : ∀ v' w', w'.ownsRow base tE sz v' (n + 1) (xs ++ news) → w.grownBy w' v.ownBlock → (v'.ownBlock = v.ownBlock ∨ v'.ownBlock = some w.heap.size) → wpList Try.prog ops Q rest (act.put o.dst v') w') : wpList Try.prog ops Q (o :: rest) act w := by
  cases hi : Try.prog.info? tE with
  | none => rw [hi] at hinfo; cases hinfo
  | some i0 =>
    rw [hi] at hinfo
    simp only [Option.map_some, Option.some.injEq, Prod.mk.injEq] at hinfo
    refine wpList_append_own_at _ hgd s x tS ho base tE i0 _ sz bt hu hi hinfo.1 hinfo.2.1 hinfo.2.2 hzs h0 v n xs hs hown ⟨g, 0, none⟩ 1 c news hx (by rw [hl, Nat.one_mul]) (fun j u hj => ?_) h1 hb1 hb2 hB ?_
    · rw [addr_add, Nat.zero_add, cell_blkD hg]
      simpa using hj
    · intro v' w' ho' hg' _ hat'
      exact h v' w' ho' hg' hat'
theorem results_cell_tmp {P : Program} {fn : Func} {p q : Tmp} {ty : TypeId} (h : fn.results = #[.cell p ty, .tmp q]) (tmps : Array Value) (w : World) (g : Nat) (t : TypeId) (cs : Array Value) (fr : Nat × Nat) (d : TypeDesc) (v : Value)
    (hp : tmps.getD p undef = .pointer (some ⟨g, 0, none⟩)) (hq : tmps.getD q undef = v) (hg : w.heap[g]? = some (.cells cs t fr))
    (hu : P.underlying ty = some d) (hd : (match d with | .struct _ | .array _ _ => true | _ => false) = true) (hi : (P.info? ty).map (·.size) = some cs.size) :
    (results fn tmps).run P w = .ok (.tuple #[.agg cs, v]) w := by
  have hp' : tmps[p]?.getD undef = .pointer (some ⟨g, 0, none⟩) := by simpa using hp
  have hq' : tmps[q]?.getD undef = v := by simpa using hq
  simp [results, h, hp', hq', asAddr, run_loadVar_row w g t ty cs fr d hg hu hd hi]
theorem results_cell {P : Program} {fn : Func} {p : Tmp} {ty : TypeId} (h : fn.results = #[.cell p ty]) (tmps : Array Value) (w : World) (g : Nat) (t : TypeId) (cs : Array Value) (fr : Nat × Nat) (d : TypeDesc)
    (hp : tmps.getD p undef = .pointer (some ⟨g, 0, none⟩)) (hg : w.heap[g]? = some (.cells cs t fr))
    (hu : P.underlying ty = some d) (hd : (match d with | .struct _ | .array _ _ => true | _ => false) = true) (hi : (P.info? ty).map (·.size) = some cs.size) :
    (results fn tmps).run P w = .ok (.agg cs) w := by
  have hp' : tmps[p]?.getD undef = .pointer (some ⟨g, 0, none⟩) := by simpa using hp
  simp [results, h, hp', asAddr, run_loadVar_row w g t ty cs fr d hg hu hd hi]
theorem grown_in {w0 w w' : World} {v : Value} {B : Nat} (h : Below B w0 w) (hg : w.grownBy w' v.ownBlock) (hv : ∀ k, v.ownBlock = some k → B ≤ k) (hB : B ≤ w0.heap.size) : Below B w0 w' := by
  have hc2 := Chg.grown hg
  exact ⟨hc2.os.trans h.os, hc2.tape.trans h.tape, hc2.output.trans h.output, Nat.le_trans h.size hc2.size, fun k hk => (hc2.block k (by have := h.size; omega) (fun e => by have := hv k e; omega)).trans (h.block k hk)⟩
theorem owns_nil (w : World) (B e s : Nat) : w.ownsRow B e s (.slice none 0 0) 0 [] := World.ownsRow_nil w B e s
theorem pair_blocks {w : World} {t t' : TypeId} {cs cs' : Array Value} : ((w.alloc (.cells cs t)).alloc (.cells cs' t')).heap[w.heap.size]? = some (.cells cs t (0, 0)) ∧ ((w.alloc (.cells cs t)).alloc (.cells cs' t')).heap[w.heap.size + 1]? = some (.cells cs' t' (0, 0)) ∧ Below w.heap.size w ((w.alloc (.cells cs t)).alloc (.cells cs' t')) :=
  ⟨new_old (heap_alloc_new _ _) _, heap_new' (by simp), ((Below.refl _ _).alloc (Nat.le_refl _) _).alloc (by simp) _⟩
theorem step_one {P : Program} {ops : Array Oper} {o : Oper} {a : Act} {w : World} {K : Act → World → Prop} {Q : Exit → Act → World → Prop} {E : Prop} (hgd : o.guard = none) (f : FuncId) (x : Operand) (ts : Array TypeId)
    (ho : o.op = .call { callee := .value (.func f), args := #[x], argTypes := ts }) (ef : ∀ args w, (callFunc f args).run P w = .ok (.enter f args) w) (u : Value) (hx : a.eval x = u) {R : Ending → World → Prop} (hc : Calls P f #[u] w R)
    (h : ∀ e w', R e w' → ∃ r, e = .returned r ∧ K (a.put o.dst r) w') :
    if Region.wanted o (yielded ops a.tmps) = true then Oper.wp P o a w K Q else E := by
  have hw : Region.wanted o (yielded ops a.tmps) = true := by simp [Region.wanted, hgd]
  rw [if_pos hw]
  have he : (execOp a.eval o).run P w = .ok (.enter f #[u]) w := by
    have hf : a.eval (.func f) = .func (.func f) #[] #[] := rfl
    simp [execOp, ho, resolve, invoke, Deferred.ofValue, hx, hf, ef]
  unfold Oper.wp
  rw [he, Oper.upon_enter]
  refine hc.mono ?_
  intro e w' hR
  obtain ⟨r, rfl, hk⟩ := h e w' hR
  exact hk
theorem step_row {tS tE sz bt : Nat} {z : Value} (hu : Try.prog.underlying tS = some (.slice tE)) (hinfo : (Try.prog.info? tE).map (fun i => (i.zero, i.size, i.bytes)) = some (some z, sz, bt)) (hzs : z.cells.size = sz) (h0 : 0 < sz)
    {ops : Array Oper} {o : Oper} {a : Act} {w : World} {K : Act → World → Prop} {Q : Exit → Act → World → Prop} {E : Prop} (hgd : o.guard = none) (s x : Operand) (ho : o.op = .call { callee := .builtin .append, args := #[s, x], argTypes := #[tS, tS] })
    (base : Nat) (v : Value) (n : Nat) (xs : List Value) (hs : a.eval s = v) (hown : w.ownsRow base tE sz v n xs) (g c : Nat) (news : List Value) (hx : a.eval x = .slice (some ⟨g, 0, none⟩) 1 c) (hg : w.heap[g]? = some (.cells news.toArray tE (0, 0))) (hl : news.length = sz) (h1 : ∀ u ∈ news, u.oneCell' = true)
    (hb1 : n + 1 ≤ maxLen) (hb2 : (n + 1) * bt ≤ 140737488355328) (hB : base ≤ w.heap.size)
    (h : ∀ v' w', w'.ownsRow base tE sz v' (n + 1) (xs ++ news) → w.grownBy w' v.ownBlock → (v'.ownBlock = v.ownBlock ∨ v'.ownBlock = some w.heap.size) → K (a.put o.dst v') w') :
    if Region.wanted o (yielded ops a.tmps) = true then Oper.wp Try.prog o a w K Q else E := by
  have hw : Region.wanted o (yielded ops a.tmps) = true := by simp [Region.wanted, hgd]
  rw [if_pos hw]
  cases hi : Try.prog.info? tE with
  | none => rw [hi] at hinfo; cases hinfo
  | some i0 =>
    rw [hi] at hinfo
    simp only [Option.map_some, Option.some.injEq, Prod.mk.injEq] at hinfo
    obtain ⟨v', w', hr, g2, g3, _, g5⟩ := run_append_own_at (P := Try.prog) w base tS o.type tE i0 _ sz bt hu hi hinfo.1 hinfo.2.1 hinfo.2.2 hzs h0 v n xs hown ⟨g, 0, none⟩ 1 c news (by rw [hl, Nat.one_mul]) (fun j u hj => by rw [addr_add, Nat.zero_add, cell_blkD hg]; simpa using hj) h1 hb1 hb2 hB
    unfold Oper.wp execOp
    simp only [ho, resolve, invoke, builtin, Sem.run_bind, Sem.run_pure, Result.andThen_ok, List.map_toArray, List.map_cons, List.map_nil, hs, hx, hr]
    exact h v' w' g2 g3 g5
theorem row_form {w : World} {base e sz n : Nat} {v : Value} {xs : List Value} (h : w.ownsRow base e sz v n xs) : ∃ a c, v = .slice a n c ∧ n ≤ c := by
  rcases h.2 with ⟨rfl, h0⟩ | ⟨g, cap, cur, rfl, _, _, hn, _⟩
  · exact ⟨none, 0, by rw [h0], by omega⟩
  · exact ⟨_, cap, rfl, hn⟩
theorem grown_own {w1 w w' : World} {S : Nat → Prop} {nv nv' : Value} (hS : ∀ j, S j → j < w.heap.size → nv.ownBlock ≠ some j) (ho : nv'.ownBlock = nv.ownBlock ∨ nv'.ownBlock = some w.heap.size) : ∀ j, S j → j < w.heap.size → nv'.ownBlock ≠ some j := fun j hj hlt e => by
  rcases ho with ho | ho
  · exact hS j hj hlt (by rw [← ho]; exact e)
  · rw [ho] at e; cases e; omega
theorem row_kind {w : World} {base e sz n : Nat} {v : Value} {xs : List Value} (h : w.ownsRow base e sz v n xs) : ∀ k, v.ownBlock = some k → ∃ cur, w.heap[k]? = some (.cells cur e (0, 0)) := by
  intro k hk
  rcases h.2 with ⟨rfl, _⟩ | ⟨g, cap, cur, rfl, _, hg, _⟩
  · cases hk
  · cases hk
    exact ⟨cur, hg⟩
theorem kind_ne {w : World} {a b : Nat} {c d : Array Value} {e f : TypeId} (ha : w.heap[a]? = some (.cells c e (0, 0))) (hb : w.heap[b]? = some (.cells d f (0, 0))) (hne : e ≠ f) : a ≠ b := fun h => by
  subst h
  rw [ha] at hb
  cases hb
  exact hne rfl
theorem row_cut {w : World} {base e sz n m c k : Nat} {xs : List Value} (h : w.ownsRow base e sz (.slice (some ⟨k, 0, none⟩) n c) n xs) (hm : m ≤ n) : w.ownsRow base e sz (.slice (some ⟨k, 0, none⟩) m c) m (xs.take (m * sz)) := by
  rcases h.2 with ⟨h0, _⟩ | ⟨g, cap, cur, hv, hb, hg, h1, h2, h3, h4⟩
  · cases h0
  · cases hv
    have hms : m * sz ≤ n * sz := Nat.mul_le_mul_right _ hm
    refine ⟨by rw [List.length_take, h.1]; omega, .inr ⟨k, c, cur, rfl, hb, hg, by omega, h2, h3, ?_⟩⟩
    rw [← h4, List.take_take, Nat.min_eq_left hms]
theorem row_set {w : World} {base e sz n c k i : Nat} {xs : List Value} {x : Value} (h : w.ownsRow base e sz (.slice (some ⟨k, 0, none⟩) n c) n xs) : (w.setCell ⟨k, i, none⟩ x).ownsRow base e sz (.slice (some ⟨k, 0, none⟩) n c) n (xs.set i x) := by
  rcases h.2 with ⟨h0, _⟩ | ⟨g, cap, cur, hv, hb, hg, h1, h2, h3, h4⟩
  · cases h0
  · cases hv
    refine ⟨by rw [List.length_set]; exact h.1, .inr ⟨k, c, _, rfl, hb, set_at hg, h1, h2, by rw [Array.size_setIfInBounds]; exact h3, ?_⟩⟩
    rw [Array.toList_setIfInBounds, List.take_set, h4]
def Kind (w : World) (T : Nat → Prop) (f : TypeId) : Prop := ∀ j, T j → j < w.heap.size → ∃ cur, w.heap[j]? = some (.cells cur f (0, 0))
theorem row_other {w w' : World} {base e sz n : Nat} {v : Value} {xs : List Value} {T : Nat → Prop} {f : TypeId} (h : w.ownsRow base e sz v n xs) (hc : Chg w w' T) (hk : Kind w T f) (hne : e ≠ f) : w'.ownsRow base e sz v n xs :=
  row_chg h hc (fun k hk' hT => by
    obtain ⟨c1, h1⟩ := row_kind h k hk'
    obtain ⟨c2, h2⟩ := hk k hT (lt_of_blk h1)
    exact kind_ne h1 h2 hne rfl)
theorem blk_other {w w' : World} {k : Nat} {cs : Array Value} {e f : TypeId} {T : Nat → Prop} (h : w.heap[k]? = some (.cells cs e (0, 0))) (hc : Chg w w' T) (hk : Kind w T f) (hne : e ≠ f) : w'.heap[k]? = some (.cells cs e (0, 0)) := by
  rw [hc.block k (lt_of_blk h) (fun hT => by
    obtain ⟨c2, h2⟩ := hk k hT (lt_of_blk h)
    exact kind_ne h h2 hne rfl)]
  exact h
theorem Kind.own {w : World} {base e sz n : Nat} {v : Value} {xs : List Value} (h : w.ownsRow base e sz v n xs) : Kind w (fun k => v.ownBlock = some k) e := fun j hj _ => row_kind h j hj
theorem Kind.one {w : World} {k : Nat} {cs : Array Value} {e : TypeId} (h : w.heap[k]? = some (.cells cs e (0, 0))) : Kind w (fun j => j = k) e := fun j hj _ => ⟨cs, by rw [hj]; exact h⟩
theorem chg_ext {w0 w w' : World} {K T : Nat → Prop} (h : Chg w0 w K) (hc : Chg w w' T) (hT : ∀ j, T j → K j ∨ w0.heap.size ≤ j) : Chg w0 w' K :=
  ⟨hc.os.trans h.os, hc.tape.trans h.tape, hc.output.trans h.output, Nat.le_trans h.size hc.size, fun k hk hn => (hc.block k (Nat.lt_of_lt_of_le hk h.size) (fun e => by
    rcases hT k e with hh | hh
    · exact hn hh
    · omega)).trans (h.block k hk hn)⟩
theorem row_get1 {w : World} {base e n c i : Nat} {a : Option Addr} {L : List Value} {x : Value} (h : w.ownsRow base e 1 (.slice a n c) n L) (hx : L[i]? = some x) : ∃ g cur, a = some ⟨g, 0, none⟩ ∧ w.heap[g]? = some (.cells cur e (0, 0)) ∧ w.cell? ⟨g, i, none⟩ = some x := by
  rcases h.2 with ⟨h0, h1⟩ | ⟨g, cap, cur, hv, hb, hg, h1, h2, h3, h4⟩
  · have := h.1
    rw [h1] at this
    have hL : L = [] := List.eq_nil_of_length_eq_zero (by simpa using this)
    rw [hL] at hx
    cases hx
  · cases hv
    refine ⟨g, cur, rfl, hg, ?_⟩
    have hlt := (List.getElem?_eq_some_iff.1 hx).1
    rw [cell_blkD hg]
    rw [← h4, List.getElem?_take, if_pos (by rw [← h4, List.length_take] at hlt; omega), Array.getElem?_toList] at hx
    exact hx
theorem row_some {w : World} {base e sz n : Nat} {v : Value} {xs : List Value} (h : w.ownsRow base e sz v (n + 1) xs) : ∃ g c, v = .slice (some ⟨g, 0, none⟩) (n + 1) c := by
  rcases h.2 with ⟨_, h1⟩ | ⟨g, cap, cur, hv, _⟩
  · cases h1
  · exact ⟨g, cap, hv⟩
theorem step_call2 {P : Program} {ops : Array Oper} {o : Oper} {a : Act} {w : World} {K : Act → World → Prop} {Q : Exit → Act → World → Prop} {E : Prop} (hgd : o.guard = none) (f : FuncId) (x y : Operand) (ts : Array TypeId)
    (ho : o.op = .call { callee := .value (.func f), args := #[x, y], argTypes := ts }) (ef : ∀ args w, (callFunc f args).run P w = .ok (.enter f args) w) (u v : Value) (hx : a.eval x = u) (hy : a.eval y = v) {R : Ending → World → Prop} (hc : Calls P f #[u, v] w R)
    (h : ∀ e w', R e w' → ∃ r, e = .returned r ∧ K (a.put o.dst r) w') :
    if Region.wanted o (yielded ops a.tmps) = true then Oper.wp P o a w K Q else E := by
  have hw : Region.wanted o (yielded ops a.tmps) = true := by simp [Region.wanted, hgd]
  rw [if_pos hw]
  have he : (execOp a.eval o).run P w = .ok (.enter f #[u, v]) w := by
    have hf : a.eval (.func f) = .func (.func f) #[] #[] := rfl
    simp [execOp, ho, resolve, invoke, Deferred.ofValue, hx, hy, hf, ef]
  unfold Oper.wp
  rw [he, Oper.upon_enter]
  refine hc.mono ?_
  intro e w' hR
  obtain ⟨r, rfl, hk⟩ := h e w' hR
  exact hk
def putsL (a : Act) : List Nat → List Value → Act
  | n :: ns, v :: vs => putsL (a.put (some n) v) ns vs
  | _, _ => a
def OnlyOn (R : Act → World → Prop) : Exit → Act → World → Prop
  | .normal, a, w => R a w
  | _, _, _ => False
theorem wp_cut {P : Program} {c : Code} {Q : Exit → Act → World → Prop} {a : Act} {w : World} (slots : List Nat) (R : List Value → World → Prop)
    (h1 : Code.wp P c (OnlyOn fun a' w' => ∃ vs, R vs w' ∧ a' = putsL a slots vs) a w) (h2 : ∀ vs w', R vs w' → Q .normal (putsL a slots vs) w') : Code.wp P c Q a w := by
  refine Code.wp_mono ?_ h1
  intro ex a' w' h
  cases ex <;> first | exact h.elim | skip
  obtain ⟨vs, hR, rfl⟩ := h
  exact h2 vs w' hR
theorem cells_5 {W : World} {b : Nat} {t : TypeId} {x0 x1 x2 x3 x4 : Value} (h : W.heap[b]? = some (.cells #[x0, x1, x2, x3, x4] t (0, 0))) : W.cell? ⟨b, 0, none⟩ = some x0 ∧ W.cell? ⟨b, 1, none⟩ = some x1 ∧ W.cell? ⟨b, 2, none⟩ = some x2 ∧ W.cell? ⟨b, 3, none⟩ = some x3 ∧ W.cell? ⟨b, 4, none⟩ = some x4 := by
  simp [World.cell?, h]
abbrev put_5 (w : World) (g : Nat) (x0 x1 x2 x3 x4 : Value) : World := (((((w.setCell ⟨g, 0, none⟩ x0).setCell ⟨g, 1, none⟩ x1).setCell ⟨g, 2, none⟩ x2).setCell ⟨g, 3, none⟩ x3).setCell ⟨g, 4, none⟩ x4)
theorem fill_5 {w : World} {g : Nat} {t : TypeId} {x0 x1 x2 x3 x4 y0 y1 y2 y3 y4 : Value} (h : w.heap[g]? = some (.cells #[y0, y1, y2, y3, y4] t (0, 0))) : (put_5 w g x0 x1 x2 x3 x4).heap[g]? = some (.cells #[x0, x1, x2, x3, x4] t (0, 0)) := by
  have h0 := same_blk (i := 0) (v := x0) (cs' := #[x0, y1, y2, y3, y4]) h rfl
  have h1 := same_blk (i := 1) (v := x1) (cs' := #[x0, x1, y2, y3, y4]) h0 rfl
  have h2 := same_blk (i := 2) (v := x2) (cs' := #[x0, x1, x2, y3, y4]) h1 rfl
  have h3 := same_blk (i := 3) (v := x3) (cs' := #[x0, x1, x2, x3, y4]) h2 rfl
  have h4 := same_blk (i := 4) (v := x4) (cs' := #[x0, x1, x2, x3, x4]) h3 rfl
  exact h4
end Go.Proofs.Ytnmengoefpdaiaa.I
