/-
  Rows of elements of several cells.
-/
import Derived.Test.YtbblckcjedjbcaaGreatDoorXBase
import Derived.ArgAppend
import Derived.Shelf.Abstract
import Derived.Deep.RegionHeld3
import Derived.Deep.DeepHandedRow
namespace Go.Proofs.YtbblckcjedjbcaaGreatDoor.J
open Go.RowKit
set_option linter.unusedVariables false
set_option linter.unusedSimpArgs false
/-- w' has all that w has in the blocks of S. -/
structure Kp (w w' : World) (S : Nat → Prop) : Prop where
  size : w.heap.size ≤ w'.heap.size
  block : ∀ b, b < w.heap.size → S b → w'.heap[b]? = w.heap[b]?
theorem Kp.of_below {w w' : World} (h : Below w.heap.size w w') (S : Nat → Prop) : Kp w w' S := ⟨h.size, fun b hb _ => h.block b hb⟩
theorem Kp.of_chg {w w' : World} {T S : Nat → Prop} (h : Chg w w' T) (hs : ∀ b, b < w.heap.size → S b → ¬ T b) : Kp w w' S := ⟨h.size, fun b hb hS => h.block b hb (hs b hb hS)⟩
theorem Kp.mono {w w' : World} {S T : Nat → Prop} (h : Kp w w' S) (hs : ∀ b, b < w.heap.size → T b → S b) : Kp w w' T := ⟨h.size, fun b hb hT => h.block b hb (hs b hb hT)⟩
theorem Kp.cell {w w' : World} {S : Nat → Prop} (h : Kp w w' S) {b o : Nat} (hb : b < w.heap.size) (hS : S b) {v : Value} (hc : w.cell? ⟨b, o, none⟩ = some v) : w'.cell? ⟨b, o, none⟩ = some v := by
  rw [World.cell?_of_block (w := w) (h.block b hb hS)]
  exact hc
theorem owns_set {w : World} {B e s n g cap k : Nat} {xs : List Value} (h : w.ownsRow B e s (.slice (some ⟨g, 0, none⟩) n cap) n xs) (x : Value) : (w.setCell ⟨g, k, none⟩ x).ownsRow B e s (.slice (some ⟨g, 0, none⟩) n cap) n (xs.set k x) := by
  refine ⟨by rw [List.length_set]; exact h.1, ?_⟩
  rcases h.2 with ⟨h0, _⟩ | ⟨g', cap', cur, hv, hB, hg, hn, hc, hsz, ht⟩
  · cases h0
  · cases hv
    refine .inr ⟨g, cap, cur.setIfInBounds k x, rfl, hB, heap_setCell_same w g k cur e x hg, hn, hc, by simpa using hsz, ?_⟩
    rw [← ht, Array.toList_setIfInBounds, List.take_set]
theorem cell_blkD {w : World} {g : Nat} {cur : Array Value} {e : TypeId} {fz : Nat × Nat} (h : w.heap[g]? = some (.cells cur e fz)) (o : Nat) : w.cell? ⟨g, o, none⟩ = cur[o]? := by
  unfold World.cell?
  rw [h]
  rfl
theorem set_at {w : World} {g o : Nat} {arr : Array Value} {t : TypeId} {x : Value} (h : w.heap[g]? = some (.cells arr t (0, 0))) : (w.setCell ⟨g, o, none⟩ x).heap[g]? = some (.cells (arr.setIfInBounds o x) t (0, 0)) := heap_setCell_same w g o arr t x h
theorem cell_of {w : World} {g o : Nat} {arr : Array Value} {t : TypeId} (h : w.heap[g]? = some (.cells arr t (0, 0))) : w.cell? ⟨g, o, none⟩ = arr[o]? := by simp [World.cell?, h]
theorem free_of {w : World} {g : Nat} {arr : Array Value} {t : TypeId} (h : w.heap[g]? = some (.cells arr t (0, 0))) (o : Nat) : w.frozen? ⟨g, o, none⟩ = false := by simp [World.frozen?, h]
theorem flat_at {α : Type} {cells : α → List Value} {sz : Nat} (hsz : ∀ x, (cells x).length = sz) : ∀ {L : List α} {i : Nat} {x : α} {j : Nat} {u : Value}, L[i]? = some x → (cells x)[j]? = some u → (L.flatMap cells)[i * sz + j]? = some u
  | [], i, x, j, u, h, _ => by simp at h
  | y :: L, 0, x, j, u, h, hu => by
    obtain rfl : y = x := by simpa using h
    rw [List.flatMap_cons, Nat.zero_mul, Nat.zero_add, List.getElem?_append_left (by rw [hsz]; have := (List.getElem?_eq_some_iff.1 hu).1; rw [hsz] at this; exact this)]
    exact hu
  | y :: L, i + 1, x, j, u, h, hu => by
    have h' : L[i]? = some x := by simpa using h
    rw [List.flatMap_cons, List.getElem?_append_right (by rw [hsz, Nat.add_mul]; omega), hsz, show (i + 1) * sz + j - sz = i * sz + j by rw [Nat.add_mul]; omega]
    exact flat_at hsz h' hu
theorem flat_len {α : Type} {cells : α → List Value} {sz : Nat} (hsz : ∀ x, (cells x).length = sz) : ∀ L : List α, (L.flatMap cells).length = L.length * sz
  | [] => by simp
  | y :: L => by rw [List.flatMap_cons, List.length_append, hsz, flat_len hsz L, List.length_cons, Nat.add_mul]; omega
theorem row_block {w : World} {base e sz n : Nat} {v : Value} {xs : List Value} (h : w.ownsRow base e sz v n xs) : ∀ k, v.ownBlock = some k → base ≤ k ∧ k < w.heap.size := by
  intro k hk
  rcases h.2 with ⟨rfl, _⟩ | ⟨g, cap, cur, rfl, hb, hg, _⟩
  · cases hk
  · cases hk
    exact ⟨hb, lt_of_blk hg⟩
theorem row_chg {w w' : World} {base e sz n : Nat} {v : Value} {xs : List Value} {S : Nat → Prop} (h : w.ownsRow base e sz v n xs) (hc : Chg w w' S) (hS : ∀ k, v.ownBlock = some k → ¬ S k) : w'.ownsRow base e sz v n xs :=
  owns_same h (fun k hk => hc.block k (row_block h k hk).2 (hS k hk))
theorem results_cell_tmp {P : Program} {fn : Func} {p q : Tmp} {ty : TypeId} (h : fn.results = #[.cell p ty, .tmp q]) (tmps : Array Value) (w : World) (g : Nat) (t : TypeId) (cs : Array Value) (fr : Nat × Nat) (d : TypeDesc) (v : Value)
    (hp : tmps.getD p undef = .pointer (some ⟨g, 0, none⟩)) (hq : tmps.getD q undef = v) (hg : w.heap[g]? = some (.cells cs t fr))
    (hu : P.underlying ty = some d) (hd : (match d with | .struct _ | .array _ _ => true | _ => false) = true) (hi : (P.info? ty).map (·.size) = some cs.size) :
    (results fn tmps).run P w = .ok (.tuple #[.agg cs, v]) w := by
  have hp' : tmps[p]?.getD undef = .pointer (some ⟨g, 0, none⟩) := by simpa using hp
  have hq' : tmps[q]?.getD undef = v := by simpa using hq
  simp [results, h, hp', hq', asAddr, run_loadVar_row w g t ty cs fr d hg hu hd hi]
theorem results_cell {P : Program} {fn : Func} {p : Tmp} {ty : TypeId} (h : fn.results = #[.cell p ty]) (tmps : Array Value) (w : World) (g : Nat) (t : TypeId) (cs : Array Value) (fr : Nat × Nat) (d : TypeDesc)
    (hp : tmps.getD p undef = .pointer (some ⟨g, 0, none⟩)) (hg : w.heap[g]? = some (.cells cs t fr))
    (hu : P.underlying ty = some d) (hd : (match d with | .struct _ | .array _ _ => true | _ => false) = true) (hi : (P.info? ty).map (·.size) = some cs.size) :
    (results fn tmps).run P w = .ok (.agg cs) w := by
  have hp' : tmps[p]?.getD undef = .pointer (some ⟨g, 0, none⟩) := by simpa using hp
  simp [results, h, hp', asAddr, run_loadVar_row w g t ty cs fr d hg hu hd hi]
theorem grown_in {w0 w w' : World} {v : Value} {B : Nat} (h : Below B w0 w) (hg : w.grownBy w' v.ownBlock) (hv : ∀ k, v.ownBlock = some k → B ≤ k) (hB : B ≤ w0.heap.size) : Below B w0 w' := by
  have hc2 := Chg.grown hg
  exact ⟨hc2.os.trans h.os, hc2.tape.trans h.tape, hc2.output.trans h.output, Nat.le_trans h.size hc2.size, fun k hk => (hc2.block k (by have := h.size; omega) (fun e => by have := hv k e; omega)).trans (h.block k hk)⟩
theorem owns_nil (w : World) (B e s : Nat) : w.ownsRow B e s (.slice none 0 0) 0 [] := World.ownsRow_nil w B e s
theorem pair_blocks {w : World} {t t' : TypeId} {cs cs' : Array Value} : ((w.alloc (.cells cs t)).alloc (.cells cs' t')).heap[w.heap.size]? = some (.cells cs t (0, 0)) ∧ ((w.alloc (.cells cs t)).alloc (.cells cs' t')).heap[w.heap.size + 1]? = some (.cells cs' t' (0, 0)) ∧ Below w.heap.size w ((w.alloc (.cells cs t)).alloc (.cells cs' t')) :=
  ⟨new_old (heap_alloc_new _ _) _, heap_new' (by simp), ((Below.refl _ _).alloc (Nat.le_refl _) _).alloc (by simp) _⟩
theorem step_one {P : Program} {ops : Array Oper} {o : Oper} {a : Act} {w : World} {K : Act → World → Prop} {Q : Exit → Act → World → Prop} {E : Prop} (hgd : o.guard = none) (f : FuncId) (x : Operand) (ts : Array TypeId)
    (ho : o.op = .call { callee := .value (.func f), args := #[x], argTypes := ts }) (ef : ∀ args w, (callFunc f args).run P w = .ok (.enter f args) w) (u : Value) (hx : a.eval x = u) {R : Ending → World → Prop} (hc : Calls P f #[u] w R)
    (h : ∀ e w', R e w' → ∃ r, e = .returned r ∧ K (a.put o.dst r) w') :
    if Region.wanted o (yielded ops a.tmps) = true then Oper.wp P o a w K Q else E := by
  have hw : Region.wanted o (yielded ops a.tmps) = true := by simp [Region.wanted, hgd]
  rw [if_pos hw]
  have he : (execOp a.eval o).run P w = .ok (.enter f #[u]) w := by
    have hf : a.eval (.func f) = .func (.func f) #[] #[] := rfl
    simp [execOp, ho, resolve, invoke, Deferred.ofValue, hx, hf, ef]
  unfold Oper.wp
  rw [he, Oper.upon_enter]
  refine hc.mono ?_
  intro e w' hR
  obtain ⟨r, rfl, hk⟩ := h e w' hR
  exact hk
theorem row_form {w : World} {base e sz n : Nat} {v : Value} {xs : List Value} (h : w.ownsRow base e sz v n xs) : ∃ a c, v = .slice a n c ∧ n ≤ c := by
  rcases h.2 with ⟨rfl, h0⟩ | ⟨g, cap, cur, rfl, _, _, hn, _⟩
  · exact ⟨none, 0, by rw [h0], by omega⟩
  · exact ⟨_, cap, rfl, hn⟩
theorem grown_own {w1 w w' : World} {S : Nat → Prop} {nv nv' : Value} (hS : ∀ j, S j → j < w.heap.size → nv.ownBlock ≠ some j) (ho : nv'.ownBlock = nv.ownBlock ∨ nv'.ownBlock = some w.heap.size) : ∀ j, S j → j < w.heap.size → nv'.ownBlock ≠ some j := fun j hj hlt e => by
  rcases ho with ho | ho
  · exact hS j hj hlt (by rw [← ho]; exact e)
  · rw [ho] at e; cases e; omega
theorem row_kind {w : World} {base e sz n : Nat} {v : Value} {xs : List Value} (h : w.ownsRow base e sz v n xs) : ∀ k, v.ownBlock = some k → ∃ cur, w.heap[k]? = some (.cells cur e (0, 0)) := by
  intro k hk
  rcases h.2 with ⟨rfl, _⟩ | ⟨g, cap, cur, rfl, _, hg, _⟩
  · cases hk
  · cases hk
    exact ⟨cur, hg⟩
theorem kind_ne {w : World} {a b : Nat} {c d : Array Value} {e f : TypeId} (ha : w.heap[a]? = some (.cells c e (0, 0))) (hb : w.heap[b]? = some (.cells d f (0, 0))) (hne : e ≠ f) : a ≠ b := fun h => by
  subst h
  rw [ha] at hb
  cases hb
  exact hne rfl
theorem row_cut {w : World} {base e sz n m c k : Nat} {xs : List Value} (h : w.ownsRow base e sz (.slice (some ⟨k, 0, none⟩) n c) n xs) (hm : m ≤ n) : w.ownsRow base e sz (.slice (some ⟨k, 0, none⟩) m c) m (xs.take (m * sz)) := by
  rcases h.2 with ⟨h0, _⟩ | ⟨g, cap, cur, hv, hb, hg, h1, h2, h3, h4⟩
  · cases h0
  · cases hv
    have hms : m * sz ≤ n * sz := Nat.mul_le_mul_right _ hm
    refine ⟨by rw [List.length_take, h.1]; omega, .inr ⟨k, c, cur, rfl, hb, hg, by omega, h2, h3, ?_⟩⟩
    rw [← h4, List.take_take, Nat.min_eq_left hms]
theorem row_set {w : World} {base e sz n c k i : Nat} {xs : List Value} {x : Value} (h : w.ownsRow base e sz (.slice (some ⟨k, 0, none⟩) n c) n xs) : (w.setCell ⟨k, i, none⟩ x).ownsRow base e sz (.slice (some ⟨k, 0, none⟩) n c) n (xs.set i x) := by
  rcases h.2 with ⟨h0, _⟩ | ⟨g, cap, cur, hv, hb, hg, h1, h2, h3, h4⟩
  · cases h0
  · cases hv
    refine ⟨by rw [List.length_set]; exact h.1, .inr ⟨k, c, _, rfl, hb, set_at hg, h1, h2, by rw [Array.size_setIfInBounds]; exact h3, ?_⟩⟩
    rw [Array.toList_setIfInBounds, List.take_set, h4]
def Kind (w : World) (T : Nat → Prop) (f : TypeId) : Prop := ∀ j, T j → j < w.heap.size → ∃ cur, w.heap[j]? = some (.cells cur f (0, 0))
theorem row_other {w w' : World} {base e sz n : Nat} {v : Value} {xs : List Value} {T : Nat → Prop} {f : TypeId} (h : w.ownsRow base e sz v n xs) (hc : Chg w w' T) (hk : Kind w T f) (hne : e ≠ f) : w'.ownsRow base e sz v n xs :=
  row_chg h hc (fun k hk' hT => by
    obtain ⟨c1, h1⟩ := row_kind h k hk'
    obtain ⟨c2, h2⟩ := hk k hT (lt_of_blk h1)
    exact kind_ne h1 h2 hne rfl)
theorem blk_other {w w' : World} {k : Nat} {cs : Array Value} {e f : TypeId} {T : Nat → Prop} (h : w.heap[k]? = some (.cells cs e (0, 0))) (hc : Chg w w' T) (hk : Kind w T f) (hne : e ≠ f) : w'.heap[k]? = some (.cells cs e (0, 0)) := by
  rw [hc.block k (lt_of_blk h) (fun hT => by
    obtain ⟨c2, h2⟩ := hk k hT (lt_of_blk h)
    exact kind_ne h h2 hne rfl)]
  exact h
theorem Kind.own {w : World} {base e sz n : Nat} {v : Value} {xs : List Value} (h : w.ownsRow base e sz v n xs) : Kind w (fun k => v.ownBlock = some k) e := fun j hj _ => row_kind h j hj
theorem Kind.one {w : World} {k : Nat} {cs : Array Value} {e : TypeId} (h : w.heap[k]? = some (.cells cs e (0, 0))) : Kind w (fun j => j = k) e := fun j hj _ => ⟨cs, by rw [hj]; exact h⟩
theorem chg_ext {w0 w w' : World} {K T : Nat → Prop} (h : Chg w0 w K) (hc : Chg w w' T) (hT : ∀ j, T j → K j ∨ w0.heap.size ≤ j) : Chg w0 w' K :=
  ⟨hc.os.trans h.os, hc.tape.trans h.tape, hc.output.trans h.output, Nat.le_trans h.size hc.size, fun k hk hn => (hc.block k (Nat.lt_of_lt_of_le hk h.size) (fun e => by
    rcases hT k e with hh | hh
    · exact hn hh
    · omega)).trans (h.block k hk hn)⟩
theorem step_call2 {P : Program} {ops : Array Oper} {o : Oper} {a : Act} {w : World} {K : Act → World → Prop} {Q : Exit → Act → World → Prop} {E : Prop} (hgd : o.guard = none) (f : FuncId) (x y : Operand) (ts : Array TypeId)
    (ho : o.op = .call { callee := .value (.func f), args := #[x, y], argTypes := ts }) (ef : ∀ args w, (callFunc f args).run P w = .ok (.enter f args) w) (u v : Value) (hx : a.eval x = u) (hy : a.eval y = v) {R : Ending → World → Prop} (hc : Calls P f #[u, v] w R)
    (h : ∀ e w', R e w' → ∃ r, e = .returned r ∧ K (a.put o.dst r) w') :
    if Region.wanted o (yielded ops a.tmps) = true then Oper.wp P o a w K Q else E := by
  have hw : Region.wanted o (yielded ops a.tmps) = true := by simp [Region.wanted, hgd]
  rw [if_pos hw]
  have he : (execOp a.eval o).run P w = .ok (.enter f #[u, v]) w := by
    have hf : a.eval (.func f) = .func (.func f) #[] #[] := rfl
    simp [execOp, ho, resolve, invoke, Deferred.ofValue, hx, hy, hf, ef]
  unfold Oper.wp
  rw [he, Oper.upon_enter]
  refine hc.mono ?_
  intro e w' hR
  obtain ⟨r, rfl, hk⟩ := h e w' hR
  exact hk
def putsL (a : Act) : List Nat → List Value → Act
  | n :: ns, v :: vs => putsL (a.put (some n) v) ns vs
  | _, _ => a
def OnlyOn (R : Act → World → Prop) : Exit → Act → World → Prop
  | .normal, a, w => R a w
  | _, _, _ => False
theorem wp_cut {P : Program} {c : Code} {Q : Exit → Act → World → Prop} {a : Act} {w : World} (slots : List Nat) (R : List Value → World → Prop)
    (h1 : Code.wp P c (OnlyOn fun a' w' => ∃ vs, R vs w' ∧ a' = putsL a slots vs) a w) (h2 : ∀ vs w', R vs w' → Q .normal (putsL a slots vs) w') : Code.wp P c Q a w := by
  refine Code.wp_mono ?_ h1
  intro ex a' w' h
  cases ex <;> first | exact h.elim | skip
  obtain ⟨vs, hR, rfl⟩ := h
  exact h2 vs w' hR
theorem cells_5 {W : World} {b : Nat} {t : TypeId} {x0 x1 x2 x3 x4 : Value} (h : W.heap[b]? = some (.cells #[x0, x1, x2, x3, x4] t (0, 0))) : W.cell? ⟨b, 0, none⟩ = some x0 ∧ W.cell? ⟨b, 1, none⟩ = some x1 ∧ W.cell? ⟨b, 2, none⟩ = some x2 ∧ W.cell? ⟨b, 3, none⟩ = some x3 ∧ W.cell? ⟨b, 4, none⟩ = some x4 := by
  simp [World.cell?, h]
end Go.Proofs.YtbblckcjedjbcaaGreatDoor.J
