/-
  Steps of a region that draws its order, by hand; what a service promises.
-/
import Derived.Test.YtlbhnlpdijhmlaaVTake
import Derived.Test.YtlbhnlpdijhmlaaVWhole
import Derived.Shelf.Abstract
namespace Go.Proofs.Ytlbhnlpdijhmlaa
open Go.RowKit
set_option linter.unusedVariables false
set_option linter.unusedSimpArgs false

theorem step_call1 {P : Program} {ops : Array Oper} {o : Oper} {a : Act} {w : World} {K : Act → World → Prop} {Q : Exit → Act → World → Prop} {E : Prop} (hgd : o.guard = none) (f : FuncId) (x : Operand) (ts : Array TypeId)
    (ho : o.op = .call { callee := .value (.func f), args := #[x], argTypes := ts }) (ef : ∀ args w, (callFunc f args).run P w = .ok (.enter f args) w) (u : Value) (hx : a.eval x = u) {R : Ending → World → Prop} (hc : Calls P f #[u] w R)
    (h : ∀ e w', R e w' → ∃ r, e = .returned r ∧ K (a.put o.dst r) w') :
    if Region.wanted o (yielded ops a.tmps) = true then Oper.wp P o a w K Q else E := by
  have hw : Region.wanted o (yielded ops a.tmps) = true := by simp [Region.wanted, hgd]
  rw [if_pos hw]
  have he : (execOp a.eval o).run P w = .ok (.enter f #[u]) w := by
    have hf : a.eval (.func f) = .func (.func f) #[] #[] := rfl
    simp [execOp, ho, resolve, invoke, Deferred.ofValue, hx, hf, ef]
  unfold Oper.wp
  rw [he, Oper.upon_enter]
  refine hc.mono ?_
  intro e w' hR
  obtain ⟨r, rfl, hk⟩ := h e w' hR
  exact hk
theorem step_call2 {P : Program} {ops : Array Oper} {o : Oper} {a : Act} {w : World} {K : Act → World → Prop} {Q : Exit → Act → World → Prop} {E : Prop} (hgd : o.guard = none) (f : FuncId) (x y : Operand) (ts : Array TypeId)
    (ho : o.op = .call { callee := .value (.func f), args := #[x, y], argTypes := ts }) (ef : ∀ args w, (callFunc f args).run P w = .ok (.enter f args) w) (u v : Value) (hx : a.eval x = u) (hy : a.eval y = v) {R : Ending → World → Prop} (hc : Calls P f #[u, v] w R)
    (h : ∀ e w', R e w' → ∃ r, e = .returned r ∧ K (a.put o.dst r) w') :
    if Region.wanted o (yielded ops a.tmps) = true then Oper.wp P o a w K Q else E := by
  have hw : Region.wanted o (yielded ops a.tmps) = true := by simp [Region.wanted, hgd]
  rw [if_pos hw]
  have he : (execOp a.eval o).run P w = .ok (.enter f #[u, v]) w := by
    have hf : a.eval (.func f) = .func (.func f) #[] #[] := rfl
    simp [execOp, ho, resolve, invoke, Deferred.ofValue, hx, hy, hf, ef]
  unfold Oper.wp
  rw [he, Oper.upon_enter]
  refine hc.mono ?_
  intro e w' hR
  obtain ⟨r, rfl, hk⟩ := h e w' hR
  exact hk
theorem step_load {P : Program} {ops : Array Oper} {o : Oper} {a : Act} {w : World} {K : Act → World → Prop} {Q : Exit → Act → World → Prop} {E : Prop} (hgd : o.guard = none) (ty : TypeId) (x : Operand) (ho : o.op = .load ty x)
    (b f : Nat) (hx : a.eval x = .pointer (some ⟨b, f, none⟩)) (cs : List Value) (d : TypeDesc) (hc : w.rangeAt b f cs) (hu : P.underlying ty = some d) (hd : d.isRow = true) (hi : (P.info? ty).map (·.size) = some cs.length)
    (h : K (a.put o.dst (.agg cs.toArray)) w) : if Region.wanted o (yielded ops a.tmps) = true then Oper.wp P o a w K Q else E := by
  rw [if_pos (by simp [Region.wanted, hgd])]
  exact wp_load_mid ty x ho b f hx cs d hc hu hd hi h
theorem step_store {P : Program} {ops : Array Oper} {o : Oper} {a : Act} {w : World} {K : Act → World → Prop} {Q : Exit → Act → World → Prop} {E : Prop} (hgd : o.guard = none) (ty : TypeId) (x y : Operand) (ho : o.op = .store ty x y)
    (b f : Nat) (cs : List Value) (hx : a.eval x = .pointer (some ⟨b, f, none⟩)) (hy : a.eval y = .agg cs.toArray) (ht : w.there b f cs.length) (hi : (P.info? ty).map (·.size) = some cs.length) (h1 : ∀ v ∈ cs, v.oneCell' = true)
    (h : K (a.put o.dst undef) (w.setCells b f cs)) : if Region.wanted o (yielded ops a.tmps) = true then Oper.wp P o a w K Q else E := by
  rw [if_pos (by simp [Region.wanted, hgd])]
  refine wp_store_mid ty x y ho b f cs.toArray hx hy (by simpa using ht) (by simpa using hi) (all_oneCell_toArray h1) ?_
  simpa using h
/-- What a call leaves of a service: the blocks of K' are its own. -/
def SvE (At : World → (Nat → Prop) → SvT → Value → Prop) (w : World) (K : Nat → Prop) (V : SvT) (p : Value) (w' : World) : Prop :=
  ∃ K', At w' K' V p ∧ Chg w w' K ∧ ∀ j, K' j → K j ∨ w.heap.size ≤ j
def newV (nodes : Int) : SvT := ⟨nodes, [⟨1, 1, if 1 < nodes then 2 else 0⟩], false⟩
/-- What the calls of a service promise. -/
structure Serves (At : World → (Nat → Prop) → SvT → Value → Prop) : Prop where
  keep : ∀ {w w' : World} {K : Nat → Prop} {V : SvT} {p : Value}, At w K V p → Kp w w' K → At w' K V p
  ok : ∀ {w : World} {K : Nat → Prop} {V : SvT} {p : Value}, At w K V p → V.Ok
  lt : ∀ {w : World} {K : Nat → Prop} {V : SvT} {p : Value}, At w K V p → ∀ j, K j → j < w.heap.size
  now : ∀ (w : World) (K : Nat → Prop) (V : SvT) (p : Value), At w K V p → Calls Try.prog 11 #[p] w fun e w' => e = .returned (vwV (lastV V.l)) ∧ SvE At w K V p w'
  settled : ∀ (w : World) (K : Nat → Prop) (V : SvT) (p : Value), At w K V p → Calls Try.prog 16 #[p] w fun e w' => e = .returned (.bool V.set) ∧ SvE At w K V p w'
  promote : ∀ (w : World) (K : Nat → Prop) (V : SvT) (p : Value) (a b : Int), At w K V p → Calls Try.prog 13 #[p, .int .i64 a, .int .i64 b] w fun e w' => e = .returned (.int .i64 (V.promC a b)) ∧ SvE At w K (V.prom a b) p w'
  settle : ∀ (w : World) (K : Nat → Prop) (V : SvT) (p : Value) (a b : Int), At w K V p → Calls Try.prog 12 #[p, .int .i64 a, .int .i64 b] w fun e w' => e = .returned (.int .i64 (V.settC a b)) ∧ SvE At w K (V.sett a b) p w'
  take : ∀ (w : World) (K : Nat → Prop) (V : SvT) (p : Value) (a k n : Int) (ns : List Value), At w K V p → NoAt ns k n → Calls Try.prog 17 #[p, .int .i64 a, .agg ns.toArray] w fun e w' => ∃ m K', e = .returned m ∧ NosAt w' (fun j => w.heap.size ≤ j ∧ ¬ K' j) m (V.tells k) ∧ At w' K' (V.took a k n) p ∧ Chg w w' K ∧ ∀ j, K' j → K j ∨ w.heap.size ≤ j
  all : ∀ (w : World) (K : Nat → Prop) (V : SvT) (p : Value), At w K V p → Calls Try.prog 14 #[p] w fun e w' => ∃ v K', e = .returned v ∧ VwsAt w' (fun j => w.heap.size ≤ j ∧ ¬ K' j) v V.l ∧ At w' K' V p ∧ Chg w w' K ∧ ∀ j, K' j → K j ∨ w.heap.size ≤ j
  new_ok : ∀ (w : World) (nodes : Int), 1 ≤ nodes → nodes ≤ 5 → Calls Try.prog 10 #[.int .i64 nodes] w fun e w' => ∃ b K, e = .returned (.tuple #[.pointer (some ⟨b, 0, none⟩), .int .i64 0]) ∧ At w' K (newV nodes) (.pointer (some ⟨b, 0, none⟩)) ∧ Below w.heap.size w w' ∧ ∀ j, K j → w.heap.size ≤ j
  new_no : ∀ (w : World) (nodes : Int), nodes < 1 ∨ 5 < nodes → Calls Try.prog 10 #[.int .i64 nodes] w fun e w' => e = .returned (.tuple #[.pointer none, .int .i64 1]) ∧ Below w.heap.size w w'
/-- What an act does. -/
def SvT.does (V : SvT) (x : WhT) : SvT := if x.kind = 1 then V.prom x.a x.b else if x.kind = 2 then V.sett x.a x.b else if x.kind = 3 then V.took x.a x.k x.n else V
end Go.Proofs.Ytlbhnlpdijhmlaa
