import Derived.Test.YtlidkieljiebiaaQOnlyP
import Derived.Deep.RegionHeld3
namespace Go.Proofs.Ytlidkieljiebiaa
open Go.RowKit
set_option linter.unusedVariables false
set_option linter.unusedSimpArgs false

/-- Another queue is played at the desk. -/
theorem Sit.apart {w w' : World} {S : Nat → Prop} {B C D : Nat} {Q : QuT} {v tv pv sv nv tv' pv' sv' nv' : Value} {L M L' M' : List Value} (h : Sit w S B D Q v tv pv sv nv L M) (hd : DeskAt w' D tv' pv' sv' nv' L' M') (hc : Chg w w' (fun j => j = C ∨ DeskK D tv pv sv nv L M j)) (hC : ¬ S C ∧ B ≠ C) (hn : ∀ j, DeskK D tv' pv' sv' nv' L' M' j → DeskK D tv pv sv nv L M j ∨ w.heap.size ≤ j) : Sit w' (fun j => S j ∧ ¬ DeskK D tv' pv' sv' nv' L' M' j) B D Q v tv' pv' sv' nv' L' M' := by
  have hs : ∀ j, j < w.heap.size → S j → S j ∧ ¬ DeskK D tv' pv' sv' nv' L' M' j := fun j hj hS => ⟨hS, fun hk => (hn j hk).elim (fun hh => (h.out j hh).1 hS) (fun hh => by omega)⟩
  have hSC : ∀ j, S j → ¬ (j = C ∨ DeskK D tv pv sv nv L M j) := fun j hS e => e.elim (fun e => hC.1 (by rw [← e]; exact hS)) (fun e => (h.out j e).1 hS)
  have hBC : ¬ (B = C ∨ DeskK D tv pv sv nv L M B) := fun e => e.elim hC.2 (fun e => (h.out B e).2 rfl)
  exact ⟨(h.q.mono hs (fun hB => h.q.out hB.1)).keep (Kp.of_chg hc (fun j _ hS e => hS.elim (fun hS => hSC j hS.1 e) (fun hS => hBC (by rw [← hS]; exact e)))), ItsAt.keep (its_mono h.ref hs) (Kp.of_chg hc (fun j _ hS e => hSC j hS.1 e)), hd, fun j hj => ⟨h.hi j (Nat.le_trans hc.size hj), fun hk => by have := hd.lt j hk; omega⟩, fun j hj => ⟨fun hh => hh.2 hj, (hn j hj).elim (fun hh => (h.out j hh).2) (fun hh e => by have := h.q.lt; omega)⟩, h.snd⟩
/-- Between two steps. -/
structure DuI (w0 w : World) (b1 b2 B1 B2 D r1 r2 last1 last2 : Nat) (S1 S2 : Nat → Prop) (v1 v2 tv pv sv nv : Value) (L M : List Value) (f1 f2 : Nat) (l1 l2 : List ItT) : Prop where
  s1 : Sit w S1 B1 D ⟨r1, f1, last1, l1⟩ v1 tv pv sv nv L M
  s2 : Sit w S2 B2 D ⟨r2, f2, last2, l2⟩ v2 tv pv sv nv L M
  x1 : w.heap[b1]? = some (.cells #[.int .i64 r1, .int .i64 last1, v1] 67 (0, 0))
  x2 : w.heap[b2]? = some (.cells #[.int .i64 r2, .int .i64 last2, v2] 67 (0, 0))
  n1 : ¬ S1 b1 ∧ ¬ S2 b1 ∧ b1 ≠ B1 ∧ b1 ≠ B2 ∧ ¬ DeskK D tv pv sv nv L M b1
  n2 : ¬ S2 b2 ∧ ¬ S1 b2 ∧ b2 ≠ B2 ∧ b2 ≠ B1 ∧ ¬ DeskK D tv pv sv nv L M b2
  ne : b1 ≠ b2 ∧ B1 ≠ B2 ∧ ¬ S1 B2 ∧ ¬ S2 B1
  below : Below w0.heap.size w0 w
  low : w0.heap.size ≤ b1 ∧ w0.heap.size ≤ b2 ∧ w0.heap.size ≤ B1 ∧ w0.heap.size ≤ B2
  lowK : ∀ j, DeskK D tv pv sv nv L M j → w0.heap.size ≤ j
theorem DuI.swap {w0 w : World} {b1 b2 B1 B2 D r1 r2 last1 last2 : Nat} {S1 S2 : Nat → Prop} {v1 v2 tv pv sv nv : Value} {L M : List Value} {f1 f2 : Nat} {l1 l2 : List ItT} (h : DuI w0 w b1 b2 B1 B2 D r1 r2 last1 last2 S1 S2 v1 v2 tv pv sv nv L M f1 f2 l1 l2) : DuI w0 w b2 b1 B2 B1 D r2 r1 last2 last1 S2 S1 v2 v1 tv pv sv nv L M f2 f1 l2 l1 :=
  ⟨h.s2, h.s1, h.x2, h.x1, h.n2, h.n1, ⟨h.ne.1.symm, h.ne.2.1.symm, h.ne.2.2.2, h.ne.2.2.1⟩, h.below, ⟨h.low.2.1, h.low.1, h.low.2.2.2, h.low.2.2.1⟩, h.lowK⟩
theorem DuI.step {w0 w w1 : World} {b1 b2 B1 B2 D r1 r2 last1 last2 : Nat} {S1 S2 : Nat → Prop} {v1 v2 tv pv sv nv : Value} {L M : List Value} {f1 f2 : Nat} {l1 l2 : List ItT} (h : DuI w0 w b1 b2 B1 B2 D r1 r2 last1 last2 S1 S2 v1 v2 tv pv sv nv L M f1 f2 l1 l2)
    {S' : Nat → Prop} {f' last' : Nat} {l' : List ItT} {v' tv' pv' sv' nv' : Value} {L' M' : List Value} (hs : Sit w1 S' B1 D ⟨r1, f', last', l'⟩ v' tv' pv' sv' nv' L' M') (hS : ∀ j, S' j → S1 j) (hc : Chg w w1 (fun j => j = B1 ∨ DeskK D tv pv sv nv L M j)) (hk : ∀ j, DeskK D tv' pv' sv' nv' L' M' j → DeskK D tv pv sv nv L M j ∨ w.heap.size ≤ j) :
    DuI w0 (put_3 w1 b1 (.int .i64 r1) (.int .i64 last') v') b1 b2 B1 B2 D r1 r2 last' last2 S' (fun j => S2 j ∧ ¬ DeskK D tv' pv' sv' nv' L' M' j) v' v2 tv' pv' sv' nv' L' M' f' f2 l' l2 := by
  have hcp := chg_put3 w1 b1 (.int .i64 r1) (.int .i64 last') v'
  have hlt := lt_of_blk h.x1
  have hlt2 := lt_of_blk h.x2
  have hk1 : ¬ DeskK D tv' pv' sv' nv' L' M' b1 := fun hh => (hk b1 hh).elim h.n1.2.2.2.2 (fun hh => by omega)
  have hk2 : ¬ DeskK D tv' pv' sv' nv' L' M' b2 := fun hh => (hk b2 hh).elim h.n2.2.2.2.2 (fun hh => by omega)
  have hx1 : w1.heap[b1]? = _ := (hc.block b1 hlt (fun e => e.elim h.n1.2.2.1 h.n1.2.2.2.2)).trans h.x1
  have hx2 : w1.heap[b2]? = _ := (hc.block b2 hlt2 (fun e => e.elim h.n2.2.2.2.1 h.n2.2.2.2.2)).trans h.x2
  have hx3 : (put_3 w1 b1 (.int .i64 r1) (.int .i64 last') v').heap[b2]? = _ := (hcp.block b2 (lt_of_blk hx2) (fun e => h.ne.1 e.symm)).trans hx2
  have hap := h.s2.apart hs.desk hc ⟨h.ne.2.2.2, fun e => h.ne.2.1 e.symm⟩ hk
  refine ⟨hs.other hcp (fun j _ e => ?_), hap.other hcp (fun j _ e => ?_), fill_3 hx1, hx3, ⟨fun hh => h.n1.1 (hS b1 hh), fun hh => h.n1.2.1 hh.1, h.n1.2.2.1, h.n1.2.2.2.1, hk1⟩, ⟨fun hh => h.n2.1 hh.1, fun hh => h.n2.2.1 (hS b2 hh), h.n2.2.2.1, h.n2.2.2.2.1, hk2⟩, ⟨h.ne.1, h.ne.2.1, fun hh => h.ne.2.2.1 (hS B2 hh), fun hh => h.ne.2.2.2 hh.1⟩, below_chgs (below_chgs h.below hc (fun j e => e.elim (fun e => by rw [e]; exact h.low.2.2.1) (h.lowK j))) hcp (fun j e => by have e : j = b1 := e; rw [e]; exact h.low.1), h.low, fun j hj => (hk j hj).elim (h.lowK j) (fun hh => Nat.le_trans h.below.size hh)⟩
  · have e : j = b1 := e
    rw [e]
    exact ⟨fun hh => h.n1.1 (hS b1 hh), h.n1.2.2.1, hk1⟩
  · have e : j = b1 := e
    rw [e]
    exact ⟨fun hh => h.n1.2.1 hh.1, h.n1.2.2.2.1, hk1⟩
end Go.Proofs.Ytlidkieljiebiaa
namespace Go.Proofs.Ytlidkieljiebiaa
open Go.RowKit
set_option linter.unusedVariables false
set_option linter.unusedSimpArgs false

/-- The old blocks but for some are as they were. -/
structure Old (w : World) (T : Nat → Prop) (w' : World) : Prop where
  size : w.heap.size ≤ w'.heap.size
  block : ∀ j, j < w.heap.size → ¬ T j → w'.heap[j]? = w.heap[j]?
theorem Old.refl (w : World) (T : Nat → Prop) : Old w T w := ⟨Nat.le_refl _, fun _ _ _ => rfl⟩
theorem Old.drew {w w1 : World} {T : Nat → Prop} (h : Old w T w1) : Old w T w1.drew := ⟨h.size, h.block⟩
theorem Old.set {w w1 : World} {T : Nat → Prop} {g i : Nat} {x : Value} (h : Old w T w1) (hg : w.heap.size ≤ g) : Old w T (w1.setCell ⟨g, i, none⟩ x) := by
  have hc := Chg.set w1 ⟨g, i, none⟩ x
  exact ⟨Nat.le_trans h.size hc.size, fun j hj hT => (hc.block j (Nat.lt_of_lt_of_le hj h.size) (fun e => by have e : j = g := e; omega)).trans (h.block j hj hT)⟩
theorem Old.below {w w1 w2 : World} {T : Nat → Prop} (h : Old w T w1) (hb : Below w1.heap.size w1 w2) : Old w T w2 := ⟨Nat.le_trans h.size hb.size, fun j hj hT => (hb.block j (Nat.lt_of_lt_of_le hj h.size)).trans (h.block j hj hT)⟩
theorem Old.alloc {w w1 : World} {T : Nat → Prop} {o : Obj} (h : Old w T w1) : Old w T (w1.alloc o) := h.below ((Below.refl _ _).alloc (Nat.le_refl _) _)
theorem Old.chg {w w1 w2 : World} {T T' : Nat → Prop} (h : Old w T w1) (hc : Chg w1 w2 T') (hT : ∀ j, j < w.heap.size → T' j → T j) : Old w T w2 := ⟨Nat.le_trans h.size hc.size, fun j hj hn => (hc.block j (Nat.lt_of_lt_of_le hj h.size) (fun e => hn (hT j hj e))).trans (h.block j hj hn)⟩
theorem Old.cell {w w1 : World} {T : Nat → Prop} (h : Old w T w1) {j o : Nat} {v : Value} (hj : j < w.heap.size) (hT : ¬ T j) (hv : w.cell? ⟨j, o, none⟩ = some v) : w1.cell? ⟨j, o, none⟩ = some v := by
  rw [World.cell?_of_block (w := w) (h.block j hj hT)]
  exact hv
end Go.Proofs.Ytlidkieljiebiaa
namespace Go.Proofs.Ytlidkieljiebiaa
open Go.RowKit
set_option linter.unusedVariables false
set_option linter.unusedSimpArgs false

theorem Old.setT {w w1 : World} {T : Nat → Prop} {g i : Nat} {x : Value} (h : Old w T w1) (hg : T g) : Old w T (w1.setCell ⟨g, i, none⟩ x) := by
  have hc := Chg.set w1 ⟨g, i, none⟩ x
  exact ⟨Nat.le_trans h.size hc.size, fun j hj hT => (hc.block j (Nat.lt_of_lt_of_le hj h.size) (fun e => hT (by have e : j = g := e; rw [e]; exact hg))).trans (h.block j hj hT)⟩
theorem step_call4 {P : Program} {ops : Array Oper} {o : Oper} {a : Act} {w : World} {K : Act → World → Prop} {Q : Exit → Act → World → Prop} {E : Prop} (hgd : o.guard = none) (f : FuncId) (x1 x2 x3 x4 : Operand) (ts : Array TypeId)
    (ho : o.op = .call { callee := .value (.func f), args := #[x1, x2, x3, x4], argTypes := ts }) (ef : ∀ args w, (callFunc f args).run P w = .ok (.enter f args) w) (u1 u2 u3 u4 : Value) (h1 : a.eval x1 = u1) (h2 : a.eval x2 = u2) (h3 : a.eval x3 = u3) (h4 : a.eval x4 = u4) {R : Ending → World → Prop} (hc : Calls P f #[u1, u2, u3, u4] w R)
    (h : ∀ e w', R e w' → ∃ r, e = .returned r ∧ K (a.put o.dst r) w') :
    if Region.wanted o (yielded ops a.tmps) = true then Oper.wp P o a w K Q else E := by
  have hw : Region.wanted o (yielded ops a.tmps) = true := by simp [Region.wanted, hgd]
  rw [if_pos hw]
  have he : (execOp a.eval o).run P w = .ok (.enter f #[u1, u2, u3, u4]) w := by
    have hf : a.eval (.func f) = .func (.func f) #[] #[] := rfl
    simp [execOp, ho, resolve, invoke, Deferred.ofValue, h1, h2, h3, h4, hf, ef]
  unfold Oper.wp
  rw [he, Oper.upon_enter]
  refine hc.mono ?_
  intro e w' hR
  obtain ⟨r, rfl, hk⟩ := h e w' hR
  exact hk
theorem DuI.start {w0 w : World} {b1 b2 B1 B2 D r1 r2 x : Nat} (hq1 : QueueAt w (fun _ => False) B1 0 ⟨r1, 0, x, []⟩) (hq2 : QueueAt w (fun _ => False) B2 0 ⟨r2, 0, x, []⟩) (hd : w.heap[D]? = some (.cells #[.slice none 0 0, .slice none 0 0, .slice none 0 0, .slice none 0 0] 72 (0, 0))) (hx1 : w.heap[b1]? = some (.cells #[.int .i64 r1, .int .i64 x, .slice none 0 0] 67 (0, 0))) (hx2 : w.heap[b2]? = some (.cells #[.int .i64 r2, .int .i64 x, .slice none 0 0] 67 (0, 0)))
    (h : w0.heap.size ≤ b1 ∧ b1 < b2 ∧ b2 < B1 ∧ B1 < B2 ∧ B2 < D ∧ w.heap.size = D + 1) (hb : Below w0.heap.size w0 w) : DuI w0 w b1 b2 B1 B2 D r1 r2 x x (fun j => D < j) (fun j => D < j) (.slice none 0 0) (.slice none 0 0) (.slice none 0 0) (.slice none 0 0) (.slice none 0 0) (.slice none 0 0) [] [] 0 0 [] [] := by
  have o1 := OnI.start (w0 := w0) (b := b1) (S := fun j => D < j) (hq1.mono (fun j _ h => h.elim) (by omega)) hd hx1 ⟨by omega, by omega, by omega, by omega, by omega⟩ (fun j hj => by show D < j; omega) hb (by omega) (by omega) (by omega)
  have o2 := OnI.start (w0 := w0) (b := b2) (S := fun j => D < j) (hq2.mono (fun j _ h => h.elim) (by omega)) hd hx2 ⟨by omega, by omega, by omega, by omega, by omega⟩ (fun j hj => by show D < j; omega) hb (by omega) (by omega) (by omega)
  exact ⟨o1.sit, o2.sit, hx1, hx2, ⟨o1.nb.1, o1.nb.1, o1.nb.2.1, by omega, o1.nb.2.2⟩, ⟨o2.nb.1, o2.nb.1, o2.nb.2.1, by omega, o2.nb.2.2⟩, ⟨by omega, by omega, by omega, by omega⟩, hb, ⟨by omega, by omega, by omega, by omega⟩, o1.lowK⟩
theorem newQ_vals (r x : Int) : newQ r x = 0 ∨ newQ r x = 1 ∨ newQ r x = 3 := by
  unfold newQ
  split
  · exact .inr (.inl rfl)
  · split
    · exact .inr (.inr rfl)
    · exact .inl rfl
/-- Both queues are told at the end. -/
structure DuE (w0 w : World) (b1 b2 r1 r2 last1 last2 : Nat) (S1 S2 T : Nat → Prop) (v1 v2 y1 y2 : Value) (l1 l2 : List ItT) (k1 k2 : Nat) : Prop where
  i1 : ItsAt w S1 v1 l1
  i2 : ItsAt w S2 v2 l2
  x1 : w.heap[b1]? = some (.cells #[.int .i64 r1, .int .i64 last1, v1] 67 (0, 0))
  x2 : w.heap[b2]? = some (.cells #[.int .i64 r2, .int .i64 last2, v2] 67 (0, 0))
  t1 : ItsAt w T y1 (l1.take k1)
  t2 : ItsAt w T y2 (l2.take k2)
  below : Below w0.heap.size w0 w
theorem DuE.on {w0 w w' : World} {b1 b2 r1 r2 last1 last2 : Nat} {S1 S2 T : Nat → Prop} {v1 v2 y1 y2 : Value} {l1 l2 : List ItT} {k1 k2 : Nat} (h : DuE w0 w b1 b2 r1 r2 last1 last2 S1 S2 T v1 v2 y1 y2 l1 l2 k1 k2) (hb : Below w.heap.size w w') : DuE w0 w' b1 b2 r1 r2 last1 last2 S1 S2 T v1 v2 y1 y2 l1 l2 k1 k2 :=
  ⟨ItsAt.keep h.i1 (Kp.of_below hb _), ItsAt.keep h.i2 (Kp.of_below hb _), kept_block hb h.x1, kept_block hb h.x2, ItsAt.keep h.t1 (Kp.of_below hb _), ItsAt.keep h.t2 (Kp.of_below hb _), trans2 h.below hb⟩
theorem DuI.told {w0 w w1 w2 : World} {b1 b2 B1 B2 D r1 r2 last1 last2 : Nat} {S1 S2 : Nat → Prop} {v1 v2 tv pv sv nv : Value} {L M : List Value} {f1 f2 : Nat} {l1 l2 : List ItT} (h : DuI w0 w b1 b2 B1 B2 D r1 r2 last1 last2 S1 S2 v1 v2 tv pv sv nv L M f1 f2 l1 l2) {y1 y2 : Value} {k1 k2 : Nat}
    (hc1 : Chg w w1 (fun j => j = B1)) (h1 : ItsAt w1 (NewIn w) y1 (l1.take k1)) (hc2 : Chg w1 w2 (fun j => j = B2)) (h2 : ItsAt w2 (NewIn w1) y2 (l2.take k2)) : DuE w0 w2 b1 b2 r1 r2 last1 last2 S1 S2 (fun j => w.heap.size ≤ j) v1 v2 y1 y2 l1 l2 k1 k2 := by
  have hB2 := h.s2.q.lt
  have hlt1 := lt_of_blk h.x1
  have hlt2 := lt_of_blk h.x2
  have k1' := hc1.block b1 hlt1 h.n1.2.2.1
  have k2' := hc1.block b2 hlt2 h.n2.2.2.2.1
  have m1 := hc2.block b1 (Nat.lt_of_lt_of_le hlt1 hc1.size) h.n1.2.2.2.1
  have m2 := hc2.block b2 (Nat.lt_of_lt_of_le hlt2 hc1.size) h.n2.2.2.1
  exact ⟨ItsAt.keep (ItsAt.keep h.s1.ref (Kp.of_chg hc1 (fun j _ hS e => h.s1.q.out (by have e : j = B1 := e; rw [← e]; exact hS)))) (Kp.of_chg hc2 (fun j _ hS e => h.ne.2.2.1 (by have e : j = B2 := e; rw [← e]; exact hS))),
    ItsAt.keep (ItsAt.keep h.s2.ref (Kp.of_chg hc1 (fun j _ hS e => h.ne.2.2.2 (by have e : j = B1 := e; rw [← e]; exact hS)))) (Kp.of_chg hc2 (fun j _ hS e => h.s2.q.out (by have e : j = B2 := e; rw [← e]; exact hS))),
    (m1.trans k1').trans h.x1, (m2.trans k2').trans h.x2, ItsAt.keep h1 (Kp.of_chg hc2 (fun j _ hS e => by have e : j = B2 := e; have hS : w.heap.size ≤ j := hS; omega)), its_mono h2 (fun j _ hS => Nat.le_trans hc1.size hS),
    below_chgs (below_chgs h.below hc1 (fun j e => by have e : j = B1 := e; rw [e]; exact h.low.2.2.1)) hc2 (fun j e => by have e : j = B2 := e; rw [e]; exact h.low.2.2.2)⟩
theorem DuI.second {w0 w w1 : World} {b1 b2 B1 B2 D r1 r2 last1 last2 : Nat} {S1 S2 : Nat → Prop} {v1 v2 tv pv sv nv : Value} {L M : List Value} {f1 f2 : Nat} {l1 l2 : List ItT} (h : DuI w0 w b1 b2 B1 B2 D r1 r2 last1 last2 S1 S2 v1 v2 tv pv sv nv L M f1 f2 l1 l2) (hc : Chg w w1 (fun j => j = B1)) : QueueAt w1 S2 B2 0 ⟨r2, f2, last2, l2⟩ :=
  h.s2.q.keep (Kp.of_chg hc (fun j _ hS e => by
    have e : j = B1 := e
    rcases hS with hS | hS
    · exact h.ne.2.2.2 (by rw [← e]; exact hS)
    · exact h.ne.2.1 (by rw [← e, hS])))
set_option maxHeartbeats 6400000 in
set_option maxRecDepth 100000 in
theorem QueueTwo_no (room begin_ other : Int) (v : Value) (w : World) (hz : ¬ (newQ room begin_ = 0 ∧ newQ other begin_ = 0)) (hv : ∃ a n c, v = .slice a n c) :
    Calls Try.prog 8 #[.int .i64 room, .int .i64 begin_, .int .i64 other, v] w fun e w' => e = .returned (.bool true) ∧ Below w.heap.size w w' := by
  obtain ⟨a, m, c, rfl⟩ := hv
  have HNUM : Hid (∀ x w, _) := fun x w => num_any x w
  have HKN : Hid (∀ w, _) := fun w => known_any w
  by_cases h1 : newQ room begin_ = 0
  · have h2 : ¬ newQ other begin_ = 0 := fun h => hz ⟨h1, h⟩
    have HN : Hid (∀ w S hS, _) := fun w S hS => new_ok room begin_ w S hS h1
    have HNR : Hid (∀ w, _) := fun w => refNew_ok room begin_ w h1
    have HM : Hid (∀ w, _) := fun w => new_no other begin_ w h2
    have HMR : Hid (∀ w, _) := fun w => refNew_no other begin_ w h2
    obtain ⟨z, hzz⟩ : ∃ z, newQ other begin_ = z := ⟨_, rfl⟩
    have hzv := newQ_vals other begin_
    rw [hzz] at HM HMR h2 hzv
    clear hzz hz h1
    rcases hzv with hzv | hzv | hzv
    · exact absurd hzv h2
    all_goals subst hzv
    all_goals clear h2
    all_goals (
      go_enter Try.func8, Try.ntmps8
      go_upto_region 2 with
        (first
        | (go_at_call 26; refine (HNR.out _).mono ?_; rintro e w1 ⟨rfl, hb1⟩
           have HB1 : Hid (Below w.heap.size w w1) := hb1
           clear hb1)
        | fail)
      go_upto_region 3 with
        (first
        | (go_at_call 26; refine (HMR.out _).mono ?_; rintro e w3 ⟨rfl, hb3⟩
           have HB3 : Hid _ := trans2 (trans2 HB1.out ((Below.refl _ _).alloc (Nat.le_refl _) _)) hb3
           clear hb3)
        | fail)
      go_upto_region 4 with
        (first
        | (go_at_call 9; refine (HN.out _ (fun _ => False) id).mono ?_; rintro e w5 ⟨rfl, hq5, hb5⟩; have HB5 : Hid _ := hb5; clear hq5 hb5)
        | fail)
      go_upto_region 5 with
        (first
        | (go_at_call 9; refine (HM.out _).mono ?_; rintro e w6 ⟨rfl, rfl⟩)
        | fail)
      go_wp2_with (first
        | (go_at_call 10; refine (HNUM.out _ _).mono ?_; rintro e w7 ⟨rfl, hw7⟩; subst hw7)
        | (go_at_call 11; refine (HKN.out _).mono ?_; rintro e w9 ⟨rfl, hb9⟩
           have HB9 : Hid _ := hb9
           clear hb9)
        | fail)
      go_ret
      exact ⟨rfl, trans2 (trans2 HB3.out ((Below.refl _ _).alloc (Nat.le_refl _) _)) (trans2 HB5.out HB9.out)⟩)
  have HN : Hid (∀ w, _) := fun w => new_no room begin_ w h1
  have HNR : Hid (∀ w, _) := fun w => refNew_no room begin_ w h1
  obtain ⟨z, hzz⟩ : ∃ z, newQ room begin_ = z := ⟨_, rfl⟩
  have hzv := newQ_vals room begin_
  rw [hzz] at HN HNR h1 hzv
  clear hzz hz
  by_cases h2 : newQ other begin_ = 0
  · have HM : Hid (∀ w S hS, _) := fun w S hS => new_ok other begin_ w S hS h2
    have HMR : Hid (∀ w, _) := fun w => refNew_ok other begin_ w h2
    clear h2
    rcases hzv with hzv | hzv | hzv
    · exact absurd hzv h1
    all_goals subst hzv
    all_goals clear h1
    all_goals (
      go_enter Try.func8, Try.ntmps8
      go_upto_region 2 with
        (first
        | (go_at_call 26; refine (HNR.out _).mono ?_; rintro e w1 ⟨rfl, hb1⟩
           have HB1 : Hid (Below w.heap.size w w1) := hb1
           clear hb1)
        | fail)
      go_upto_region 3 with
        (first
        | (go_at_call 26; refine (HMR.out _).mono ?_; rintro e w3 ⟨rfl, hb3⟩
           have HB3 : Hid _ := trans2 (trans2 HB1.out ((Below.refl _ _).alloc (Nat.le_refl _) _)) hb3
           clear hb3)
        | fail)
      go_upto_region 4 with
        (first
        | (go_at_call 9; refine (HN.out _).mono ?_; rintro e w5 ⟨rfl, rfl⟩)
        | fail)
      go_upto_region 5 with
        (first
        | (go_at_call 9; refine (HM.out _ (fun _ => False) id).mono ?_; rintro e w6 ⟨rfl, hq6, hb6⟩; have HB6 : Hid _ := hb6; clear hq6 hb6)
        | fail)
      go_wp2_with (first
        | (go_at_call 10; refine (HNUM.out _ _).mono ?_; rintro e w7 ⟨rfl, hw7⟩; subst hw7)
        | (go_at_call 11; refine (HKN.out _).mono ?_; rintro e w9 ⟨rfl, hb9⟩
           have HB9 : Hid _ := hb9
           clear hb9)
        | fail)
      go_ret
      exact ⟨rfl, trans2 (trans2 HB3.out ((Below.refl _ _).alloc (Nat.le_refl _) _)) (trans2 HB6.out HB9.out)⟩)
  · have HM : Hid (∀ w, _) := fun w => new_no other begin_ w h2
    have HMR : Hid (∀ w, _) := fun w => refNew_no other begin_ w h2
    obtain ⟨y, hyy⟩ : ∃ y, newQ other begin_ = y := ⟨_, rfl⟩
    have hyv := newQ_vals other begin_
    rw [hyy] at HM HMR h2 hyv
    clear hyy
    rcases hzv with hzv | hzv | hzv
    · exact absurd hzv h1
    all_goals subst hzv
    all_goals clear h1
    all_goals rcases hyv with hyv | hyv | hyv
    all_goals first | exact absurd hyv h2 | skip
    all_goals subst hyv
    all_goals clear h2
    all_goals (
      go_enter Try.func8, Try.ntmps8
      go_upto_region 2 with
        (first
        | (go_at_call 26; refine (HNR.out _).mono ?_; rintro e w1 ⟨rfl, hb1⟩
           have HB1 : Hid (Below w.heap.size w w1) := hb1
           clear hb1)
        | fail)
      go_upto_region 3 with
        (first
        | (go_at_call 26; refine (HMR.out _).mono ?_; rintro e w3 ⟨rfl, hb3⟩
           have HB3 : Hid _ := trans2 (trans2 HB1.out ((Below.refl _ _).alloc (Nat.le_refl _) _)) hb3
           clear hb3)
        | fail)
      go_upto_region 4 with
        (first
        | (go_at_call 9; refine (HN.out _).mono ?_; rintro e w5 ⟨rfl, rfl⟩)
        | fail)
      go_upto_region 5 with
        (first
        | (go_at_call 9; refine (HM.out _).mono ?_; rintro e w6 ⟨rfl, rfl⟩)
        | fail)
      go_wp2_with (first
        | (go_at_call 10; refine (HNUM.out _ _).mono ?_; rintro e w7 ⟨rfl, hw7⟩; subst hw7)
        | (go_at_call 11; refine (HKN.out _).mono ?_; rintro e w9 ⟨rfl, hb9⟩
           have HB9 : Hid _ := hb9
           clear hb9)
        | fail)
      go_ret
      exact ⟨rfl, trans2 (trans2 HB3.out ((Below.refl _ _).alloc (Nat.le_refl _) _)) HB9.out⟩)
end Go.Proofs.Ytlidkieljiebiaa
