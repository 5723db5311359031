/-
  QueueTwo: two queues at one desk.
-/
import Derived.Test.YtlidkieljiebiaaQOnlyP
namespace Go.Proofs.Ytlidkieljiebiaa
open Go.RowKit
set_option linter.unusedVariables false
set_option linter.unusedSimpArgs false

/-- Another queue is played at the desk. -/
theorem Sit.apart {w w' : World} {S : Nat → Prop} {B C D : Nat} {Q : QuT} {v tv pv sv nv tv' pv' sv' nv' : Value} {L M L' M' : List Value} (h : Sit w S B D Q v tv pv sv nv L M) (hd : DeskAt w' D tv' pv' sv' nv' L' M') (hc : Chg w w' (fun j => j = C ∨ DeskK D tv pv sv nv L M j)) (hC : ¬ S C ∧ B ≠ C) (hn : ∀ j, DeskK D tv' pv' sv' nv' L' M' j → DeskK D tv pv sv nv L M j ∨ w.heap.size ≤ j) : Sit w' (fun j => S j ∧ ¬ DeskK D tv' pv' sv' nv' L' M' j) B D Q v tv' pv' sv' nv' L' M' := by
  have hs : ∀ j, j < w.heap.size → S j → S j ∧ ¬ DeskK D tv' pv' sv' nv' L' M' j := fun j hj hS => ⟨hS, fun hk => (hn j hk).elim (fun hh => (h.out j hh).1 hS) (fun hh => by omega)⟩
  have hSC : ∀ j, S j → ¬ (j = C ∨ DeskK D tv pv sv nv L M j) := fun j hS e => e.elim (fun e => hC.1 (by rw [← e]; exact hS)) (fun e => (h.out j e).1 hS)
  have hBC : ¬ (B = C ∨ DeskK D tv pv sv nv L M B) := fun e => e.elim hC.2 (fun e => (h.out B e).2 rfl)
  exact ⟨(h.q.mono hs (fun hB => h.q.out hB.1)).keep (Kp.of_chg hc (fun j _ hS e => hS.elim (fun hS => hSC j hS.1 e) (fun hS => hBC (by rw [← hS]; exact e)))), ItsAt.keep (its_mono h.ref hs) (Kp.of_chg hc (fun j _ hS e => hSC j hS.1 e)), hd, fun j hj => ⟨h.hi j (Nat.le_trans hc.size hj), fun hk => by have := hd.lt j hk; omega⟩, fun j hj => ⟨fun hh => hh.2 hj, (hn j hj).elim (fun hh => (h.out j hh).2) (fun hh e => by have := h.q.lt; omega)⟩, h.snd⟩
/-- Between two steps. -/
structure DuI (w0 w : World) (b1 b2 B1 B2 D r1 r2 last1 last2 : Nat) (S1 S2 : Nat → Prop) (v1 v2 tv pv sv nv : Value) (L M : List Value) (f1 f2 : Nat) (l1 l2 : List ItT) : Prop where
  s1 : Sit w S1 B1 D ⟨r1, f1, last1, l1⟩ v1 tv pv sv nv L M
  s2 : Sit w S2 B2 D ⟨r2, f2, last2, l2⟩ v2 tv pv sv nv L M
  x1 : w.heap[b1]? = some (.cells #[.int .i64 r1, .int .i64 last1, v1] 67 (0, 0))
  x2 : w.heap[b2]? = some (.cells #[.int .i64 r2, .int .i64 last2, v2] 67 (0, 0))
  n1 : ¬ S1 b1 ∧ ¬ S2 b1 ∧ b1 ≠ B1 ∧ b1 ≠ B2 ∧ ¬ DeskK D tv pv sv nv L M b1
  n2 : ¬ S2 b2 ∧ ¬ S1 b2 ∧ b2 ≠ B2 ∧ b2 ≠ B1 ∧ ¬ DeskK D tv pv sv nv L M b2
  ne : b1 ≠ b2 ∧ B1 ≠ B2 ∧ ¬ S1 B2 ∧ ¬ S2 B1
  below : Below w0.heap.size w0 w
  low : w0.heap.size ≤ b1 ∧ w0.heap.size ≤ b2 ∧ w0.heap.size ≤ B1 ∧ w0.heap.size ≤ B2
  lowK : ∀ j, DeskK D tv pv sv nv L M j → w0.heap.size ≤ j
theorem DuI.swap {w0 w : World} {b1 b2 B1 B2 D r1 r2 last1 last2 : Nat} {S1 S2 : Nat → Prop} {v1 v2 tv pv sv nv : Value} {L M : List Value} {f1 f2 : Nat} {l1 l2 : List ItT} (h : DuI w0 w b1 b2 B1 B2 D r1 r2 last1 last2 S1 S2 v1 v2 tv pv sv nv L M f1 f2 l1 l2) : DuI w0 w b2 b1 B2 B1 D r2 r1 last2 last1 S2 S1 v2 v1 tv pv sv nv L M f2 f1 l2 l1 :=
  ⟨h.s2, h.s1, h.x2, h.x1, h.n2, h.n1, ⟨h.ne.1.symm, h.ne.2.1.symm, h.ne.2.2.2, h.ne.2.2.1⟩, h.below, ⟨h.low.2.1, h.low.1, h.low.2.2.2, h.low.2.2.1⟩, h.lowK⟩
theorem DuI.step {w0 w w1 : World} {b1 b2 B1 B2 D r1 r2 last1 last2 : Nat} {S1 S2 : Nat → Prop} {v1 v2 tv pv sv nv : Value} {L M : List Value} {f1 f2 : Nat} {l1 l2 : List ItT} (h : DuI w0 w b1 b2 B1 B2 D r1 r2 last1 last2 S1 S2 v1 v2 tv pv sv nv L M f1 f2 l1 l2)
    {S' : Nat → Prop} {f' last' : Nat} {l' : List ItT} {v' tv' pv' sv' nv' : Value} {L' M' : List Value} (hs : Sit w1 S' B1 D ⟨r1, f', last', l'⟩ v' tv' pv' sv' nv' L' M') (hS : ∀ j, S' j → S1 j) (hc : Chg w w1 (fun j => j = B1 ∨ DeskK D tv pv sv nv L M j)) (hk : ∀ j, DeskK D tv' pv' sv' nv' L' M' j → DeskK D tv pv sv nv L M j ∨ w.heap.size ≤ j) :
    DuI w0 (put_3 w1 b1 (.int .i64 r1) (.int .i64 last') v') b1 b2 B1 B2 D r1 r2 last' last2 S' (fun j => S2 j ∧ ¬ DeskK D tv' pv' sv' nv' L' M' j) v' v2 tv' pv' sv' nv' L' M' f' f2 l' l2 := by
  have hcp := chg_put3 w1 b1 (.int .i64 r1) (.int .i64 last') v'
  have hlt := lt_of_blk h.x1
  have hlt2 := lt_of_blk h.x2
  have hk1 : ¬ DeskK D tv' pv' sv' nv' L' M' b1 := fun hh => (hk b1 hh).elim h.n1.2.2.2.2 (fun hh => by omega)
  have hk2 : ¬ DeskK D tv' pv' sv' nv' L' M' b2 := fun hh => (hk b2 hh).elim h.n2.2.2.2.2 (fun hh => by omega)
  have hx1 : w1.heap[b1]? = _ := (hc.block b1 hlt (fun e => e.elim h.n1.2.2.1 h.n1.2.2.2.2)).trans h.x1
  have hx2 : w1.heap[b2]? = _ := (hc.block b2 hlt2 (fun e => e.elim h.n2.2.2.2.1 h.n2.2.2.2.2)).trans h.x2
  have hx3 : (put_3 w1 b1 (.int .i64 r1) (.int .i64 last') v').heap[b2]? = _ := (hcp.block b2 (lt_of_blk hx2) (fun e => h.ne.1 e.symm)).trans hx2
  have hap := h.s2.apart hs.desk hc ⟨h.ne.2.2.2, fun e => h.ne.2.1 e.symm⟩ hk
  refine ⟨hs.other hcp (fun j _ e => ?_), hap.other hcp (fun j _ e => ?_), fill_3 hx1, hx3, ⟨fun hh => h.n1.1 (hS b1 hh), fun hh => h.n1.2.1 hh.1, h.n1.2.2.1, h.n1.2.2.2.1, hk1⟩, ⟨fun hh => h.n2.1 hh.1, fun hh => h.n2.2.1 (hS b2 hh), h.n2.2.2.1, h.n2.2.2.2.1, hk2⟩, ⟨h.ne.1, h.ne.2.1, fun hh => h.ne.2.2.1 (hS B2 hh), fun hh => h.ne.2.2.2 hh.1⟩, below_chgs (below_chgs h.below hc (fun j e => e.elim (fun e => by rw [e]; exact h.low.2.2.1) (h.lowK j))) hcp (fun j e => by have e : j = b1 := e; rw [e]; exact h.low.1), h.low, fun j hj => (hk j hj).elim (h.lowK j) (fun hh => Nat.le_trans h.below.size hh)⟩
  · have e : j = b1 := e
    rw [e]
    exact ⟨fun hh => h.n1.1 (hS b1 hh), h.n1.2.2.1, hk1⟩
  · have e : j = b1 := e
    rw [e]
    exact ⟨fun hh => h.n1.2.1 hh.1, h.n1.2.2.2.1, hk1⟩
end Go.Proofs.Ytlidkieljiebiaa
