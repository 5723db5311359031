/-
  view: did.
-/
import Derived.Test.YtlbhnlpdijhmlabVStep
namespace Go.Proofs.Ytlbhnlpdijhmlab
open Go.RowKit
set_option linter.unusedVariables false
set_option linter.unusedSimpArgs false

/-- These slots are filled. -/
def putsL (a : Act) : List Nat → List Value → Act
  | n :: ns, v :: vs => putsL (a.put (some n) v) ns vs
  | _, _ => a
/-- It went on, and nothing else. -/
def OnlyOn (R : Act → World → Prop) : Exit → Act → World → Prop
  | .normal, a, w => R a w
  | _, _, _ => False
/-- A piece of code that goes on as it should, whatever a panic would do. -/
theorem wp_cut {P : Program} {c : Code} {Q : Exit → Act → World → Prop} {a : Act} {w : World} (slots : List Nat) (R : List Value → World → Prop)
    (h1 : Code.wp P c (OnlyOn fun a' w' => ∃ vs, R vs w' ∧ a' = putsL a slots vs) a w) (h2 : ∀ vs w', R vs w' → Q .normal (putsL a slots vs) w') : Code.wp P c Q a w := by
  refine Code.wp_mono ?_ h1
  intro ex a' w' h
  cases ex <;> first | exact h.elim | skip
  obtain ⟨vs, hR, rfl⟩ := h
  exact h2 vs w' hR
theorem Chg.trans' {w w1 w2 : World} {S T : Nat → Prop} (h : Chg w w1 S) (k : Chg w1 w2 T) (hT : ∀ j, T j → S j ∨ w.heap.size ≤ j) : Chg w w2 S :=
  ⟨k.os.trans h.os, k.tape.trans h.tape, k.output.trans h.output, Nat.le_trans h.size k.size, fun j hj hn => by
    rw [k.block j (Nat.lt_of_lt_of_le hj h.size) (fun e => (hT j e).elim hn (fun hh => by omega))]
    exact h.block j hj hn⟩
theorem range_keep {w w' : World} {b o : Nat} {cs : List Value} {T : Nat → Prop} (h : w.rangeAt b o cs) (hc : Chg w w' T) (hl : b < w.heap.size) (hT : ¬ T b) : w'.rangeAt b o cs := fun j v hv => by
  rw [World.cell?_of_block (w := w) (hc.block b hl hT)]
  exact h j v hv
theorem there_keep {w w' : World} {b o n : Nat} {T : Nat → Prop} (h : w.there b o n) (hc : Chg w w' T) (hl : b < w.heap.size) (hT : ¬ T b) : w'.there b o n := fun j hj => by
  have e := hc.block b hl hT
  obtain ⟨h1, h2⟩ := h j hj
  exact ⟨by rw [World.cell?_of_block (w := w) e]; exact h1, by simpa [World.frozen?, e] using h2⟩
/-- A service and a box of one's own beside it. -/
structure Bx (At : World → (Nat → Prop) → SvT → Value → Prop) (w0 : World) (K0 : Nat → Prop) (w : World) (K : Nat → Prop) (V : SvT) (p : Value) (g : Nat) (cs : List Value) : Prop where
  at' : At w K V p
  box : w.rangeAt g 0 cs
  th : w.there g 0 24
  lt : g < w.heap.size
  nk : ¬ K g
  chg : Chg w0 w K0
  new : ∀ j, K j → K0 j ∨ w0.heap.size ≤ j
  own : w0.heap.size ≤ g
theorem Bx.call {At : World → (Nat → Prop) → SvT → Value → Prop} {w0 w w' : World} {K0 K : Nat → Prop} {V V' : SvT} {p : Value} {g : Nat} {cs : List Value} (h : Bx At w0 K0 w K V p g cs) (he : SvE At w K V' p w') : ∃ K', Bx At w0 K0 w' K' V' p g cs := by
  obtain ⟨K', h1, h2, h3⟩ := he
  refine ⟨K', h1, range_keep h.box h2 h.lt h.nk, there_keep h.th h2 h.lt h.nk, Nat.lt_of_lt_of_le h.lt h2.size, fun hg => (h3 g hg).elim h.nk (fun hh => by have := h.lt; omega), ?_, fun j hj => (h3 j hj).elim (h.new j) (fun hh => .inr (Nat.le_trans h.chg.size hh)), h.own⟩
  exact h.chg.trans' h2 h.new
theorem Bx.below {At : World → (Nat → Prop) → SvT → Value → Prop} (sv : Serves At) {w0 w w' : World} {K0 K : Nat → Prop} {V : SvT} {p : Value} {g : Nat} {cs : List Value} (h : Bx At w0 K0 w K V p g cs) (hb : Below w.heap.size w w') : Bx At w0 K0 w' K V p g cs :=
  ⟨sv.keep h.at' (Kp.of_below hb _), range_keep h.box (Chg.of_below hb (fun _ => False)) h.lt id, there_keep h.th (Chg.of_below hb (fun _ => False)) h.lt id, Nat.lt_of_lt_of_le h.lt hb.size, h.nk, h.chg.trans (Chg.of_below hb _), h.new, h.own⟩
theorem Bx.store {At : World → (Nat → Prop) → SvT → Value → Prop} (sv : Serves At) {w0 w : World} {K0 K : Nat → Prop} {V : SvT} {p : Value} {g : Nat} {cs ds : List Value} (h : Bx At w0 K0 w K V p g cs) (hd : ds.length = 24) : Bx At w0 K0 (w.setCells g 0 ds) K V p g ds := by
  have hc := chg_setCells g ds 0 w
  refine ⟨sv.keep h.at' (Kp.of_chg hc (fun j _ hj e => h.nk (by have e : j = g := e; rw [← e]; exact hj))), World.rangeAt_setCells_same w g 0 ds (by rw [hd]; exact h.th), World.there_setCells h.th g 0 ds, Nat.lt_of_lt_of_le h.lt hc.size, h.nk, ?_, h.new, h.own⟩
  exact h.chg.trans' hc (fun j e => .inr (by have e : j = g := e; rw [e]; exact h.own))
end Go.Proofs.Ytlbhnlpdijhmlab
