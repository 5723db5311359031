/-
  shot: change, changesOf.
-/
import Derived.Test.YtaieijbdknfcjaaGreatDoorDBase
import Derived.Test.YtaieijbdknfcjaaGreatDoorCMay
namespace Go.Proofs.YtaieijbdknfcjaaGreatDoor
open Go.RowKit
set_option linter.unusedVariables false
set_option linter.unusedSimpArgs false

abbrev chA (c : ChT) : Array Value := #[.int .i64 c.k, .string c.p, .string c.d, .int .i64 c.v]
theorem hs_one {w : World} {g : Nat} {c : ChT} (h : w.heap[g]? = some (.cells (chA c) 39 (0, 0))) : Hs w (some ⟨g, 0, none⟩) [c] := by
  refine .inr ⟨g, 0, rfl, lt_of_blk h, fun i s hi j x hx => ?_⟩
  cases i with
  | zero =>
    simp only [List.getElem?_cons_zero, Option.some.injEq] at hi
    subst hi
    unfold World.cell?
    simp only [h, Nat.zero_mul, Nat.zero_add]
    rw [← hx]
    simp [ChT.cells, chA]
  | succ i => simp at hi
theorem sclone_any (s : ByteArray) (hs : s.size ≤ 281474976710656) (w : World) :
    Calls Tryz.prog 19 #[.string s] w fun e w' => e = .returned (.string s) ∧ Below w.heap.size w w' := by
  go_enter Tryz.func19, Tryz.ntmps19
  go_wp2_with (first | (go_at_call 29; refine (Tryz.stringslite_Clone s _ hs).mono ?_; rintro e w1 ⟨rfl, hb⟩) | fail)
  go_ret
  exact ⟨rfl, hb⟩
/-- Both lists of a parting. -/
structure PS (w0 wr : World) (vg vt : Value) (G T : List ChT) : Prop where
  g : wr.ownsRow w0.heap.size 39 4 vg G.length (chCs G)
  t : wr.ownsRow w0.heap.size 39 4 vt T.length (chCs T)
  ne : ∀ k, vg.ownBlock = some k → vt.ownBlock = some k → False
  low : Below w0.heap.size w0 wr
theorem PS.below {w0 wr w' : World} {vg vt : Value} {G T : List ChT} (h : PS w0 wr vg vt G T) (hb : Below wr.heap.size wr w') : PS w0 w' vg vt G T := ⟨owns_below h.g hb, owns_below h.t hb, h.ne, trans2 h.low hb⟩
theorem PS.gone {w0 wr w' : World} {vg vg' vt : Value} {G G' T : List ChT} (h : PS w0 wr vg vt G T) (ho : w'.ownsRow w0.heap.size 39 4 vg' G'.length (chCs G')) (hg : wr.grownBy w' vg.ownBlock) (hat : vg'.ownBlock = vg.ownBlock ∨ vg'.ownBlock = some wr.heap.size) : PS w0 w' vg' vt G' T := by
  refine ⟨ho, owns_same h.t (fun k hk => hg.block k (h.t.lt k hk).2 (fun e => h.ne k e.symm hk)), fun k hk hk' => ?_, h.low.trans ((Below.refl _ _).grown hg h.low.size (fun j hj => (h.g.lt j hj).1))⟩
  rcases hat with e | e
  · exact h.ne k (by rw [← e]; exact hk) hk'
  · have := (h.t.lt k hk').2
    rw [e] at hk
    cases hk
    omega
theorem PS.turned {w0 wr w' : World} {vg vt' vt : Value} {G T' T : List ChT} (h : PS w0 wr vg vt G T) (ho : w'.ownsRow w0.heap.size 39 4 vt' T'.length (chCs T')) (hg : wr.grownBy w' vt.ownBlock) (hat : vt'.ownBlock = vt.ownBlock ∨ vt'.ownBlock = some wr.heap.size) : PS w0 w' vg vt' G T' := by
  refine ⟨owns_same h.g (fun k hk => hg.block k (h.g.lt k hk).2 (fun e => h.ne k hk e.symm)), ho, fun k hk' hk => ?_, h.low.trans ((Below.refl _ _).grown hg h.low.size (fun j hj => (h.t.lt j hj).1))⟩
  rcases hat with e | e
  · exact h.ne k hk' (by rw [← e]; exact hk)
  · have := (h.g.lt k hk').2
    rw [e] at hk
    cases hk
    omega
theorem chCs_snoc (l : List ChT) (c : ChT) : chCs (l ++ [c]) = chCs l ++ c.cells := by simp [chCs]
end Go.Proofs.YtaieijbdknfcjaaGreatDoor
