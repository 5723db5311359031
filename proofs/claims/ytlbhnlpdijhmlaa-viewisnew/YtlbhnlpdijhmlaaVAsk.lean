/-
  own.go: ViewIsNew: the book, the copies and the row of views while they are asked for.
-/
import Derived.Test.YtlbhnlpdijhmlaaVBook
import Derived.Test.YtlbhnlpdijhmlaaVNote
namespace Go.Proofs.Ytlbhnlpdijhmlaa
open Go.RowKit
set_option linter.unusedVariables false
set_option linter.unusedSimpArgs false

def elV (x : VwT) : El 3 := ⟨vwCs x, rfl, by simp [Value.oneCell']⟩
def elN (x : VwT) : El 21 := ⟨tellCs x, rfl, by simp [Value.oneCell']⟩
theorem fl_elV (l : List VwT) : fl (l.map elV) = l.flatMap vwCs := by simp [fl, List.flatMap_map, elV]
def BkB (B : Nat) (hv hn : Value) (us ms : List Value) (j : Nat) : Prop := j = B ∨ hv.ownBlock = some j ∨ hn.ownBlock = some j ∨ FamB us j ∨ FamB ms j
def CpB (vv pv : Value) (xs : List Value) (j : Nat) : Prop := vv.ownBlock = some j ∨ pv.ownBlock = some j ∨ FamB xs j
theorem Bo.keep {w w' : World} {B : Nat} {hv hn m1 m2 : Value} {us ms : List Value} {ls : List (List (El 3))} {ns : List (List (El 21))} (h : Bo w B hv hn m1 m2 us ms ls ns) (hk : Kp w w' (BkB B hv hn us ms)) : Bo w' B hv hn m1 m2 us ms ls ns :=
  ⟨by rw [hk.block B (lt_of_blk h.box) (.inl rfl)]; exact h.box, owns_same h.hr (fun b hb => hk.block b (row_block h.hr b hb).2 (.inr (.inl hb))), owns_same h.nr (fun b hb => hk.block b (row_block h.nr b hb).2 (.inr (.inr (.inl hb)))), h.fu.keep (hk.mono (fun b _ hb => .inr (.inr (.inr (.inl hb))))), h.fm.keep (hk.mono (fun b _ hb => .inr (.inr (.inr (.inr hb)))))⟩
theorem Bo.lt {w : World} {B : Nat} {hv hn m1 m2 : Value} {us ms : List Value} {ls : List (List (El 3))} {ns : List (List (El 21))} (h : Bo w B hv hn m1 m2 us ms ls ns) : ∀ j, BkB B hv hn us ms j → j < w.heap.size := by
  rintro j (rfl | hj | hj | hj | hj)
  · exact lt_of_blk h.box
  · exact (row_block h.hr j hj).2
  · exact (row_block h.nr j hj).2
  · exact h.fu.lt hj
  · exact h.fm.lt hj
/-- The copies and the row of views. -/
structure Cp (w : World) (vv pv : Value) (xs : List Value) (cl : List (List (El 3))) (ps : List (El 3)) : Prop where
  cv : w.ownsRow 0 31 1 vv xs.length xs
  cf : Fam w 28 3 xs cl
  pr : w.ownsRow 0 28 3 pv ps.length (fl ps)
  pc : ∀ j, pv.ownBlock = some j → ¬ FamB xs j
theorem Cp.keep {w w' : World} {vv pv : Value} {xs : List Value} {cl : List (List (El 3))} {ps : List (El 3)} (h : Cp w vv pv xs cl ps) (hk : Kp w w' (CpB vv pv xs)) : Cp w' vv pv xs cl ps :=
  ⟨owns_same h.cv (fun b hb => hk.block b (row_block h.cv b hb).2 (.inl hb)), h.cf.keep (hk.mono (fun b _ hb => .inr (.inr hb))), owns_same h.pr (fun b hb => hk.block b (row_block h.pr b hb).2 (.inr (.inl hb))), h.pc⟩
theorem Cp.lt {w : World} {vv pv : Value} {xs : List Value} {cl : List (List (El 3))} {ps : List (El 3)} (h : Cp w vv pv xs cl ps) : ∀ j, CpB vv pv xs j → j < w.heap.size := by
  rintro j (hj | hj | hj)
  · exact (row_block h.cv j hj).2
  · exact (row_block h.pr j hj).2
  · exact h.cf.lt hj
/-- All of it, beside a service whose blocks are K. -/
structure Ak (w : World) (B : Nat) (hv hn : Value) (us ms : List Value) (ls : List (List (El 3))) (ns : List (List (El 21))) (vv pv : Value) (xs : List Value) (cl : List (List (El 3))) (ps : List (El 3)) (K : Nat → Prop) (W : Nat) : Prop where
  bo : Bo w B hv hn (.slice none 0 0) (.slice none 0 0) us ms ls ns
  cp : Cp w vv pv xs cl ps
  bc : ∀ j, BkB B hv hn us ms j → ¬ CpB vv pv xs j
  bk : ∀ j, BkB B hv hn us ms j → ¬ K j
  ck : ∀ j, CpB vv pv xs j → ¬ K j
  nb : ∀ j, BkB B hv hn us ms j → W ≤ j
  nc : ∀ j, CpB vv pv xs j → W ≤ j
theorem Ak.base {w : World} {B : Nat} {hv hn : Value} {us ms : List Value} {ls : List (List (El 3))} {ns : List (List (El 21))} {vv pv : Value} {xs : List Value} {cl : List (List (El 3))} {ps : List (El 3)} {K : Nat → Prop} {W : Nat} (h : Ak w B hv hn us ms ls ns vv pv xs cl ps K W) : W ≤ w.heap.size := Nat.le_trans (h.nb B (.inl rfl)) (Nat.le_of_lt (h.bo.lt B (.inl rfl)))
theorem Ak.called {w w' : World} {B : Nat} {hv hn : Value} {us ms : List Value} {ls : List (List (El 3))} {ns : List (List (El 21))} {vv pv : Value} {xs : List Value} {cl : List (List (El 3))} {ps : List (El 3)} {K K' : Nat → Prop} {W : Nat} (h : Ak w B hv hn us ms ls ns vv pv xs cl ps K W) (hc : Chg w w' K) (hk : ∀ j, K' j → K j ∨ w.heap.size ≤ j) : Ak w' B hv hn us ms ls ns vv pv xs cl ps K' W :=
  ⟨h.bo.keep (Kp.of_chg hc (fun b _ hb => h.bk b hb)), h.cp.keep (Kp.of_chg hc (fun b _ hb => h.ck b hb)), h.bc, fun j hj hK => (hk j hK).elim (h.bk j hj) (fun hh => by have := h.bo.lt j hj; omega), fun j hj hK => (hk j hK).elim (h.ck j hj) (fun hh => by have := h.cp.lt j hj; omega), h.nb, h.nc⟩
theorem FamB.snoc {us : List Value} {u : Value} {j : Nat} (h : FamB (us ++ [u]) j) : FamB us j ∨ u.ownBlock = some j := by
  obtain ⟨k, v, hv, hb⟩ := h
  rw [List.getElem?_append] at hv
  split at hv
  · exact .inl ⟨k, v, hv, hb⟩
  · rename_i hlt
    by_cases hz : k - us.length = 0
    · rw [hz] at hv
      have : u = v := by simpa using hv
      exact .inr (by rw [this]; exact hb)
    · rw [List.getElem?_eq_none (by simp; omega)] at hv; cases hv
theorem Ak.pushV {w w2 w3 : World} {B g3 c3 : Nat} {hv hn u : Value} {us ms : List Value} {ls : List (List (El 3))} {ns : List (List (El 21))} {vv pv : Value} {xs : List Value} {cl : List (List (El 3))} {ps l : List (El 3)} {K : Nat → Prop} {W : Nat} (h : Ak w B hv hn us ms ls ns vv pv xs cl ps K W) (hr : w.ownsRow 0 28 3 u l.length (fl l)) (hne : ∀ b, u.ownBlock = some b → ¬ FamB us b ∧ ¬ CpB vv pv xs b ∧ ¬ K b ∧ W ≤ b) (hb : Below w.heap.size w w2)
    (hKl : ∀ j, K j → j < w.heap.size) (h3 : w3.ownsRow 0 31 1 (.slice (some ⟨g3, 0, none⟩) (us.length + 1) c3) (us.length + 1) (us ++ [u])) (hal : (hv = .slice (some ⟨g3, 0, none⟩) us.length c3 ∧ w2.grownBy w3 (some g3)) ∨ (w2.heap.size ≤ g3 ∧ w2.grownBy w3 none)) :
    Ak (w3.setCell ⟨B, 0, none⟩ (.slice (some ⟨g3, 0, none⟩) (us.length + 1) c3)) B (.slice (some ⟨g3, 0, none⟩) (us.length + 1) c3) hn (us ++ [u]) ms (ls ++ [l]) ns vv pv xs cl ps K W ∧ Chg w (w3.setCell ⟨B, 0, none⟩ (.slice (some ⟨g3, 0, none⟩) (us.length + 1) c3)) (BkB B hv hn us ms) := by
  obtain ⟨h1, h2⟩ := h.bo.pushV hr (fun b hb => (hne b hb).1) hb h3 hal
  have hs := hb.size
  have hhd : ∀ j, (Value.slice (some ⟨g3, 0, none⟩) (us.length + 1) c3).ownBlock = some j → hv.ownBlock = some j ∨ w.heap.size ≤ j := fun j hj => by
    cases hj
    rcases hal with ⟨e, _⟩ | ⟨hg, _⟩
    · exact .inl (by rw [e]; rfl)
    · exact .inr (Nat.le_trans hs hg)
  have hbk : ∀ j, BkB B (.slice (some ⟨g3, 0, none⟩) (us.length + 1) c3) hn (us ++ [u]) ms j → BkB B hv hn us ms j ∨ u.ownBlock = some j ∨ w.heap.size ≤ j := by
    rintro j (hj | hj | hj | hj | hj)
    · exact .inl (.inl hj)
    · exact (hhd j hj).elim (fun e => .inl (.inr (.inl e))) (fun e => .inr (.inr e))
    · exact .inl (.inr (.inr (.inl hj)))
    · exact hj.snoc.elim (fun e => .inl (.inr (.inr (.inr (.inl e))))) (fun e => .inr (.inl e))
    · exact .inl (.inr (.inr (.inr (.inr hj))))
  refine ⟨⟨h1, h.cp.keep (Kp.of_chg h2 (fun b _ hb e => ?_)), fun j hj hc => ?_, fun j hj hc => ?_, h.ck, fun j hj => ?_, h.nc⟩, h2.mono (fun b _ e => ?_)⟩
  · exact h.bc b (e.elim .inl (fun e => .inr (.inl e))) hb
  · rcases hbk j hj with e | e | e
    · exact h.bc j e hc
    · exact (hne j e).2.1 hc
    · have := h.cp.lt j hc; omega
  · rcases hbk j hj with e | e | e
    · exact h.bk j e hc
    · exact (hne j e).2.2.1 hc
    · have := hKl j hc; omega
  · rcases hbk j hj with e | e | e
    · exact h.nb j e
    · exact (hne j e).2.2.2
    · exact Nat.le_trans h.base e
  · exact e.elim .inl (fun e => .inr (.inl e))
theorem Ak.pushN {w w2 w3 : World} {B g3 c3 : Nat} {hv hn u : Value} {us ms : List Value} {ls : List (List (El 3))} {ns : List (List (El 21))} {vv pv : Value} {xs : List Value} {cl : List (List (El 3))} {ps : List (El 3)} {l : List (El 21)} {K : Nat → Prop} {W : Nat} (h : Ak w B hv hn us ms ls ns vv pv xs cl ps K W) (hr : w.ownsRow 0 47 21 u l.length (fl l)) (hne : ∀ b, u.ownBlock = some b → ¬ FamB ms b ∧ ¬ CpB vv pv xs b ∧ ¬ K b ∧ W ≤ b) (hb : Below w.heap.size w w2)
    (hKl : ∀ j, K j → j < w.heap.size) (h3 : w3.ownsRow 0 52 1 (.slice (some ⟨g3, 0, none⟩) (ms.length + 1) c3) (ms.length + 1) (ms ++ [u])) (hal : (hn = .slice (some ⟨g3, 0, none⟩) ms.length c3 ∧ w2.grownBy w3 (some g3)) ∨ (w2.heap.size ≤ g3 ∧ w2.grownBy w3 none)) :
    Ak (w3.setCell ⟨B, 2, none⟩ (.slice (some ⟨g3, 0, none⟩) (ms.length + 1) c3)) B hv (.slice (some ⟨g3, 0, none⟩) (ms.length + 1) c3) us (ms ++ [u]) ls (ns ++ [l]) vv pv xs cl ps K W ∧ Chg w (w3.setCell ⟨B, 2, none⟩ (.slice (some ⟨g3, 0, none⟩) (ms.length + 1) c3)) (BkB B hv hn us ms) := by
  obtain ⟨h1, h2⟩ := h.bo.pushN hr (fun b hb => (hne b hb).1) hb h3 hal
  have hs := hb.size
  have hhd : ∀ j, (Value.slice (some ⟨g3, 0, none⟩) (ms.length + 1) c3).ownBlock = some j → hn.ownBlock = some j ∨ w.heap.size ≤ j := fun j hj => by
    cases hj
    rcases hal with ⟨e, _⟩ | ⟨hg, _⟩
    · exact .inl (by rw [e]; rfl)
    · exact .inr (Nat.le_trans hs hg)
  have hbk : ∀ j, BkB B hv (.slice (some ⟨g3, 0, none⟩) (ms.length + 1) c3) us (ms ++ [u]) j → BkB B hv hn us ms j ∨ u.ownBlock = some j ∨ w.heap.size ≤ j := by
    rintro j (hj | hj | hj | hj | hj)
    · exact .inl (.inl hj)
    · exact .inl (.inr (.inl hj))
    · exact (hhd j hj).elim (fun e => .inl (.inr (.inr (.inl e)))) (fun e => .inr (.inr e))
    · exact .inl (.inr (.inr (.inr (.inl hj))))
    · exact hj.snoc.elim (fun e => .inl (.inr (.inr (.inr (.inr e))))) (fun e => .inr (.inl e))
  refine ⟨⟨h1, h.cp.keep (Kp.of_chg h2 (fun b _ hb e => ?_)), fun j hj hc => ?_, fun j hj hc => ?_, h.ck, fun j hj => ?_, h.nc⟩, h2.mono (fun b _ e => ?_)⟩
  · exact h.bc b (e.elim .inl (fun e => .inr (.inr (.inl e)))) hb
  · rcases hbk j hj with e | e | e
    · exact h.bc j e hc
    · exact (hne j e).2.1 hc
    · have := h.cp.lt j hc; omega
  · rcases hbk j hj with e | e | e
    · exact h.bk j e hc
    · exact (hne j e).2.2.1 hc
    · have := hKl j hc; omega
  · rcases hbk j hj with e | e | e
    · exact h.nb j e
    · exact (hne j e).2.2.2
    · exact Nat.le_trans h.base e
  · exact e.elim .inl (fun e => .inr (.inr (.inl e)))
/-- One more copy. -/
theorem Ak.copied {w w2 w3 : World} {B g3 c3 : Nat} {hv hn u : Value} {us ms : List Value} {ls : List (List (El 3))} {ns : List (List (El 21))} {vv pv : Value} {xs : List Value} {cl : List (List (El 3))} {ps l : List (El 3)} {K : Nat → Prop} {W : Nat} (h : Ak w B hv hn us ms ls ns vv pv xs cl ps K W) (hr : w.ownsRow 0 28 3 u l.length (fl l)) (hne : ∀ b, u.ownBlock = some b → ¬ BkB B hv hn us ms b ∧ ¬ CpB vv pv xs b ∧ ¬ K b ∧ W ≤ b) (hb : Below w.heap.size w w2)
    (hKl : ∀ j, K j → j < w.heap.size) (h3 : w3.ownsRow 0 31 1 (.slice (some ⟨g3, 0, none⟩) (xs.length + 1) c3) (xs.length + 1) (xs ++ [u])) (hal : (vv = .slice (some ⟨g3, 0, none⟩) xs.length c3 ∧ w2.grownBy w3 (some g3)) ∨ (w2.heap.size ≤ g3 ∧ w2.grownBy w3 none)) :
    Ak w3 B hv hn us ms ls ns (.slice (some ⟨g3, 0, none⟩) (xs.length + 1) c3) pv (xs ++ [u]) (cl ++ [l]) ps K W ∧ Chg w w3 (CpB vv pv xs) := by
  have hs := hb.size
  obtain ⟨row, hg, hrow⟩ : ∃ row, w2.grownBy w3 row ∧ ∀ b, row = some b → vv.ownBlock = some b := by
    rcases hal with ⟨e, hg3⟩ | ⟨_, hg3⟩
    · exact ⟨_, hg3, fun b hb => by cases hb; rw [e]; rfl⟩
    · exact ⟨_, hg3, fun b hb => by cases hb⟩
  have hc : Chg w w3 (fun b => vv.ownBlock = some b) := chg_more (Chg.of_below hb _) (Chg.grown hg) (fun j hj => .inl (hrow j hj))
  have hhd : ∀ j, (Value.slice (some ⟨g3, 0, none⟩) (xs.length + 1) c3).ownBlock = some j → vv.ownBlock = some j ∨ w.heap.size ≤ j := fun j hj => by
    cases hj
    rcases hal with ⟨e, _⟩ | ⟨hg, _⟩
    · exact .inl (by rw [e]; rfl)
    · exact .inr (Nat.le_trans hs hg)
  have hck : ∀ j, CpB (.slice (some ⟨g3, 0, none⟩) (xs.length + 1) c3) pv (xs ++ [u]) j → CpB vv pv xs j ∨ u.ownBlock = some j ∨ w.heap.size ≤ j := by
    rintro j (hj | hj | hj)
    · exact (hhd j hj).elim (fun e => .inl (.inl e)) (fun e => .inr (.inr e))
    · exact .inl (.inr (.inl hj))
    · exact hj.snoc.elim (fun e => .inl (.inr (.inr e))) (fun e => .inr (.inl e))
  have keep : ∀ {sz n : Nat} {v : Value} {xs' : List Value}, w.ownsRow 0 28 sz v n xs' → w3.ownsRow 0 28 sz v n xs' := fun {sz n v xs'} hv => owns_same hv (fun b hb => hc.block b (row_block hv b hb).2 (fun e => kind_ne hv h.cp.cv hb e (by decide)))
  have hlen : (xs ++ [u]).length = xs.length + 1 := by simp
  have hf : Fam w3 28 3 xs cl := ⟨h.cp.cf.len, fun k v m hv' hm => keep (h.cp.cf.row k v m hv' hm), h.cp.cf.nd⟩
  refine ⟨⟨h.bo.keep (Kp.of_chg hc (fun b _ hb e => h.bc b hb (.inl e))), ⟨by rw [hlen]; exact h3, hf.push (keep hr) (fun b hb e => (hne b hb).2.1 (.inr (.inr e))), keep h.cp.pr, fun j hj e => ?_⟩, fun j hj hcp => ?_, h.bk, fun j hj hK => ?_, h.nb, fun j hj => ?_⟩, hc.mono (fun b _ e => .inl e)⟩
  · rcases e.snoc with e | e
    · exact h.cp.pc j hj e
    · exact (hne j e).2.1 (.inr (.inl hj))
  · rcases hck j hcp with e | e | e
    · exact h.bc j hj e
    · exact (hne j e).1 hj
    · have := h.bo.lt j hj; omega
  · rcases hck j hj with e | e | e
    · exact h.ck j e hK
    · exact (hne j e).2.2.1 hK
    · have := hKl j hK; omega
  · rcases hck j hj with e | e | e
    · exact h.nc j e
    · exact (hne j e).2.2.2
    · exact Nat.le_trans h.base e
/-- One more view in the row. -/
theorem Ak.kept {w w2 w3 : World} {B g3 c3 : Nat} {hv hn : Value} {us ms : List Value} {ls : List (List (El 3))} {ns : List (List (El 21))} {vv pv : Value} {xs : List Value} {cl : List (List (El 3))} {ps : List (El 3)} {x : El 3} {K : Nat → Prop} {W : Nat} (h : Ak w B hv hn us ms ls ns vv pv xs cl ps K W) (hb : Below w.heap.size w w2)
    (hKl : ∀ j, K j → j < w.heap.size) (h3 : w3.ownsRow 0 28 3 (.slice (some ⟨g3, 0, none⟩) (ps.length + 1) c3) (ps.length + 1) (fl ps ++ x.1)) (hal : (pv = .slice (some ⟨g3, 0, none⟩) ps.length c3 ∧ w2.grownBy w3 (some g3)) ∨ (w2.heap.size ≤ g3 ∧ w2.grownBy w3 none)) :
    Ak w3 B hv hn us ms ls ns vv (.slice (some ⟨g3, 0, none⟩) (ps.length + 1) c3) xs cl (ps ++ [x]) K W ∧ Chg w w3 (CpB vv pv xs) := by
  have hs := hb.size
  obtain ⟨row, hg, hrow⟩ : ∃ row, w2.grownBy w3 row ∧ ∀ b, row = some b → pv.ownBlock = some b := by
    rcases hal with ⟨e, hg3⟩ | ⟨_, hg3⟩
    · exact ⟨_, hg3, fun b hb => by cases hb; rw [e]; rfl⟩
    · exact ⟨_, hg3, fun b hb => by cases hb⟩
  have hc : Chg w w3 (fun b => pv.ownBlock = some b) := chg_more (Chg.of_below hb _) (Chg.grown hg) (fun j hj => .inl (hrow j hj))
  have hhd : ∀ j, (Value.slice (some ⟨g3, 0, none⟩) (ps.length + 1) c3).ownBlock = some j → pv.ownBlock = some j ∨ w.heap.size ≤ j := fun j hj => by
    cases hj
    rcases hal with ⟨e, _⟩ | ⟨hg, _⟩
    · exact .inl (by rw [e]; rfl)
    · exact .inr (Nat.le_trans hs hg)
  have hck : ∀ j, CpB vv (.slice (some ⟨g3, 0, none⟩) (ps.length + 1) c3) xs j → CpB vv pv xs j ∨ w.heap.size ≤ j := by
    rintro j (hj | hj | hj)
    · exact .inl (.inl hj)
    · exact (hhd j hj).elim (fun e => .inl (.inr (.inl e))) .inr
    · exact .inl (.inr (.inr hj))
  have hlen : (ps ++ [x]).length = ps.length + 1 := by simp
  have hfl : fl (ps ++ [x]) = fl ps ++ x.1 := by simp [fl]
  refine ⟨⟨h.bo.keep (Kp.of_chg hc (fun b _ hb e => h.bc b hb (.inr (.inl e)))), ⟨owns_same h.cp.cv (fun b hb => hc.block b (row_block h.cp.cv b hb).2 (fun e => kind_ne h.cp.cv h.cp.pr hb e (by decide))), h.cp.cf.keep (Kp.of_chg hc (fun b _ hb e => h.cp.pc b e hb)), by rw [hlen, hfl]; exact h3, fun j hj e => ?_⟩, fun j hj hcp => ?_, h.bk, fun j hj hK => ?_, h.nb, fun j hj => ?_⟩, hc.mono (fun b _ e => .inr (.inl e))⟩
  · rcases hhd j hj with e' | e'
    · exact h.cp.pc j e' e
    · have := h.cp.cf.lt e; omega
  · rcases hck j hcp with e | e
    · exact h.bc j hj e
    · have := h.bo.lt j hj; omega
  · rcases hck j hj with e | e
    · exact h.ck j e hK
    · have := hKl j hK; omega
  · rcases hck j hj with e | e
    · exact h.nc j e
    · exact Nat.le_trans h.base e
end Go.Proofs.Ytlbhnlpdijhmlaa
