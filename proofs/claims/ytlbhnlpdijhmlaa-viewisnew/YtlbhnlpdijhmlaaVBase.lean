/-
  view: what lies in memory; what the document says.
-/
import Derived.Test.YtlbhnlpdijhmlaaQBase
namespace Go.Proofs.Ytlbhnlpdijhmlaa
open Go.RowKit
set_option linter.unusedVariables false
set_option linter.unusedSimpArgs false

/-- A view. -/
structure VwT where
  n : Int
  p : Int
  b : Int
structure vwE (w : World) (b o : Nat) (t : VwT) : Prop where
  n : w.cell? ⟨b, o, none⟩ = some (.int .i64 t.n)
  p : w.cell? ⟨b, o + 1, none⟩ = some (.int .i64 t.p)
  b : w.cell? ⟨b, o + 2, none⟩ = some (.int .i64 t.b)
abbrev VwsAt (w : World) (S : Nat → Prop) (v : Value) (l : List VwT) : Prop := RowAt w S 3 (fun b o t => vwE w b o t) v l
theorem VwsAt.keep {w w' : World} {S : Nat → Prop} {v : Value} {l : List VwT} (h : VwsAt w S v l) (hk : Kp w w' S) : VwsAt w' S v l :=
  RowAt.map h hk.size (fun _ _ hS => hS) (fun b o t hb hS e => ⟨hk.cell hb hS e.n, hk.cell hb hS e.p, hk.cell hb hS e.b⟩)
theorem VwsAt.mono {w : World} {S T : Nat → Prop} {v : Value} {l : List VwT} (h : VwsAt w S v l) (hs : ∀ b, b < w.heap.size → S b → T b) : VwsAt w T v l :=
  RowAt.map h (Nat.le_refl _) hs (fun b o t hb hS e => e)
abbrev vwV (t : VwT) : Value := .agg #[.int .i64 t.n, .int .i64 t.p, .int .i64 t.b]
/-- A service: its nodes, all views, whether the last one is settled. -/
structure SvT where
  nodes : Int
  l : List VwT
  set : Bool
/-- The document's service as a value. -/
abbrev svV (nodes : Int) (v : Value) (s : Bool) : Value := .agg #[.int .i64 nodes, v, .bool s]
def lastV (l : List VwT) : VwT := l.getLast?.getD ⟨0, 0, 0⟩
/-- What may be: none at all, or up to 401 views, numbered. -/
structure SvT.Ok (V : SvT) : Prop where
  nodes : 0 ≤ V.nodes ∧ V.nodes ≤ 5
  len : V.l.length ≤ 401
  num : ∀ (i : Nat) (t : VwT), V.l[i]? = some t → t.n = (i : Int) + 1 ∧ 1 ≤ t.p ∧ t.p ≤ V.nodes ∧ 0 ≤ t.b ∧ t.b ≤ V.nodes ∧ t.p ≠ t.b
  chain : ∀ (i : Nat) (t u : VwT), V.l[i]? = some t → V.l[i + 1]? = some u → u.p = t.p ∨ u.p = t.b
  zero : V.l = [] → V.nodes = 0 ∧ V.set = false
theorem lastV_snoc (l : List VwT) (t : VwT) : lastV (l ++ [t]) = t := by simp [lastV]
theorem lastV_at {l : List VwT} (h : l ≠ []) : l[l.length - 1]? = some (lastV l) := by
  unfold lastV
  rw [List.getLast?_eq_getElem?]
  have : l.length - 1 < l.length := by have := List.length_pos_iff.2 h; omega
  rw [List.getElem?_eq_getElem this]
  rfl
theorem SvT.Ok.last {V : SvT} (h : V.Ok) (hl : V.l ≠ []) : (lastV V.l).n = V.l.length := by
  have h1 := (h.num _ _ (lastV_at hl)).1
  have := List.length_pos_iff.2 hl
  rw [h1]
  omega
/-- What Promote answers. -/
def SvT.promC (V : SvT) (p b : Int) : Int :=
  if V.set = false then 121
  else if p = 0 ∨ (p ≠ (lastV V.l).p ∧ p ≠ (lastV V.l).b) ∨ b < 0 ∨ V.nodes < b ∨ p = b then 120
  else if 401 ≤ V.l.length then 3 else 0
def SvT.prom (V : SvT) (p b : Int) : SvT := if V.promC p b = 0 then ⟨V.nodes, V.l ++ [⟨(lastV V.l).n + 1, p, b⟩], false⟩ else V
/-- What Settle answers. -/
def SvT.settC (V : SvT) (n k : Int) : Int := if V.l = [] ∨ n ≠ (lastV V.l).n ∨ k ≠ (lastV V.l).p then 120 else 0
def SvT.sett (V : SvT) (n k : Int) : SvT := if V.settC n k = 0 then ⟨V.nodes, V.l, true⟩ else V
/-- What a note does. -/
def SvT.took (V : SvT) (from_ k n : Int) : SvT := if k = 23 then V.sett n from_ else V
theorem SvT.Ok.prom {V : SvT} (h : V.Ok) (p b : Int) : (V.prom p b).Ok := by
  unfold SvT.prom
  by_cases hc : V.promC p b = 0
  · rw [if_pos hc]
    unfold SvT.promC at hc
    split at hc
    · cases hc
    · rename_i h1
      split at hc
      · cases hc
      · rename_i h2
        split at hc
        · cases hc
        · rename_i h3
          simp only [not_or] at h2
          have hne : V.l ≠ [] := fun e => h1 (h.zero e).2
          have hn := h.num _ _ (lastV_at hne)
          have hl := h.last hne
          have hp : p = (lastV V.l).p ∨ p = (lastV V.l).b := by
            by_cases e1 : p = (lastV V.l).p
            · exact .inl e1
            · exact .inr (Classical.byContradiction fun e2 => h2.2.1 ⟨e1, e2⟩)
          have hp1 : 1 ≤ p ∧ p ≤ V.nodes := by
            have h0 := h2.1
            rcases hp with e | e <;> rw [e] at h0 ⊢ <;> constructor <;> omega
          have hat : ∀ (i : Nat) (t : VwT), (V.l ++ [⟨(lastV V.l).n + 1, p, b⟩])[i]? = some t → V.l[i]? = some t ∨ (i = V.l.length ∧ t = ⟨(lastV V.l).n + 1, p, b⟩) := fun i t hi => by
            rw [List.getElem?_append] at hi
            split at hi
            · exact .inl hi
            · rename_i hlt
              by_cases he : i - V.l.length = 0
              · rw [he] at hi
                exact .inr ⟨by omega, (by simpa using hi.symm)⟩
              · rw [List.getElem?_eq_none (by simp; omega)] at hi; cases hi
          refine ⟨h.nodes, by simp; omega, fun i t hi => ?_, fun i t u hi hu => ?_, fun e => by simp at e⟩
          · rcases hat i t hi with hi | ⟨rfl, rfl⟩
            · exact h.num i t hi
            · exact ⟨by simp [hl], hp1.1, hp1.2, by simp; omega, by simp; omega, h2.2.2.2.2⟩
          · rcases hat (i + 1) u hu with hu | ⟨hi1, rfl⟩
            · rcases hat i t hi with hi | ⟨rfl, rfl⟩
              · exact h.chain i t u hi hu
              · rw [List.getElem?_eq_none (by omega)] at hu; cases hu
            · rcases hat i t hi with hi | ⟨hi2, _⟩
              · have hla := lastV_at hne
                rw [show V.l.length - 1 = i by omega, hi] at hla
                obtain rfl : t = lastV V.l := by simpa using hla
                exact hp
              · omega
  · rw [if_neg hc]
    exact h
theorem SvT.Ok.sett {V : SvT} (h : V.Ok) (n k : Int) : (V.sett n k).Ok := by
  unfold SvT.sett
  by_cases hc : V.settC n k = 0
  · rw [if_pos hc]
    have hne : V.l ≠ [] := fun e => by unfold SvT.settC at hc; rw [if_pos (.inl e)] at hc; cases hc
    exact ⟨h.nodes, h.len, h.num, h.chain, fun e => absurd e hne⟩
  · rw [if_neg hc]
    exact h
theorem SvT.Ok.took {V : SvT} (h : V.Ok) (f k n : Int) : (V.took f k n).Ok := by
  unfold SvT.took
  split
  · exact h.sett n f
  · exact h
end Go.Proofs.Ytlbhnlpdijhmlaa
