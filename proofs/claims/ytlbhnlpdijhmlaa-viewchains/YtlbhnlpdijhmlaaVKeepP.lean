/-
  ViewKeepsWhatWasSettled: what stays true.
-/
import Derived.Test.YtlbhnlpdijhmlaaVBegin
import Derived.Test.YtlbhnlpdijhmlaaVScript
namespace Go.Proofs.Ytlbhnlpdijhmlaa
open Go.RowKit
set_option linter.unusedVariables false
set_option linter.unusedSimpArgs false

theorem does_cases (V : SvT) (x : WhT) : V.does x = V ∨ (∃ t, V.set = true ∧ V.does x = ⟨V.nodes, V.l ++ [t], false⟩) ∨ V.does x = ⟨V.nodes, V.l, true⟩ := by
  have hs : ∀ n k, V.sett n k = V ∨ V.sett n k = ⟨V.nodes, V.l, true⟩ := fun n k => by
    unfold SvT.sett
    split
    · exact .inr rfl
    · exact .inl rfl
  unfold SvT.does
  split
  · unfold SvT.prom
    split
    · rename_i hc
      refine .inr (.inl ⟨_, ?_, rfl⟩)
      cases hv : V.set with
      | true => rfl
      | false => unfold SvT.promC at hc; rw [if_pos hv] at hc; cases hc
    · exact .inl rfl
  · split
    · exact (hs _ _).imp id .inr
    · split
      · unfold SvT.took
        split
        · exact (hs _ _).imp id .inr
        · exact .inl rfl
      · exact .inl rfl
theorem does_ok {V : SvT} (h : V.Ok) (x : WhT) : (V.does x).Ok := by
  unfold SvT.does
  split
  · exact h.prom _ _
  · split
    · exact h.sett _ _
    · split
      · exact h.took _ _ _
      · exact h
/-- What is true once an act was done. -/
structure KM (V : SvT) (gv : Bool) (sn : Nat) (hv : List Bool) : Prop where
  ok : V.Ok
  ne : V.l ≠ []
  len : hv.length = 6
  nr : sn = V.l.length ∨ sn + 1 = V.l.length
  un : V.set = false → sn + 1 = V.l.length
  pos : gv = true → 1 ≤ sn
  has : gv = true → ∀ t, V.l[sn - 1]? = some t → hv[t.p.toNat]? = some true ∧ hv[t.b.toNat]? = some true
/-- What is true between two acts. -/
structure KI (V : SvT) (gv : Bool) (sn : Nat) (hv : List Bool) : Prop extends KM V gv sn hv where
  st : V.set = true → sn = V.l.length
theorem KI.did {V : SvT} {gv : Bool} {sn : Nat} {hv : List Bool} (h : KI V gv sn hv) (x : WhT) : KM (V.does x) gv sn hv := by
  have hok := does_ok h.ok x
  rcases does_cases V x with e | ⟨t, hs, e⟩ | e
  · rw [e] at hok ⊢
    exact h.toKM
  · rw [e] at hok ⊢
    have h1 := h.st hs
    have hlp := List.length_pos_iff.2 h.ne
    refine ⟨hok, by simp, h.len, .inr (by simp; omega), fun _ => by simp; omega, h.pos, fun hg u hu => h.has hg u ?_⟩
    have hp := h.pos hg
    have hu : (V.l ++ [t])[sn - 1]? = some u := hu
    rwa [List.getElem?_append_left (by omega)] at hu
  · rw [e] at hok ⊢
    exact ⟨hok, h.ne, h.len, h.nr, (fun hh => by cases hh), h.pos, h.has⟩
theorem KM.un' {V : SvT} {gv : Bool} {sn : Nat} {hv : List Bool} (h : KM V gv sn hv) (hs : V.set = false) : KI V gv sn hv := ⟨h, fun hh => by rw [hs] at hh; cases hh⟩
theorem KM.same {V : SvT} {gv : Bool} {sn : Nat} {hv : List Bool} (h : KM V gv sn hv) (hs : (lastV V.l).n = (sn : Int)) : KI V gv sn hv := ⟨h, fun _ => by have := h.ok.last h.ne; omega⟩
/-- The last view's nodes. -/
theorem KM.nodes {V : SvT} {gv : Bool} {sn : Nat} {hv : List Bool} (h : KM V gv sn hv) : ∃ pn bn : Nat, (lastV V.l).p = pn ∧ (lastV V.l).b = bn ∧ 1 ≤ pn ∧ pn ≤ 5 ∧ bn ≤ 5 ∧ pn ≠ bn ∧ (lastV V.l).n = V.l.length := by
  have hn := h.ok.num _ _ (lastV_at h.ne)
  have hN := h.ok.nodes
  exact ⟨(lastV V.l).p.toNat, (lastV V.l).b.toNat, by omega, by omega, by omega, by omega, by omega, by omega, h.ok.last h.ne⟩
/-- The primary of a new view has it. -/
theorem KM.prim {V : SvT} {sn : Nat} {hv : List Bool} (h : KM V true sn hv) (hs : sn ≠ V.l.length) : hv[(lastV V.l).p.toNat]? = some true := by
  have hp := h.pos rfl
  have he : sn + 1 = V.l.length := h.nr.resolve_left hs
  obtain ⟨t, ht⟩ : ∃ t, V.l[sn - 1]? = some t := ⟨_, List.getElem?_eq_getElem (by omega)⟩
  have hla := lastV_at h.ne
  rw [show V.l.length - 1 = (sn - 1) + 1 by omega] at hla
  have hb := h.has rfl t ht
  rcases h.ok.chain _ _ _ ht hla with e | e
  · rw [e]; exact hb.1
  · rw [e]; exact hb.2
theorem KM.seen {V : SvT} {gv : Bool} {sn : Nat} {hv hv' : List Bool} (h : KM V gv sn hv) (hs : V.set = true) (gv' : Bool) (hl : hv'.length = 6) (hh : gv' = true → hv'[(lastV V.l).p.toNat]? = some true ∧ hv'[(lastV V.l).b.toNat]? = some true) : KI V gv' V.l.length hv' := by
  have hlp := List.length_pos_iff.2 h.ne
  refine ⟨⟨h.ok, h.ne, hl, .inl rfl, (fun hh => by rw [hs] at hh; cases hh), fun _ => hlp, fun hg t ht => ?_⟩, fun _ => rfl⟩
  have hla := lastV_at h.ne
  rw [hla] at ht
  obtain rfl : lastV V.l = t := by simpa using ht
  exact hh hg
theorem new_ki (nodes : Int) (h1 : 1 ≤ nodes) (h5 : nodes ≤ 5) : KI (newV nodes) false 0 [false, false, false, false, false, false] := by
  have hok : (newV nodes).Ok := by
    refine ⟨⟨by show 0 ≤ nodes; omega, h5⟩, by simp [newV], fun i t hi => ?_, fun i t u hi hu => ?_, fun e => by simp [newV] at e⟩
    · match i, hi with
      | 0, hi =>
        obtain rfl : (⟨1, 1, if 1 < nodes then 2 else 0⟩ : VwT) = t := by simpa [newV] using hi
        refine ⟨by simp, Int.le_refl _, h1, ?_, ?_, ?_⟩ <;> (simp only [newV]; split <;> omega)
      | i + 1, hi => simp [newV] at hi
    · simp [newV] at hu
  exact ⟨⟨hok, by simp [newV], rfl, .inr rfl, fun _ => rfl, (fun h => by cases h), (fun h => by cases h)⟩, (fun h => by simp [newV] at h)⟩
end Go.Proofs.Ytlbhnlpdijhmlaa
