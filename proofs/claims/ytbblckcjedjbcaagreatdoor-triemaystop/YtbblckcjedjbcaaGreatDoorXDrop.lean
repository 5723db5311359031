/-
  trie: drop.
-/
import Derived.Test.YtbblckcjedjbcaaGreatDoorXAt
namespace Go.Proofs.YtbblckcjedjbcaaGreatDoor
open Go.RowKit Go.Maps
set_option linter.unusedVariables false
set_option linter.unusedSimpArgs false

/-- A node without anything goes. -/
theorem Tr.dropKid {w w3 : World} {y : Lay} {D : List Way} {hs : List He} (h : Tr w y D hs) {p : Way} (hp : p ∈ D) {n : ByteArray} (hq : p ++ [n] ∈ D) (hno : ∀ m, p ++ [n] ++ [m] ∉ D) {mb : Nat} {Dm : DataW Value} (hμ : y.μ p = some mb) (hkr : KR Dm p D y.β)
    (hc : Chg w w3 (fun k => k = mb)) (hm : MapAt w3 mb (Maps.size (Dm.del (ky n))) (Dm.del (ky n))) :
    Tr w3 y (D.filter (fun q => !decide (q = p ++ [n]))) hs := by
  have hmem : ∀ q, q ∈ D.filter (fun q => !decide (q = p ++ [n])) ↔ q ∈ D ∧ q ≠ p ++ [n] := fun q => by simp
  refine ⟨h.ord, (hmem _).2 ⟨h.root, by simp⟩, fun q m hq' => ?_, List.Pairwise.filter _ h.dn, fun q hq' => h.sml q ((hmem q).1 hq').1, fun q hq' r hr => h.inj q ((hmem q).1 hq').1 r ((hmem r).1 hr).1, fun q hq' => ?_, fun q hq' => ?_, fun q hq' r hr => h.rap q ((hmem q).1 hq').1 r ((hmem r).1 hr).1, fun q hq' => ?_, fun q hq' r hr => h.map q ((hmem q).1 hq').1 r ((hmem r).1 hr).1, fun x hx => ?_⟩
  · obtain ⟨h1, h2⟩ := (hmem _).1 hq'
    refine (hmem _).2 ⟨h.up q m h1, fun e => ?_⟩
    rw [e] at h1
    exact hno m h1
  · have h1 := ((hmem q).1 hq').1
    exact (h.nd q h1).chg hc (fun e => h.βμ h1 hp hμ e)
  · have h1 := ((hmem q).1 hq').1
    exact owns_chg (h.row q h1) hc (fun k hk e => h.ρμ h1 hp hk hμ e)
  · have h1 := ((hmem q).1 hq').1
    by_cases e : q = p
    · subst e
      rw [hμ]
      refine .inr ⟨mb, _, rfl, hm, hkr.tidy.del _, hkr.str.del _, fun m => ?_, fun m z hm' => ?_⟩
      · rw [hmem]
        by_cases e : m = n
        · subst e
          rw [Maps.has_del_same]
          simp
        · rw [Maps.has_del_other (fun e' => e (kyX_inj e')), hkr.has m]
          simp [e]
      · obtain ⟨h3, h4⟩ := (hmem _).1 hm'
        have e : m ≠ n := fun e => h4 (by rw [e])
        rw [Maps.atKey_del_other (fun e' => e (kyX_inj e'))]
        exact hkr.look m z h3
    · rcases h.kids q h1 with ⟨h2, h3⟩ | ⟨b, Dq, h2, h3, h4⟩
      · exact .inl ⟨h2, fun m hm' => h3 m ((hmem _).1 hm').1⟩
      · refine .inr ⟨b, Dq, h2, map_chg h3 hc (fun e' => h.map q h1 p hp e b h2 (by rw [e']; exact hμ)), h4.tidy, h4.str, fun m => ?_, fun m z hm' => h4.look m z ((hmem _).1 hm').1⟩
        rw [h4.has m, hmem]
        constructor
        · exact fun h5 => ⟨h5, fun e' => e (List.append_inj' e' rfl).1⟩
        · exact fun h5 => h5.1
  · exact (h.held x hx).chg hc (h.hμ hp (h.held x hx) hμ)
/-- Whether a node has neither watches nor kids. -/
def bareB (D : List Way) (hs : List He) (q : Way) : Bool := (here hs q).isEmpty && (kidsOf D q).isEmpty
theorem bareB_iff {D : List Way} {hs : List He} {q : Way} : bareB D hs q = true ↔ here hs q = [] ∧ ∀ m, q ++ [m] ∉ D := by
  unfold bareB
  rw [Bool.and_eq_true, List.isEmpty_iff, List.isEmpty_iff, List.eq_nil_iff_forall_not_mem (l := kidsOf D q)]
  constructor
  · rintro ⟨h1, h2⟩
    exact ⟨h1, fun m hm => h2 m (kids_mem.2 hm)⟩
  · rintro ⟨h1, h2⟩
    exact ⟨h1, fun m hm => h2 m (kids_mem.1 hm)⟩
/-- The nodes that are left. -/
def dropW (hs : List He) : List Way → Way → List ByteArray → List Way
  | D, _, [] => D
  | D, p, n :: r => if bareB (dropW hs D (p ++ [n]) r) hs (p ++ [n]) then (dropW hs D (p ++ [n]) r).filter (fun q => !decide (q = p ++ [n])) else dropW hs D (p ++ [n]) r
theorem dropW_sub {hs : List He} {D : List Way} {ns : List ByteArray} {p q : Way} (h : q ∈ dropW hs D p ns) : q ∈ D := by
  induction ns generalizing p with
  | nil => exact h
  | cons n r ih =>
    unfold dropW at h
    split at h
    · exact ih (List.mem_filter.1 h).1
    · exact ih h
theorem dropW_keep {hs : List He} {D : List Way} {ns : List ByteArray} {p q : Way} (h : q ∈ D) (hl : q.length ≤ p.length) : q ∈ dropW hs D p ns := by
  induction ns generalizing p with
  | nil => exact h
  | cons n r ih =>
    have h1 := ih (p := p ++ [n]) (by rw [List.length_append]; omega)
    unfold dropW
    split
    · refine List.mem_filter.2 ⟨h1, ?_⟩
      have : q ≠ p ++ [n] := fun e => by rw [e, List.length_append] at hl; simp at hl; omega
      simp [this]
    · exact h1
def Need (hs : List He) (q : Way) : Prop := ∃ x ∈ hs, q <+: x.way
theorem Need.up {hs : List He} {q r : Way} (h : Need hs r) (hp : q <+: r) : Need hs q := by
  obtain ⟨x, hx, h1⟩ := h
  exact ⟨x, hx, hp.trans h1⟩
theorem dropW_iff {hs : List He} {D : List Way} {wy : Way} (hA : ∀ q ∈ D, q = [] ∨ q <+: wy ∨ Need hs q) (hB : ∀ q, Need hs q → q ∈ D) (ns : List ByteArray) (p : Way) (hw : wy = p ++ ns) (q : Way) : q ∈ dropW hs D p ns ↔ q ∈ D ∧ (¬ (p <+: q ∧ q ≠ p ∧ q <+: wy) ∨ Need hs q) := by
  induction ns generalizing p q with
  | nil =>
    rw [List.append_nil] at hw
    subst hw
    show q ∈ D ↔ _
    constructor
    · intro h
      refine ⟨h, .inl ?_⟩
      rintro ⟨h1, h2, h3⟩
      exact h2 (h3.eq_of_length_le h1.length_le)
    · exact fun h => h.1
  | cons n r ih =>
    have hw' : wy = p ++ [n] ++ r := by rw [hw, List.append_assoc]; rfl
    have ihq := fun q => ih (p ++ [n]) hw' q
    have hbare : bareB (dropW hs D (p ++ [n]) r) hs (p ++ [n]) = true ↔ ¬ Need hs (p ++ [n]) := by
      rw [bareB_iff]
      constructor
      · rintro ⟨h1, h2⟩ ⟨x, hx, h3⟩
        by_cases e : x.way = p ++ [n]
        · have : x ∈ here hs (p ++ [n]) := here_mem.2 ⟨hx, e⟩
          rw [h1] at this
          cases this
        · obtain ⟨m, t, e2⟩ := way_split h3 e
          have hn : Need hs (p ++ [n] ++ [m]) := ⟨x, hx, ⟨t, by rw [e2]; simp⟩⟩
          exact h2 m ((ihq _).2 ⟨hB _ hn, .inr hn⟩)
      · intro hn
        refine ⟨?_, fun m hm => ?_⟩
        · rw [List.eq_nil_iff_forall_not_mem]
          intro x hx
          obtain ⟨h1, h2⟩ := here_mem.1 hx
          exact hn ⟨x, h1, by rw [h2]; exact List.prefix_refl _⟩
        · obtain ⟨h1, h2⟩ := (ihq _).1 hm
          have hne : ¬ Need hs (p ++ [n] ++ [m]) := fun h => hn (h.up (List.prefix_append _ _))
          rcases hA _ h1 with e | e | e
          · simp at e
          · refine h2.elim (fun h3 => h3 ⟨List.prefix_append _ _, fun e2 => ?_, e⟩) hne
            have := congrArg List.length e2
            simp at this
          · exact hne e
    have hon : ∀ q, (p <+: q ∧ q ≠ p ∧ q <+: wy) ↔ (q = p ++ [n] ∨ (p ++ [n] <+: q ∧ q ≠ p ++ [n] ∧ q <+: wy)) := fun q => by
      constructor
      · rintro ⟨h1, h2, h3⟩
        have h4 : p ++ [n] <+: q := pre_one h1 (by rw [hw] at h3; exact h3) h2
        by_cases e : q = p ++ [n]
        · exact .inl e
        · exact .inr ⟨h4, e, h3⟩
      · rintro (rfl | ⟨h1, h2, h3⟩)
        · refine ⟨List.prefix_append _ _, by simp, ?_⟩
          rw [hw']
          exact List.prefix_append _ _
        · refine ⟨(List.prefix_append p [n]).trans h1, fun e => ?_, h3⟩
          have := h1.length_le
          rw [e, List.length_append, List.length_singleton] at this
          omega
    unfold dropW
    rw [hon]
    by_cases hN : Need hs (p ++ [n])
    · rw [if_neg (fun e => hbare.1 e hN), ihq]
      constructor
      · rintro ⟨h1, h2⟩
        refine ⟨h1, ?_⟩
        by_cases e : q = p ++ [n]
        · exact .inr (e ▸ hN)
        · exact h2.imp (fun h3 h4 => h4.elim e h3) id
      · rintro ⟨h1, h2⟩
        exact ⟨h1, h2.imp (fun h3 h4 => h3 (.inr h4)) id⟩
    · rw [if_pos (hbare.2 hN), List.mem_filter, ihq]
      simp only [Bool.not_eq_true', decide_eq_false_iff_not]
      constructor
      · rintro ⟨⟨h1, h2⟩, h3⟩
        exact ⟨h1, h2.imp (fun h4 h5 => h5.elim h3 h4) id⟩
      · rintro ⟨h1, h2⟩
        refine ⟨⟨h1, h2.imp (fun h3 h4 => h3 (.inr h4)) id⟩, fun e => ?_⟩
        exact h2.elim (fun h3 => h3 (.inl e)) (fun h3 => hN (e ▸ h3))
theorem here_del {s i : Int} {hs : List He} (q : Way) : here (delH s i hs) q = delH s i (here hs q) := by
  unfold here
  exact del_filter s i _ hs
end Go.Proofs.YtbblckcjedjbcaaGreatDoor
