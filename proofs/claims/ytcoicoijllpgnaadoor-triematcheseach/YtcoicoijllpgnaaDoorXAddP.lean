/-
  trie: what Add needs besides.
-/
import Derived.Test.YtcoicoijllpgnaaDoorXTrie
namespace Go.Proofs.YtcoicoijllpgnaaDoor
open Go.RowKit Go.Maps
set_option linter.unusedVariables false
set_option linter.unusedSimpArgs false

theorem addW_iff {D : List Way} {p : Way} {ns : List ByteArray} {q : Way} : q ∈ addW D p ns ↔ q ∈ D ∨ ∃ r, r <+: ns ∧ r ≠ [] ∧ q = p ++ r := by
  induction ns generalizing D p with
  | nil =>
    constructor
    · exact .inl
    · rintro (h | ⟨r, h, hne, _⟩)
      · exact h
      · exact absurd (List.prefix_nil.1 h) hne
  | cons n ns ih =>
    show q ∈ addW (addD D (p ++ [n])) (p ++ [n]) ns ↔ _
    rw [ih, addD_mem]
    constructor
    · rintro ((h | h) | ⟨r, h, hne, e⟩)
      · exact .inl h
      · exact .inr ⟨[n], ⟨ns, rfl⟩, by simp, h⟩
      · exact .inr ⟨n :: r, by rw [List.cons_prefix_cons]; exact ⟨rfl, h⟩, by simp, by rw [e, List.append_assoc]; rfl⟩
    · rintro (h | ⟨r, h, hne, e⟩)
      · exact .inl (.inl h)
      · cases r with
        | nil => exact absurd rfl hne
        | cons m r =>
          rw [List.cons_prefix_cons] at h
          obtain ⟨rfl, h⟩ := h
          by_cases hr : r = []
          · subst hr
            exact .inl (.inr e)
          · exact .inr ⟨r, h, hr, by rw [e, List.append_assoc]; rfl⟩
/-- The sessions' blocks are none of the tree's. -/
theorem apart {w : World} {y : Lay} {D : List Way} {σ : Option Nat} {τ : Int → Value} {hs hs' : List He} (hT : Tr w y D hs) (hS : SesAt w σ τ hs') (hρ : ∀ s, ∀ p ∈ D, ∀ k, (τ s).ownBlock = some k → (y.ρ p).ownBlock ≠ some k) (hμ : ∀ p ∈ D, ∀ k, σ = some k → y.μ p ≠ some k) {k : Nat} (hk : Sf σ τ k) : ¬ Ft y D hs k := by
  rintro ((⟨p, hp, e⟩ | ⟨p, hp, e⟩ | ⟨p, hp, e⟩) | ⟨x, hx, e⟩)
  · obtain ⟨cur, t, h1, ht⟩ := hT.kβ hp
    rw [e] at h1
    rcases hk with hk | ⟨s, hk⟩
    · obtain ⟨es, c, h2⟩ := hS.kσ hk
      rw [h1] at h2
      cases h2
    · obtain ⟨c2, h2⟩ := hS.kτ hk
      rw [h1] at h2
      simp only [Option.some.injEq, Obj.cells.injEq] at h2
      rcases ht with rfl | rfl
      · exact absurd h2.2.1 (by decide)
      · exact absurd h2.2.1 (by decide)
  · rcases hk with hk | ⟨s, hk⟩
    · exact hμ p hp k hk e
    · obtain ⟨c2, h2⟩ := hS.kτ hk
      obtain ⟨es, c, h1⟩ := hT.kμ hp e
      rw [h1] at h2
      cases h2
  · rcases hk with hk | ⟨s, hk⟩
    · obtain ⟨es, c, h2⟩ := hS.kσ hk
      obtain ⟨c1, h1⟩ := hT.kρ hp e
      rw [h1] at h2
      cases h2
    · exact hρ s p hp k hk e
  · have h1 := hT.held x hx
    unfold HdAt at h1
    rw [e] at h1
    rcases hk with hk | ⟨s, hk⟩
    · obtain ⟨es, c, h2⟩ := hS.kσ hk
      rw [h1] at h2
      cases h2
    · obtain ⟨c2, h2⟩ := hS.kτ hk
      rw [h1] at h2
      simp only [Option.some.injEq, Obj.cells.injEq] at h2
      exact absurd h2.2.1 (by decide)
theorem TrieAt.apart {w : World} {B : Nat} {y : Lay} {D : List Way} {σ : Option Nat} {τ : Int → Value} {hs : List He} (h : TrieAt w B y D σ τ hs) {k : Nat} (hk : Sf σ τ k) : ¬ Ft y D hs k := Go.Proofs.YtcoicoijllpgnaaDoor.apart h.tr h.ses h.sρ h.sμ hk
/-- What stands behind the root is another thing. -/
theorem Tr.setSig {w : World} {y : Lay} {D : List Way} {hs : List He} (h : Tr w y D hs) (v : Value) : Tr (w.setCell ⟨y.β [], 2, none⟩ v) { y with σ := v } D hs := by
  have hc2 : Chg w (w.setCell ⟨y.β [], 2, none⟩ v) (fun k => k = y.β []) := Chg.set _ _ _
  refine ⟨h.ord, h.root, h.up, h.dn, h.sml, h.inj, fun q hq => ?_, fun q hq => ?_, h.rap, fun q hq => ?_, h.map, fun x hx => ?_⟩
  · by_cases e : q = []
    · subst e
      obtain ⟨cur, h1, h2, h3, h4⟩ := h.nd [] hq
      have h1s : 2 < cur.size := (Array.getElem?_eq_some_iff.1 (h4 rfl)).1
      refine ⟨cur.setIfInBounds 2 v, heap_setCell_same w _ 2 cur _ v h1, ?_, ?_, fun e => ?_⟩
      · rw [Array.getElem?_setIfInBounds_ne (by decide)]; exact h2
      · rw [Array.getElem?_setIfInBounds_ne (by decide)]; exact h3
      · rw [Array.getElem?_setIfInBounds_self_of_lt h1s]
    · obtain ⟨cur, h1, h2, h3, _⟩ := (h.nd q hq).chg hc2 (fun e' => e (h.inj q hq [] h.root e'))
      exact ⟨cur, h1, h2, h3, fun e' => absurd e' e⟩
  · exact owns_chg (h.row q hq) hc2 (fun k hk e' => h.βρ h.root hq hk e'.symm)
  · exact (h.kids q hq).chg hc2 (fun k hk e => h.βμ h.root hq hk e.symm)
  · exact (h.held x hx).chg hc2 (h.hβ h.root (h.held x hx))
set_option maxHeartbeats 3200000 in
theorem names_any (h : He) (w : World) (hh : HdAt w h) (hg : Ground w) (hp : parse h.p = (0, h.way)) :
    Calls Tryd.prog 25 #[h.ptr] w fun e w' => ∃ a c, e = .returned (.slice a h.way.length c) ∧ NsAt w' a c h.way ∧ Below w.heap.size w w' := by
  have HPA : Hid (Calls Tryd.prog 12 #[.string h.p] w fun e w' => ∃ a c, e = .returned (.tuple #[.slice a h.way.length c, .int .i64 0]) ∧ NsAt w' a c h.way ∧ Below w.heap.size w w') := by
    refine (parse_any h.p w hg).mono ?_
    rintro e w' ⟨a, c, he, ho, hb⟩
    rw [hp] at he ho
    exact ⟨a, c, he, NsAt.of ho, hb⟩
  obtain ⟨x0, x1, x2, x3, x4⟩ := cells_5 hh
  clear hh hg hp
  go_enter Tryd.func25, Tryd.ntmps25
  go_wp2_with (first | (go_at_call 12; refine Calls.mono HPA.out ?_; rintro e w1 ⟨a, c, rfl, hn, hb⟩; (have HN : Hid _ := hn); (have HB : Hid _ := hb); clear hn hb) | fail)
  go_ret
  exact ⟨a, c, rfl, HN.out, HB.out⟩
/-- A new watch's names are small. -/
theorem way_small {p : ByteArray} {xs : List ByteArray} (h : parse p = (0, xs)) : ∀ n ∈ xs, n.size ≤ 1000 := by
  intro n hn
  have h1 := List.all_eq_true.1 (parse_len h).2 n hn
  unfold isNm at h1
  simp only [Bool.and_eq_true, decide_eq_true_eq] at h1
  omega
end Go.Proofs.YtcoicoijllpgnaaDoor
