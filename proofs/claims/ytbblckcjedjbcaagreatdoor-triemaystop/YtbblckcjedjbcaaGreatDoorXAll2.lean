/-
  trie: all, of any tree.
-/
import Derived.Test.YtbblckcjedjbcaaGreatDoorXAll
namespace Go.Proofs.YtbblckcjedjbcaaGreatDoor
open Go.RowKit Go.Maps Go.Sort
set_option linter.unusedVariables false
set_option linter.unusedSimpArgs false

theorem all_any : ∀ (d : Nat) (w : World) (y : Lay) (D : List Way) (hs : List He) (p : Way) (v : Value) (l : List He), Tr w y D hs → p ∈ D → D.length ≤ 100000 → (∀ q ∈ D, p <+: q → q.length ≤ p.length + d) → w.ownsRow 0 91 1 v l.length (ptrs l) → (∀ k, v.ownBlock = some k → ¬ Ft y D hs k) → l.length + (allH D hs d p).length ≤ 100000 →
    Calls Tryz.prog 43 #[ndV (y.β p), v] w (AllE w v (l ++ allH D hs d p)) := by
  intro d
  induction d with
  | zero =>
    intro w y D hs p v l hT hp hD hd hv hF hl
    refine allN_step w y D hs p (fun _ => []) v l hT hp hD hv hF hl (fun w1 x v1 l1 hx _ _ _ _ => ?_)
    have := hd _ (way_kid hx) (List.prefix_append p _)
    rw [wayOf, List.length_append, List.length_singleton] at this
    omega
  | succ d ih =>
    intro w y D hs p v l hT hp hD hd hv hF hl
    refine allN_step w y D hs p (allH D hs d) v l hT hp hD hv hF hl (fun w1 x v1 l1 hx hT1 hv1 hF1 hl1 => ?_)
    refine ih w1 y D hs (wayOf p x) v1 l1 hT1 (way_kid hx) hD (fun q hq hpre => ?_) hv1 hF1 hl1
    have h1 := hd q hq ((List.prefix_append p _).trans hpre)
    rw [wayOf, List.length_append, List.length_singleton]
    omega
theorem kidsB_in {D : List Way} {p : Way} {l : List UInt8} : l ∈ kidsB D p ↔ wayOf p l ∈ D := by
  constructor
  · exact way_kid
  · intro h
    exact List.mem_map.2 ⟨⟨l.toArray⟩, kids_mem.2 h, by simp⟩
theorem wayOf_pre {p : Way} {a b : List UInt8} {q : Way} (ha : wayOf p a <+: q) (hb : wayOf p b <+: q) : a = b := by
  obtain ⟨r, rfl⟩ := ha
  obtain ⟨s, hs⟩ := hb
  unfold wayOf at hs
  rw [List.append_assoc, List.append_assoc] at hs
  have h1 := List.append_cancel_left hs
  simp only [List.cons_append, List.nil_append, List.cons.injEq] at h1
  have h2 := congrArg (fun z : ByteArray => z.data.toList) h1.1
  simpa using h2.symm
theorem all_mem (D : List Way) (hs : List He) (hup : ∀ p n, p ++ [n] ∈ D → p ∈ D) (hin : ∀ x ∈ hs, x.way ∈ D) : ∀ (d : Nat) (p : Way), (∀ q ∈ D, p <+: q → q.length ≤ p.length + d) → ∀ x, x ∈ allH D hs d p ↔ x ∈ hs ∧ p <+: x.way := by
  have hpre : ∀ r q : Way, q ++ r ∈ D → q ∈ D := by
    intro r
    induction r with
    | nil => intro q h; rwa [List.append_nil] at h
    | cons n r ih =>
      intro q h
      refine hup q n (ih (q ++ [n]) ?_)
      rw [List.append_assoc]
      exact h
  have step : ∀ (d : Nat) (p : Way) (R : Way → List He), (∀ l ∈ kidsB D p, ∀ x, x ∈ R (wayOf p l) ↔ x ∈ hs ∧ wayOf p l <+: x.way) → ∀ x, x ∈ allS D hs p R ↔ x ∈ hs ∧ p <+: x.way := by
    intro d p R hR x
    unfold allS
    rw [List.mem_append, here_mem, List.mem_flatMap]
    constructor
    · rintro (⟨h1, h2⟩ | ⟨l, hl, hx⟩)
      · exact ⟨h1, by rw [h2]; exact List.prefix_refl _⟩
      · have hl' := (sortX_perm _).mem_iff.1 hl
        have := (hR l hl' x).1 hx
        exact ⟨this.1, (List.prefix_append p _).trans this.2⟩
    · rintro ⟨h1, r, hr⟩
      cases r with
      | nil => left; exact ⟨h1, by rw [← hr, List.append_nil]⟩
      | cons n r =>
        right
        have hw : wayOf p n.data.toList = p ++ [n] := by
          unfold wayOf
          congr 2
        have hk : n.data.toList ∈ kidsB D p := by
          rw [kidsB_in, hw]
          refine hpre r _ ?_
          rw [List.append_assoc]
          have := hin x h1
          rw [← hr] at this
          exact this
        refine ⟨_, (sortX_perm _).mem_iff.2 hk, (hR _ hk x).2 ⟨h1, ?_⟩⟩
        rw [hw, ← hr]
        exact ⟨r, by simp⟩
  intro d
  induction d with
  | zero =>
    intro p hd
    refine step 0 p _ (fun l hl => ?_)
    have := hd _ (way_kid hl) (List.prefix_append p _)
    rw [wayOf, List.length_append, List.length_singleton] at this
    omega
  | succ d ih =>
    intro p hd
    refine step d p _ (fun l hl => ih (wayOf p l) (fun q hq hq2 => ?_))
    have h1 := hd q hq ((List.prefix_append p _).trans hq2)
    rw [wayOf, List.length_append, List.length_singleton]
    omega
theorem ord_nodup {hs : List He} (h : Ord hs) : hs.Nodup := by
  refine List.Pairwise.imp (fun {a b} hab hne => ?_) h
  subst hne
  have := bef_irr a.s a.i
  unfold befH at hab
  rw [this] at hab
  cases hab
theorem kidsB_nodup {D : List Way} (h : D.Nodup) (p : Way) : (kidsB D p).Nodup := by
  unfold kidsB
  refine List.Pairwise.map _ (fun a b hab hne => hab ?_) (kids_nodup h p)
  exact ByteArray.ext (Array.ext' hne)
theorem all_nodup (D : List Way) (hs : List He) (hd0 : D.Nodup) (ho : Ord hs) (hup : ∀ p n, p ++ [n] ∈ D → p ∈ D) (hin : ∀ x ∈ hs, x.way ∈ D) : ∀ (d : Nat) (p : Way), (∀ q ∈ D, p <+: q → q.length ≤ p.length + d) → (allH D hs d p).Nodup := by
  have step : ∀ (p : Way) (R : Way → List He), (∀ l ∈ kidsB D p, ∀ x, x ∈ R (wayOf p l) → wayOf p l <+: x.way) → (∀ l ∈ kidsB D p, (R (wayOf p l)).Nodup) → (allS D hs p R).Nodup := by
    intro p R hR hN
    unfold allS
    refine List.nodup_append.2 ⟨(ord_nodup ho).filter _, ?_, ?_⟩
    · refine List.pairwise_flatMap.2 ⟨fun l hl => hN l ((sortX_perm _).mem_iff.1 hl), ?_⟩
      refine List.Pairwise.imp_of_mem (fun {a b} ha hb hab x hx z hz e => hab ?_) ((sortX_perm _).nodup_iff.2 (kidsB_nodup hd0 p))
      subst e
      exact wayOf_pre (hR a ((sortX_perm _).mem_iff.1 ha) _ hx) (hR b ((sortX_perm _).mem_iff.1 hb) _ hz)
    · intro a ha b hb e
      subst e
      obtain ⟨l, hl, hx⟩ := List.mem_flatMap.1 hb
      have h1 := (hR l ((sortX_perm _).mem_iff.1 hl) _ hx).length_le
      rw [(here_mem.1 ha).2, wayOf, List.length_append, List.length_singleton] at h1
      omega
  intro d
  induction d with
  | zero =>
    intro p hd
    have hno : ∀ l ∈ kidsB D p, False := fun l hl => by
      have := hd _ (way_kid hl) (List.prefix_append p _)
      rw [wayOf, List.length_append, List.length_singleton] at this
      omega
    exact step p _ (fun l hl => (hno l hl).elim) (fun l hl => (hno l hl).elim)
  | succ d ih =>
    intro p hd
    have hdk : ∀ l, ∀ q ∈ D, wayOf p l <+: q → q.length ≤ (wayOf p l).length + d := fun l q hq hq2 => by
      have h1 := hd q hq ((List.prefix_append p _).trans hq2)
      rw [wayOf, List.length_append, List.length_singleton]
      omega
    exact step p _ (fun l hl x hx => ((all_mem D hs hup hin d (wayOf p l) (hdk l) x).1 hx).2) (fun l hl => ih _ (hdk l))
theorem all_len {D : List Way} {hs : List He} (hd0 : D.Nodup) (ho : Ord hs) (hup : ∀ p n, p ++ [n] ∈ D → p ∈ D) (hin : ∀ x ∈ hs, x.way ∈ D) {d : Nat} {p : Way} (hd : ∀ q ∈ D, p <+: q → q.length ≤ p.length + d) : (allH D hs d p).length ≤ hs.length :=
  List.Nodup.length_le_of_subset (all_nodup D hs hd0 ho hup hin d p hd) (fun x hx => ((all_mem D hs hup hin d p hd x).1 hx).1)
end Go.Proofs.YtbblckcjedjbcaaGreatDoor
