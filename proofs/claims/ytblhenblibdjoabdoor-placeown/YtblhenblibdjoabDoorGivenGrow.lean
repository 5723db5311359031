/-
  given: rows that are gone on from.
-/
import Derived.Test.YtblhenblibdjoabDoorGivenPure
namespace Go.Proofs.YtblhenblibdjoabDoor
open Go.RowKit

/-- Row q, gone on from p times. -/
structure Gro (Wq wr : World) (B q : Nat) (a : Option Addr) (n c p : Nat) (g : Value) (zs : List ByteArray) : Prop where
  chg : Chg Wq wr (fun k => (Value.slice a n c).ownBlock = some k ∨ Wq.heap.size ≤ k)
  eqz : zs = marks q (n + p)
  row : Rok wr B (g, zs)
  old : Rok wr B (.slice a n c, marks q n)
  alt : g = .slice a (n + p) c ∨ ∃ k, g.ownBlock = some k ∧ Wq.heap.size ≤ k

theorem Gro.next {Wq wr w1 w2 : World} {B q n c p g' cap' : Nat} {a : Option Addr} {g : Value} {zs : List ByteArray} {o : Obj} (h : Gro Wq wr B q a n c p g zs) (hold : ∀ k, (Value.slice a n c).ownBlock = some k → k < Wq.heap.size) (hb : Below wr.heap.size wr w1)
    (hown : w2.ownsRow B 9 1 (.slice (some ⟨g', 0, none⟩) (zs.length + 1) cap') (zs.length + 1) (zs.map Value.string ++ [.string (markB q zs.length)]))
    (halt : (g = .slice (some ⟨g', 0, none⟩) zs.length cap' ∧ (w1.alloc o).grownBy w2 (some g')) ∨ ((w1.alloc o).heap.size ≤ g' ∧ (w1.alloc o).grownBy w2 none)) :
    Gro Wq w2 B q a n c (p + 1) (.slice (some ⟨g', 0, none⟩) (zs.length + 1) cap') (zs ++ [markB q zs.length]) := by
  have hzl : zs.length = n + p := by rw [h.eqz, marks_len]
  have s1 := h.chg.size
  have s2 := hb.size
  have hzn : zs ++ [markB q zs.length] = marks q (n + (p + 1)) := by rw [hzl, h.eqz]; exact marks_succ q (n + p)
  have hz' : (zs ++ [markB q zs.length]).length = zs.length + 1 := by simp
  have hrow : Rok w2 B (.slice (some ⟨g', 0, none⟩) (zs.length + 1) cap', zs ++ [markB q zs.length]) := by
    show w2.ownsRow B 9 1 _ (zs ++ [markB q zs.length]).length ((zs ++ [markB q zs.length]).map Value.string)
    rw [hz', List.map_append]
    exact hown
  have b1 : Below wr.heap.size wr (w1.alloc o) := hb.alloc s2 o
  rcases halt with ⟨hg, hgr⟩ | ⟨hge, hgr⟩
  · have hgb : g.ownBlock = some g' := by rw [hg]; rfl
    have hS : (Value.slice a n c).ownBlock = some g' ∨ Wq.heap.size ≤ g' := by
      rcases h.alt with e | ⟨k, hk, hN⟩
      · left
        rw [e] at hgb
        cases a with
        | none => cases hgb
        | some x => exact hgb
      · right
        rw [hgb] at hk
        cases hk
        exact hN
    have hch : Chg wr w2 (fun k => (Value.slice a n c).ownBlock = some k ∨ Wq.heap.size ≤ k) := (Chg.of_below b1 _).trans ((Chg.grown hgr).mono (fun k _ e => by cases e; exact hS))
    refine ⟨h.chg.trans hch, hzn, hrow, ?_, ?_⟩
    · rcases h.alt with e | ⟨k, hk, hN⟩
      · rw [e] at hg
        simp only [Value.slice.injEq] at hg
        obtain ⟨rfl, _, rfl⟩ := hg
        refine Rok.of (owns_prefix (n := n) (m := p + 1) (xs := (marks q n).map Value.string) (news := (List.range (p + 1)).map (fun i => Value.string (markB q (n + i)))) (by simp [marks_len]) ?_) (marks_len q n)
        have e2 : (marks q n).map Value.string ++ (List.range (p + 1)).map (fun i => Value.string (markB q (n + i))) = (zs ++ [markB q zs.length]).map Value.string := by
          rw [hzn]
          simp only [marks, List.range_add, List.map_append, List.map_map]
          rfl
        rw [e2, List.map_append, show n + (p + 1) = zs.length + 1 by omega]
        exact hown
      · refine owns_chg h.old ((Chg.of_below b1 (fun k => k = g')).trans ((Chg.grown hgr).mono (fun k _ e => by cases e; rfl))) (fun k' hk' e => ?_)
        rw [hgb] at hk
        cases hk
        have := hold k' hk'
        omega
    · rcases h.alt with e | ⟨k, hk, hN⟩
      · left
        rw [e] at hg
        simp only [Value.slice.injEq] at hg
        obtain ⟨rfl, _, rfl⟩ := hg
        rw [hzl]
        rfl
      · right
        rw [hgb] at hk
        exact ⟨k, hk, hN⟩
  · have hch : ∀ S, Chg wr w2 S := fun S => (Chg.of_below b1 _).trans ((Chg.grown hgr).mono (fun k _ e => by cases e))
    refine ⟨h.chg.trans (hch _), hzn, hrow, owns_chg h.old (hch (fun _ => False)) (fun _ _ => id), .inr ⟨g', rfl, ?_⟩⟩
    simp at hge
    omega

/-- Where the third loop stands. -/
structure G3 (W3 wr : World) (B : Nat) (ls gs : List Rw) (gv : Value) : Prop where
  chg : Chg W3 wr (fun k => k ∈ blks ls ∨ W3.heap.size ≤ k)
  own : wr.ownsRow W3.heap.size 37 1 gv gs.length (gs.map Prod.fst)
  full : ∀ (i : Nat) (r : Rw), ls[i]? = some r → Rok wr B (r.1, marks i r.2.length)
  gr : ∀ (i : Nat) (r g : Rw), ls[i]? = some r → gs[i]? = some g → g.2 = marks i (r.2.length + 64) ∧ Rok wr B g ∧ Moved W3.heap.size r.1 g.1

theorem G3.next {W3 Wq wr w2 : World} {B c : Nat} {ls gs : List Rw} {gv gv' g : Value} {a : Option Addr} {xs zs : List ByteArray} {o : Obj} (h : G3 W3 Wq B ls gs gv) (hnd : (blks ls).Nodup) (hlt : ∀ k, k ∈ blks ls → k < W3.heap.size)
    (hq : ls[gs.length]? = some (.slice a xs.length c, xs)) (hg : Gro Wq wr B gs.length a xs.length c 64 g zs)
    (hown2 : w2.ownsRow W3.heap.size 37 1 gv' (gs.length + 1) (gs.map Prod.fst ++ [g])) (hgrow : (wr.alloc o).grownBy w2 gv.ownBlock) (hgown : wr.ownsRow W3.heap.size 37 1 gv gs.length (gs.map Prod.fst)) : G3 W3 w2 B ls (gs ++ [(g, zs)]) gv' := by
  have s3 := h.chg.size
  have hqb : ∀ k, (Value.slice a xs.length c).ownBlock = some k → k ∈ blks ls := fun k hk => mem_blks (r := (.slice a xs.length c, xs)) (List.mem_of_getElem? hq) hk
  have c1 : Chg Wq wr (fun k => (Value.slice a xs.length c).ownBlock = some k) := hg.chg.mono (fun k hk e => by
    rcases e with e | e
    · exact e
    · omega)
  have c2 : Chg wr w2 (fun k => gv.ownBlock = some k) := (Chg.alloc wr o _).trans (Chg.grown hgrow)
  have hne9 : ∀ {v : Value} {n : Nat} {ys : List Value}, wr.ownsRow B 9 1 v n ys → ∀ k, v.ownBlock = some k → ¬ gv.ownBlock = some k := by
    intro v n ys hr k hk e
    obtain ⟨cur, hcur⟩ := owns_kind hr hk
    obtain ⟨c', hc'⟩ := owns_kind hgown e
    exact absurd (kind_ne hcur hc') (by decide)
  have keep : ∀ r : Rw, Rok Wq B r → (∀ k, r.1.ownBlock = some k → ¬ (Value.slice a xs.length c).ownBlock = some k) → Rok w2 B r := by
    intro r hr hne
    have hr1 : Rok wr B r := owns_chg hr c1 hne
    exact owns_chg hr1 c2 (hne9 hr1)
  refine ⟨?_, by simpa using hown2, ?_, ?_⟩
  · refine h.chg.trans ((c1.mono (fun k _ e => .inl (hqb k e))).trans (c2.mono (fun k _ e => .inr ?_)))
    exact (hgown.lt k e).1
  · intro i r hr
    by_cases e : i = gs.length
    · subst e
      rw [hq] at hr
      have := Option.some.inj hr
      subst this
      exact owns_chg hg.old c2 (hne9 hg.old)
    · exact keep _ (h.full i r hr) (fun k hk e' => nodup_ne hnd hr hq e k hk e')
  · intro i r g1 hr hg1
    by_cases e : i = gs.length
    · subst e
      rw [hq] at hr
      have := Option.some.inj hr
      subst this
      rw [List.getElem?_append_right (Nat.le_refl _), Nat.sub_self] at hg1
      have := Option.some.inj hg1
      subst this
      refine ⟨hg.eqz, owns_chg hg.row c2 (hne9 hg.row), ?_⟩
      rcases hg.alt with e | ⟨k, hk, hN⟩
      · left
        simp only
        rw [e]
        cases a <;> rfl
      · exact .inr ⟨k, hk, by omega⟩
    · have hi : i < gs.length := by
        have := (List.getElem?_eq_some_iff.1 hg1).1
        simp at this
        omega
      rw [List.getElem?_append_left hi] at hg1
      obtain ⟨h1, h2, h3⟩ := h.gr i r g1 hr hg1
      refine ⟨h1, keep _ h2 (fun k hk e' => ?_), h3⟩
      rcases h3 with h3 | ⟨k', hk', hN⟩
      · rw [h3] at hk
        exact nodup_ne hnd hr hq e k hk e'
      · rw [hk'] at hk
        cases hk
        have := hlt _ (hqb _ e')
        omega
end Go.Proofs.YtblhenblibdjoabDoor
