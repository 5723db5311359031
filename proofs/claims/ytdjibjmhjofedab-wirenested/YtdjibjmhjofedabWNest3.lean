/-
  WireNested: what holds between two rounds of its ranges.
-/
import Derived.Test.YtdjibjmhjofedabWNest2
import Derived.Test.YtdjibjmhjofedabWRangeV
namespace Go.Proofs.Ytdjibjmhjofedab
open Go.RowKit Go.Shelf
set_option linter.unusedVariables false

abbrev Bx := Nat × Value × TypeId
def NI (W0 : World) (sb : Nat) (P : List Int) (m : Nat) (bs : List Bx) (W : World) : Prop := ∃ rv fv fs, Ne W0 sb rv fv P m fs bs W

variable {W0 W W' : World} {sb m : Nat} {P ys : List Int} {bs : List Bx}

theorem NI.below (h : NI W0 sb P m bs W) (hb : Below W.heap.size W W') : NI W0 sb P m bs W' := by
  obtain ⟨rv, fv, fs, h⟩ := h
  exact ⟨rv, fv, fs, h.below hb⟩
theorem NI.grown {row : Option Nat} {B : Nat} (h : NI W0 sb P m bs W) (hB : W0.heap.size ≤ B) (hg : W.grownBy W' row) (hr : ∀ r, row = some r → B ≤ r ∧ ∃ o : Obj, W.heap[r]? = some o ∧ o.isCells = false) : NI W0 sb P m bs W' := by
  obtain ⟨rv, fv, fs, h⟩ := h
  exact ⟨rv, fv, fs, h.grown hB hg hr⟩
theorem NI.perm {bs' : List Bx} (h : NI W0 sb P m bs W) (hp : ∀ q, q ∈ bs' → q ∈ bs) : NI W0 sb P m bs' W := by
  obtain ⟨rv, fv, fs, h⟩ := h
  exact ⟨rv, fv, fs, h.perm hp⟩
theorem NI.set {k : Nat} {u v : Value} {t : TypeId} (h : NI W0 sb P m ((k, u, t) :: bs) W) (hd : ∀ q ∈ bs, q.1 ≠ k) : NI W0 sb P m ((k, v, t) :: bs) (W.setCell ⟨k, 0, none⟩ v) := by
  obtain ⟨rv, fv, fs, h⟩ := h
  exact ⟨rv, fv, fs, h.set hd⟩
theorem NI.alloc (h : NI W0 sb P m bs W) (v : Value) (t : TypeId) (h1 : t ≠ 52) (h2 : t ≠ 22) (h3 : t ≠ 5) : NI W0 sb P m ((W.heap.size, v, t) :: bs) (W.alloc (.cells #[v] t)) := by
  obtain ⟨rv, fv, fs, h⟩ := h
  exact ⟨rv, fv, fs, h.alloc v t h1 h2 h3⟩
theorem NI.bel (h : NI W0 sb P m bs W) : Below W0.heap.size W0 W := by
  obtain ⟨rv, fv, fs, h⟩ := h
  exact h.bel
theorem NI.le (h : NI W0 sb P m bs W) : m ≤ (dec P).1.length := by
  obtain ⟨rv, fv, fs, h⟩ := h
  exact h.le
theorem NI.cell (h : NI W0 sb P m bs W) {k : Nat} {v : Value} {t : TypeId} (hq : (k, v, t) ∈ bs) : W.cell? ⟨k, 0, none⟩ = some v ∧ W.frozen? ⟨k, 0, none⟩ = false := by
  obtain ⟨rv, fv, fs, h⟩ := h
  exact ⟨(cell_blk (h.box _ hq) 0).trans rfl, frozen_blk (h.box _ hq) 0⟩
theorem NI.lt (h : NI W0 sb P m bs W) {q : Bx} (hq : q ∈ bs) : q.1 < W.heap.size := by
  obtain ⟨rv, fv, fs, h⟩ := h
  exact lt_of_blk (h.box _ hq)
theorem NI.skipped (h : NI W0 sb P m bs W) : W.cell? ⟨sb, 2, none⟩ = some (.int .i64 ((dec P).2.1 : Nat)) := by
  obtain ⟨rv, fv, fs, h⟩ := h
  exact h.st.c2
theorem NI.new (h : NI W0 sb P m bs W) : W0.heap.size ≤ sb := by
  obtain ⟨rv, fv, fs, h⟩ := h
  exact h.new sb (.inl rfl)

theorem ni_feed (h : NI W0 sb P m bs W) {a : Option Addr} {c : Nat} {ys : List Int} (hb : Bl W a c ys) (hl : (P ++ ys).length ≤ 60000) :
    Calls Try.prog 27 #[.pointer (some ⟨sb, 0, none⟩), .slice a ys.length c] W fun e w' => (∃ v, e = .returned v) ∧ NI W0 sb (P ++ ys) m bs w' ∧ KeepsOthers W w' := by
  obtain ⟨rv, fv, fs, h⟩ := h
  refine (ne_feed h a c ys hb.bys hb.byt hb.le hb.max hl).mono ?_
  rintro e w' ⟨hv, rv', fv', fs', h1, h2⟩
  exact ⟨hv, ⟨rv', fv', fs', h1⟩, h2⟩

theorem ni_take (h : NI W0 sb P m bs W) :
    Calls Try.prog 44 #[.pointer (some ⟨sb, 0, none⟩)] W fun e w' => KeepsOthers W w' ∧
      ((e = .returned (.tuple #[.slice none 0 0, .bool false]) ∧ w' = W ∧ m = (dec P).1.length) ∨
      (∃ a n c xs, e = .returned (.tuple #[.slice a n c, .bool true]) ∧ NI W0 sb P (m + 1) bs w' ∧ w'.ownsRow 0 5 1 (.slice a n c) xs.length (bv xs) ∧ (dec P).1[m]? = some xs)) := by
  obtain ⟨rv, fv, fs, h⟩ := h
  refine (ne_take h).mono ?_
  rintro e w' ⟨hk, (h1 | ⟨a, n, c, xs, fv', fs', h1, h2, h3, h4⟩)⟩
  · exact ⟨hk, .inl h1⟩
  · exact ⟨hk, .inr ⟨a, n, c, xs, h1, ⟨rv, fv', fs', h2⟩, h3, h4⟩⟩

/-! ### a range over the bodies -/
variable (W0 : World) (sb : Nat) (Pf : Nat → List Int) (bf : Nat → List Bx) (g : Nat → Prop) (Z : World → Prop)
def LI (m : Nat) (W : World) : Prop := NI W0 sb (Pf m) m (bf m) W ∧ g m ∧ Z W
def LY (m : Nat) (x : Value) (W : World) : Prop := ∃ a n c xs, x = .slice a n c ∧ NI W0 sb (Pf m) (m + 1) (bf m) W ∧ W.ownsRow 0 5 1 (.slice a n c) xs.length (bv xs) ∧ (dec (Pf m)).1[m]? = some xs ∧ g m ∧ Z W
def LE (W : World) : Prop := ∃ m, m = (dec (Pf m)).1.length ∧ NI W0 sb (Pf m) m (bf m) W ∧ g m ∧ Z W
def LN (T : Nat) (m : Nat) (_ : Value) (m' : Nat) : Prop := m < m' ∧ m' ≤ T

variable {W0 sb Pf bf g Z}

theorem LI.own {B : Nat} (hB : W0.heap.size ≤ B) (hZ : OwnFrom B (fun (_ : Unit) W => Z W)) : OwnFrom B (LI W0 sb Pf bf g Z) :=
  fun m A C row hs hg hr => ⟨hs.1.grown hB hg hr, hs.2.1, hZ () A C row hs.2.2 hg hr⟩
theorem LY.own {B : Nat} (hB : W0.heap.size ≤ B) (hZ : OwnFrom B (fun (_ : Unit) W => Z W)) (m : Nat) (x : Value) : OwnFrom B (fun (_ : Unit) W => LY W0 sb Pf bf g Z m x W) :=
  fun _ A C row hs hg hr => by
    obtain ⟨a, n, c, xs, hx, h1, h2, h3, h4, h5⟩ := hs
    refine ⟨a, n, c, xs, hx, h1.grown hB hg hr, owns_fr h2 (Fr.of_grown hg) (fun b hb e => ?_), h3, h4, hZ () A C row h5 hg hr⟩
    obtain ⟨_, o, ho, hc⟩ := hr b e
    obtain ⟨_, _, cur, hc'⟩ := owns_kind h2 b hb
    rw [hc'] at ho
    cases ho
    cases hc
theorem LE.own {B : Nat} (hB : W0.heap.size ≤ B) (hZ : OwnFrom B (fun (_ : Unit) W => Z W)) : OwnFrom B (fun (_ : Unit) W => LE W0 sb Pf bf g Z W) :=
  fun _ A C row hs hg hr => by
    obtain ⟨m, hm, h1, h2, h3⟩ := hs
    exact ⟨m, hm, h1.grown hB hg hr, h2, hZ () A C row h3 hg hr⟩

theorem ni_seq (n bb B T m0 : Nat) (X : Code → World → Prop) (hbb : ∀ m, (bb, .pointer (some ⟨sb, 0, none⟩), 47) ∈ bf m) (hZ : ∀ A C, KeepsOthers A C → Z A → Z C) :
    SeqSt Fence.wide n Try.prog 43 #[.pointer (some ⟨bb, 0, none⟩)] (fun v : Value => #[v]) B (LI W0 sb Pf bf g Z) (LY W0 sb Pf bf g Z) (LN T) X (LE W0 sb Pf bf g Z) m0 := by
  refine bodies_seq n (some ⟨sb, 0, none⟩) bb B _ _ _ _ _ m0 (fun m => T + 1 - m) ?_ ?_
  · rintro m w ⟨h1, h2, h3⟩
    refine ⟨(h1.cell (hbb m)).1, (ni_take h1).mono ?_⟩
    rintro e w' ⟨hk, (⟨rfl, rfl, hm⟩ | ⟨a, n, c, xs, rfl, h4, h5, h6⟩)⟩
    · exact ⟨hk, .inl ⟨rfl, m, hm, h1, h2, h3⟩⟩
    · exact ⟨hk, .inr ⟨a, n, c, rfl, a, n, c, xs, rfl, h4, h5, h6, h2, hZ _ _ hk h3⟩⟩
  · rintro m x m' ⟨h1, h2⟩
    omega

theorem keeps_deferred {D : Nat} : ∀ A C : World, KeepsOthers A C → A.heap[D]? = some (.deferred (some [])) → C.heap[D]? = some (.deferred (some [])) :=
  fun A C hk h => hk.same _ _ h rfl
theorem own_deferred {D B : Nat} (hD : D < B) : OwnFrom B (fun (_ : Unit) (W : World) => W.heap[D]? = some (.deferred (some []))) :=
  fun _ A C row hs hg hr => (hg.block D (Array.getElem?_eq_some_iff.1 hs).1 (fun e => by have := (hr D e.symm).1; omega)).trans hs
end Go.Proofs.Ytdjibjmhjofedab
