/-
  What a ring keeps: the stamps follow one another, the views never fall, what is sure stays.
-/
import Derived.Test.YtonppfnjeomcoaaRHist
namespace Go.Proofs.Ytonppfnjeomcoaa
open Go.RowKit Classical
set_option linter.unusedVariables false
set_option linter.unusedSimpArgs false

structure RingT.Good (R : RingT) : Prop where
  st : ∀ k e, R.l[k]? = some e → e.s = ((R.floor + 1 + k : Nat) : Int)
  lo : ∀ e, R.l[0]? = some e → R.of ≤ e.v
  up : ∀ k e e', R.l[k]? = some e → R.l[k + 1]? = some e' → e.v ≤ e'.v
theorem top_of {R : RingT} (h : R.l.length = 0) : R.top = R.of := by
  unfold RingT.top
  rw [List.eq_nil_of_length_eq_zero h]
  rfl
theorem top_at {R : RingT} {e : EnT} {k : Nat} (h : R.l.length = k + 1) (he : R.l[k]? = some e) : R.top = e.v := by
  unfold RingT.top
  rw [List.getLast?_eq_getElem?, h, Nat.add_sub_cancel, he]
theorem RingT.Good.app {R : RingT} {e : EnT} (g : R.Good) (ok : R.Ok) (hm : R.may e = 0) : (R.app e).Good := by
  obtain ⟨z1, z2, z3, z4, z5⟩ := may_zero hm
  have hr := may_room ok hm
  have hlast : (R.last : Int) = R.floor + R.l.length := by show ((R.floor + R.l.length : Nat) : Int) = _; omega
  unfold RingT.app
  split
  · rename_i hf
    obtain ⟨hd, tl, htl⟩ : ∃ hd tl, R.l = hd :: tl := by
      cases hq : R.l with
      | nil => rw [hq] at hf; simp at hf; omega
      | cons a t => exact ⟨_, _, rfl⟩
    have hlen : R.l.length = tl.length + 1 := by rw [htl]; rfl
    have tlk : ∀ k e', tl[k]? = some e' → R.l[k + 1]? = some e' := fun k e' h => by rw [htl]; exact h
    have hbig : R.top ≤ e.v := by omega
    have topv : ∀ e', R.l[tl.length]? = some e' → e'.v ≤ e.v := fun e' he => by rw [top_at hlen he] at hbig; exact hbig
    refine ⟨fun k e' hk => ?_, fun e' he' => ?_, fun k e1 e2 h1 h2 => ?_⟩
    · show e'.s = ((R.floor + 1 + 1 + k : Nat) : Int)
      simp only [htl, List.tail_cons] at hk
      by_cases hkl : k < tl.length
      · rw [List.getElem?_append_left hkl] at hk
        rw [g.st (k + 1) e' (tlk k e' hk)]
        omega
      · rw [List.getElem?_append_right (by omega)] at hk
        have hk0 : k - tl.length = 0 := by
          have := (List.getElem?_eq_some_iff.1 hk).1
          simp at this; omega
        rw [hk0] at hk
        cases hk
        rw [z3, hlast, hlen]
        omega
    · show (R.l.head?.map (·.v)).getD 0 ≤ e'.v
      simp only [htl, List.tail_cons] at he' ⊢
      show hd.v ≤ e'.v
      cases tl with
      | nil =>
        cases he'
        exact topv hd (by rw [htl]; rfl)
      | cons a t =>
        cases he'
        exact g.up 0 hd _ (by rw [htl]; rfl) (by rw [htl]; rfl)
    · simp only [htl, List.tail_cons] at h1 h2
      have hk1 : k + 1 < (tl ++ [e]).length := (List.getElem?_eq_some_iff.1 h2).1
      simp at hk1
      rw [List.getElem?_append_left hk1] at h1
      by_cases hk2 : k + 1 < tl.length
      · rw [List.getElem?_append_left hk2] at h2
        exact g.up (k + 1) e1 e2 (tlk _ _ h1) (tlk _ _ h2)
      · rw [List.getElem?_append_right (by omega), show k + 1 - tl.length = 0 by omega] at h2
        cases h2
        exact topv e1 (by rw [show tl.length = k + 1 by omega]; exact tlk _ _ h1)
  · rename_i hf
    have topv : ∀ k e', R.l.length = k + 1 → R.l[k]? = some e' → e'.v ≤ e.v := fun k e' hl he => by rw [top_at hl he] at z4; omega
    refine ⟨fun k e' hk => ?_, fun e' he' => ?_, fun k e1 e2 h1 h2 => ?_⟩
    · show e'.s = ((R.floor + 1 + k : Nat) : Int)
      simp only at hk
      by_cases hkl : k < R.l.length
      · rw [List.getElem?_append_left hkl] at hk
        exact g.st k e' hk
      · rw [List.getElem?_append_right (by omega)] at hk
        have hk0 : k - R.l.length = 0 := by
          have := (List.getElem?_eq_some_iff.1 hk).1
          simp at this; omega
        rw [hk0] at hk
        cases hk
        rw [z3, hlast]
        omega
    · show R.of ≤ e'.v
      simp only at he'
      by_cases hl : R.l.length = 0
      · rw [List.getElem?_append_right (by omega), hl] at he'
        cases he'
        rw [top_of hl] at z4
        omega
      · rw [List.getElem?_append_left (by omega)] at he'
        exact g.lo e' he'
    · simp only at h1 h2
      have hk1 : k + 1 < (R.l ++ [e]).length := (List.getElem?_eq_some_iff.1 h2).1
      simp at hk1
      rw [List.getElem?_append_left hk1] at h1
      by_cases hk2 : k + 1 < R.l.length
      · rw [List.getElem?_append_left hk2] at h2
        exact g.up k e1 e2 h1 h2
      · rw [List.getElem?_append_right (by omega), show k + 1 - R.l.length = 0 by omega] at h2
        cases h2
        exact topv k e1 (by omega) h1
theorem take_some {l : List EnT} {n k : Nat} {e : EnT} (h : (l.take n)[k]? = some e) : l[k]? = some e ∧ k < n := by
  have h1 := (List.getElem?_eq_some_iff.1 h).1
  rw [List.length_take] at h1
  have h2 : k < n := by omega
  rw [List.getElem?_take_of_lt h2] at h
  exact ⟨h, h2⟩
theorem RingT.Good.cut {R : RingT} {n : Int} (g : R.Good) : (R.cut n).Good :=
  ⟨fun k e h => g.st k e (take_some h).1, fun e h => g.lo e (take_some h).1, fun k e e' h h' => g.up k e e' (take_some h).1 (take_some h').1⟩
theorem RingT.Good.held {R : RingT} {n : Nat} (g : R.Good) : ({ R with hold := n } : RingT).Good := ⟨g.st, g.lo, g.up⟩
/-- Entries that stay, as long as they are there. -/
def Sure (R : RingT) (L : List EnT) : Prop := ∀ e ∈ L, e.s ≤ R.hold ∧ ∀ k : Nat, (k : Int) = e.s - R.floor - 1 → R.l[k]? = some e
theorem Sure.app {R : RingT} {L : List EnT} {e : EnT} (s : Sure R L) (ok : R.Ok) (hm : R.may e = 0) : Sure (R.app e) L := by
  intro x hx
  obtain ⟨h1, h2⟩ := s x hx
  have hhi : R.hold ≤ R.floor + R.l.length := ok.high
  unfold RingT.app
  split
  · refine ⟨h1, fun k hk => ?_⟩
    have hk' : (k : Int) = x.s - (R.floor + 1) - 1 := by
      have : (((R.floor + 1 : Nat) : Int)) = R.floor + 1 := by omega
      rw [← this]; exact hk
    have h3 := h2 (k + 1) (by omega)
    have h4 := (List.getElem?_eq_some_iff.1 h3).1
    show (R.l.tail ++ [e])[k]? = some x
    rw [List.getElem?_append_left (by rw [List.length_tail]; omega), List.getElem?_tail]
    exact h3
  · refine ⟨h1, fun k hk => ?_⟩
    have h3 := h2 k hk
    have h4 := (List.getElem?_eq_some_iff.1 h3).1
    show (R.l ++ [e])[k]? = some x
    rw [List.getElem?_append_left h4]
    exact h3
theorem Sure.cut {R : RingT} {L : List EnT} {n : Int} (s : Sure R L) (hf : R.free n = 0) : Sure (R.cut n) L := by
  intro x hx
  obtain ⟨h1, h2⟩ := s x hx
  have h5 := (free_zero hf).1
  refine ⟨h1, fun k hk => ?_⟩
  have hk' : (k : Int) = x.s - R.floor - 1 := hk
  show (R.l.take (n - R.floor).toNat)[k]? = some x
  rw [List.getElem?_take_of_lt (by omega)]
  exact h2 k hk'
theorem Sure.held {R : RingT} {L : List EnT} {n : Int} (s : Sure R L) (hf : R.free n = 0) : Sure { R with hold := n.toNat } L := by
  intro x hx
  obtain ⟨h1, h2⟩ := s x hx
  have h5 := (free_zero hf).1
  exact ⟨by show x.s ≤ ((n.toNat : Nat) : Int); omega, h2⟩
theorem Sure.new {R : RingT} (g : R.Good) : Sure R (R.l.take (R.hold - R.floor)) := by
  intro x hx
  obtain ⟨j, hj⟩ := List.getElem?_of_mem hx
  obtain ⟨h1, h2⟩ := take_some hj
  have h3 := g.st j x h1
  refine ⟨by omega, fun k hk => ?_⟩
  rw [show k = j by omega]
  exact h1
/-- What an act leaves. -/
theorem acted_keeps {A : ActT} {held h' : Int} {R R' : RingT} {t : Bool} {L : List EnT} (ok : R.Ok) (g : R.Good) (s : Sure R L) (hh : held = R.hold) (d : Acted A held R t h' R') : R'.Good ∧ Sure R' L ∧ h' = R'.hold ∧ R.floor ≤ R'.floor ∧ held ≤ h' ∧ R'.room = R.room := by
  by_cases k12 : A.kd = 1 ∨ A.kd = 2
  · obtain ⟨q1, e, -, -, -, et, ef⟩ := d.app k12
    cases t with
    | true =>
      obtain ⟨m1, rfl⟩ := et rfl
      have a1 : (R.app e).hold = R.hold ∧ R.floor ≤ (R.app e).floor ∧ (R.app e).room = R.room := by
        unfold RingT.app
        split
        · exact ⟨rfl, Nat.le_succ _, rfl⟩
        · exact ⟨rfl, Nat.le_refl _, rfl⟩
      exact ⟨g.app ok m1, s.app ok m1, by rw [a1.1, q1, hh], a1.2.1, by rw [q1]; exact Int.le_refl _, a1.2.2⟩
    | false =>
      obtain ⟨-, rfl⟩ := ef rfl
      exact ⟨g, s, by rw [q1, hh], Nat.le_refl _, by rw [q1]; exact Int.le_refl _, rfl⟩
  by_cases k34 : A.kd = 3 ∨ A.kd = 4
  · obtain ⟨n, -, -, et, ef⟩ := d.hold k34
    cases t with
    | true =>
      obtain ⟨m1, q1, rfl⟩ := et rfl
      have h5 := (free_zero m1).1
      exact ⟨g.held, s.held m1, by rw [q1]; show n = ((n.toNat : Nat) : Int); omega, Nat.le_refl _, by rw [q1, hh]; exact h5, rfl⟩
    | false =>
      obtain ⟨-, q1, rfl⟩ := ef rfl
      exact ⟨g, s, by rw [q1, hh], Nat.le_refl _, by rw [q1]; exact Int.le_refl _, rfl⟩
  by_cases k56 : A.kd = 5 ∨ A.kd = 6
  · obtain ⟨q1, n, -, -, et, ef⟩ := d.cut k56
    cases t with
    | true =>
      obtain ⟨m1, rfl⟩ := et rfl
      exact ⟨g.cut, s.cut m1, by rw [q1, hh]; rfl, Nat.le_refl _, by rw [q1]; exact Int.le_refl _, rfl⟩
    | false =>
      obtain ⟨-, rfl⟩ := ef rfl
      exact ⟨g, s, by rw [q1, hh], Nat.le_refl _, by rw [q1]; exact Int.le_refl _, rfl⟩
  obtain ⟨-, q1, rfl⟩ := d.other (by omega) (by omega) (by omega) (by omega) (by omega) (by omega)
  exact ⟨g, s, by rw [q1, hh], Nat.le_refl _, by rw [q1]; exact Int.le_refl _, rfl⟩
end Go.Proofs.Ytonppfnjeomcoaa
