/-
  Two rings of one history.
-/
import Derived.Test.YtonppfnjeomcoaaRDidA
namespace Go.Proofs.Ytonppfnjeomcoaa
open Go.RowKit Classical
set_option linter.unusedVariables false
set_option linter.unusedSimpArgs false

/-- The view of the one at a place of the history. -/
def vAt (O : Int) (H : List EnT) : Nat → Int
  | 0 => O
  | k + 1 => (H[k]?.map (·.v)).getD 0
theorem vAt_succ (O : Int) (H : List EnT) (k : Nat) : vAt O H (k + 1) = (H[k]?.map (·.v)).getD 0 := rfl
structure Hist (F : Nat) (O : Int) (H : List EnT) (R : RingT) : Prop where
  lo : F ≤ R.floor
  hi : R.floor ≤ F + H.length
  l : R.l = H.drop (R.floor - F)
  of : R.of = vAt O H (R.floor - F)
theorem vAt_append {O : Int} {H : List EnT} {e : EnT} {k : Nat} (h : k ≤ H.length) : vAt O (H ++ [e]) k = vAt O H k := by
  cases k with
  | zero => rfl
  | succ k => rw [vAt_succ, vAt_succ, List.getElem?_append_left (show k < H.length by omega)]
theorem vAt_take {O : Int} {H : List EnT} {k n : Nat} (h : k ≤ n) : vAt O (H.take n) k = vAt O H k := by
  cases k with
  | zero => rfl
  | succ k => rw [vAt_succ, vAt_succ, List.getElem?_take_of_lt (show k < n by omega)]
theorem Hist.last {F : Nat} {O : Int} {H : List EnT} {R : RingT} (h : Hist F O H R) : R.last = F + H.length := by
  have h1 := h.lo
  have h2 := h.hi
  show R.floor + R.l.length = _
  rw [h.l, List.length_drop]
  omega
theorem Hist.top {F : Nat} {O : Int} {H : List EnT} {R : RingT} (h : Hist F O H R) : R.top = vAt O H H.length := by
  have h1 := h.lo
  have h2 := h.hi
  unfold RingT.top
  cases hl : R.l.getLast? with
  | none =>
    have h3 : R.l = [] := List.getLast?_eq_none_iff.1 hl
    have h4 := h.l
    rw [h3] at h4
    have h5 := congrArg List.length h4
    rw [List.length_drop] at h5
    simp only [List.length_nil] at h5
    show R.of = _
    rw [h.of]
    congr 1
    omega
  | some e =>
    show e.v = _
    rw [h.l, List.getLast?_drop] at hl
    split at hl
    · cases hl
    · rename_i h3
      rw [List.getLast?_eq_getElem?] at hl
      obtain ⟨m, hm⟩ : ∃ m, H.length = m + 1 := ⟨H.length - 1, by omega⟩
      rw [hm] at hl ⊢
      simp only [Nat.add_sub_cancel] at hl
      rw [vAt_succ, hl]
      rfl
theorem Hist.app {F : Nat} {O : Int} {H : List EnT} {R : RingT} {e : EnT} (h : Hist F O H R) (ok : R.Ok) (hm : R.may e = 0) : Hist F O (H ++ [e]) (R.app e) := by
  have h1 := h.lo
  have h2 := h.hi
  have h3 := h.l
  have hr := may_room ok hm
  unfold RingT.app
  split
  · rename_i hf
    have hl : 0 < R.l.length := by omega
    rw [h3, List.length_drop] at hl
    have hd : R.floor - F < H.length := by omega
    refine ⟨by show F ≤ R.floor + 1; omega, by show R.floor + 1 ≤ _; rw [List.length_append]; simp; omega, ?_, ?_⟩
    · show R.l.tail ++ [e] = (H ++ [e]).drop (R.floor + 1 - F)
      rw [h3, List.tail_drop, show R.floor + 1 - F = R.floor - F + 1 by omega, List.drop_append_of_le_length (show R.floor - F + 1 ≤ H.length by omega)]
    · show (R.l.head?.map (·.v)).getD 0 = vAt O (H ++ [e]) (R.floor + 1 - F)
      rw [show R.floor + 1 - F = R.floor - F + 1 by omega, vAt_append (show R.floor - F + 1 ≤ H.length by omega), h3, List.head?_drop]
      rfl
  · refine ⟨h1, by show R.floor ≤ F + (H ++ [e]).length; rw [List.length_append]; omega, ?_, ?_⟩
    · show R.l ++ [e] = _
      rw [h3, List.drop_append_of_le_length (show R.floor - F ≤ H.length by omega)]
    · show R.of = _
      show R.of = vAt O (H ++ [e]) (R.floor - F)
      rw [vAt_append (show R.floor - F ≤ H.length by omega), h.of]
theorem free_zero {R : RingT} {n : Int} (h : R.free n = 0) : (R.hold : Int) ≤ n ∧ n ≤ R.last := by
  unfold RingT.free at h
  split at h
  · cases h
  · split at h
    · cases h
    · exact ⟨by omega, by omega⟩
theorem Hist.cut {F : Nat} {O : Int} {H : List EnT} {R : RingT} {n : Int} (h : Hist F O H R) (ok : R.Ok) (hf : R.free n = 0) : Hist F O (H.take (n - F).toNat) (R.cut n) := by
  have h1 := h.lo
  have h2 := h.hi
  have h3 := h.l
  have h4 := ok.low
  obtain ⟨h5, h6⟩ := free_zero hf
  rw [h.last] at h6
  refine ⟨h1, ?_, ?_, ?_⟩
  · show R.floor ≤ _
    rw [List.length_take]; omega
  · show R.l.take (n - R.floor).toNat = (H.take (n - F).toNat).drop (R.floor - F)
    rw [h3, List.drop_take]
    congr 1
    omega
  · show R.of = _
    rw [vAt_take (by show R.floor - F ≤ _; omega), h.of]
    rfl
theorem Hist.held {F : Nat} {O : Int} {H : List EnT} {R : RingT} {n : Nat} (h : Hist F O H R) : Hist F O H { R with hold := n } := ⟨h.lo, h.hi, h.l, h.of⟩
/-- The same entries above the higher floor. -/
theorem Hist.tails {F : Nat} {O : Int} {H : List EnT} {R S : RingT} (h : Hist F O H R) (g : Hist F O H S) {n : Nat} (h1 : n ≤ R.l.length) (h2 : n ≤ S.l.length) : R.l.drop (R.l.length - n) = S.l.drop (S.l.length - n) := by
  have a1 := h.lo
  have a2 := h.hi
  have b1 := g.lo
  have b2 := g.hi
  have a3 : R.l.length = H.length - (R.floor - F) := by rw [h.l, List.length_drop]
  have b3 : S.l.length = H.length - (S.floor - F) := by rw [g.l, List.length_drop]
  rw [a3, b3, h.l, g.l, List.drop_drop, List.drop_drop]
  congr 1
  omega
/-- Two rings, one history, one hold. -/
structure Both (F : Nat) (O : Int) (R S : RingT) (held : Int) : Prop where
  hist : ∃ H, Hist F O H R ∧ Hist F O H S
  hold : R.hold = S.hold
  held : held = R.hold
theorem both_step {F : Nat} {O : Int} {R S R' S' : RingT} {held h h' : Int} {A : ActT} {t t' : Bool} (hb : Both F O R S held) (ok : R.Ok) (ok' : S.Ok) (d : Acted A held R t h R') (d' : Acted A held S t' h' S') : (t ≠ t' → A.kd = 1 ∨ A.kd = 2) ∧ (t = t' → h = h' ∧ Both F O R' S' h) := by
  obtain ⟨⟨H, hr, hs⟩, hh, hd⟩ := hb
  have hlast : R.last = S.last := by rw [hr.last, hs.last]
  have htop : R.top = S.top := by rw [hr.top, hs.top]
  have hfree : ∀ n, R.free n = S.free n := fun n => by unfold RingT.free; rw [hlast, hh]
  by_cases k12 : A.kd = 1 ∨ A.kd = 2
  · refine ⟨fun _ => k12, fun ht => ?_⟩
    subst ht
    obtain ⟨q1, e, e1, e2, -, et, ef⟩ := d.app k12
    obtain ⟨q1', e', e1', e2', -, et', ef'⟩ := d'.app k12
    have he : e = e' := by
      rcases k12 with k | k
      · rw [e1 k, e1' k, hlast, htop]
      · rw [e2 k, e2' k]
    subst he
    refine ⟨by rw [q1, q1'], ?_⟩
    rw [q1]
    cases t with
    | true =>
      obtain ⟨m1, rfl⟩ := et rfl
      obtain ⟨m2, rfl⟩ := et' rfl
      have a1 : ∀ (R : RingT) (e : EnT), (R.app e).hold = R.hold := fun R e => by unfold RingT.app; split <;> rfl
      exact ⟨⟨_, hr.app ok m1, hs.app ok' m2⟩, by rw [a1, a1, hh], by rw [a1, hd]⟩
    | false =>
      obtain ⟨-, rfl⟩ := ef rfl
      obtain ⟨-, rfl⟩ := ef' rfl
      exact ⟨⟨H, hr, hs⟩, hh, hd⟩
  by_cases k34 : A.kd = 3 ∨ A.kd = 4
  · obtain ⟨n, e1, e2, et, ef⟩ := d.hold k34
    obtain ⟨n', e1', e2', et', ef'⟩ := d'.hold k34
    have he : n = n' := by
      rcases k34 with k | k
      · rw [e1 k, e1' k]
      · rw [e2 k, e2' k]
    subst he
    have hn := hfree n
    cases t with
    | true =>
      obtain ⟨m1, rfl, rfl⟩ := et rfl
      cases t' with
      | true =>
        obtain ⟨m2, rfl, rfl⟩ := et' rfl
        refine ⟨fun h => absurd rfl h, fun _ => ⟨rfl, ⟨H, hr.held, hs.held⟩, rfl, ?_⟩⟩
        have := (free_zero m1).1
        show _ = ((Int.toNat _ : Nat) : Int)
        omega
      | false =>
        obtain ⟨m2, -⟩ := ef' rfl
        exact absurd (by rw [← hn]; exact m1) m2
    | false =>
      obtain ⟨m1, rfl, rfl⟩ := ef rfl
      cases t' with
      | true =>
        obtain ⟨m2, -⟩ := et' rfl
        exact absurd (by rw [hn]; exact m2) m1
      | false =>
        obtain ⟨-, rfl, rfl⟩ := ef' rfl
        exact ⟨fun h => absurd rfl h, fun _ => ⟨rfl, ⟨H, hr, hs⟩, hh, hd⟩⟩
  by_cases k56 : A.kd = 5 ∨ A.kd = 6
  · obtain ⟨q1, n, e1, e2, et, ef⟩ := d.cut k56
    obtain ⟨q1', n', e1', e2', et', ef'⟩ := d'.cut k56
    have he : n = n' := by
      rcases k56 with k | k
      · rw [e1 k, e1' k, hlast]
      · rw [e2 k, e2' k]
    subst he
    subst q1
    subst q1'
    have hn := hfree n
    cases t with
    | true =>
      obtain ⟨m1, rfl⟩ := et rfl
      cases t' with
      | true =>
        obtain ⟨m2, rfl⟩ := et' rfl
        exact ⟨fun h => absurd rfl h, fun _ => ⟨rfl, ⟨_, hr.cut ok m1, hs.cut ok' m2⟩, hh, hd⟩⟩
      | false =>
        obtain ⟨m2, -⟩ := ef' rfl
        exact absurd (by rw [← hn]; exact m1) m2
    | false =>
      obtain ⟨m1, rfl⟩ := ef rfl
      cases t' with
      | true =>
        obtain ⟨m2, -⟩ := et' rfl
        exact absurd (by rw [hn]; exact m2) m1
      | false =>
        obtain ⟨-, rfl⟩ := ef' rfl
        exact ⟨fun h => absurd rfl h, fun _ => ⟨rfl, ⟨H, hr, hs⟩, hh, hd⟩⟩
  obtain ⟨rfl, rfl, rfl⟩ := d.other (by omega) (by omega) (by omega) (by omega) (by omega) (by omega)
  obtain ⟨rfl, rfl, rfl⟩ := d'.other (by omega) (by omega) (by omega) (by omega) (by omega) (by omega)
  exact ⟨fun h => absurd rfl h, fun _ => ⟨rfl, ⟨H, hr, hs⟩, hh, hd⟩⟩
end Go.Proofs.Ytonppfnjeomcoaa
