/-
  ring: an entry is put behind the others.
-/
import Derived.Test.YtnmengoefpdaiaaRMay
namespace Go.Proofs.Ytnmengoefpdaiaa
open Go.RowKit
set_option linter.unusedVariables false
set_option linter.unusedSimpArgs false

def RingT.app (R : RingT) (e : EnT) : RingT := if R.l.length = R.room then { R with floor := R.floor + 1, of := (R.l.head?.map (·.v)).getD 0, l := R.l.tail ++ [e] } else { R with l := R.l ++ [e] }
theorem may_zero {R : RingT} {e : EnT} (h : R.may e = 0) : R.last ≠ 2147483647 ∧ (0 ≤ e.v ∧ e.v ≤ 2147483647) ∧ e.s = (R.last : Int) + 1 ∧ ¬ e.v < R.top ∧ ¬ (R.l.length = R.room ∧ R.hold = R.floor) := by
  unfold RingT.may at h
  split at h
  · cases h
  · rename_i h1
    split at h
    · cases h
    · rename_i h2
      split at h
      · cases h
      · rename_i h3
        split at h
        · cases h
        · rename_i h4
          exact ⟨fun e => h1 (.inl e), Decidable.byContradiction (fun n => h1 (.inr n)), Decidable.byContradiction h2, h3, h4⟩
theorem may_room {R : RingT} {e : EnT} (ok : R.Ok) (h : R.may e = 0) : 0 < R.room := by
  have h1 := (may_zero h).2.2.2.2
  have h2 := ok.fits
  have h3 := ok.low
  have h4 : R.hold ≤ R.floor + R.l.length := ok.high
  rcases Nat.eq_zero_or_pos R.room with h0 | h0
  · exact absurd ⟨by omega, by omega⟩ h1
  · exact h0
theorem mod_ne {a b m : Nat} (h : a < b) (hm : b - a < m) : a % m ≠ b % m := by
  intro e
  have h1 : (b - a) % m = 0 := Nat.sub_mod_eq_zero_of_mod_eq e.symm
  rw [Nat.mod_eq_of_lt hm] at h1
  omega
theorem cell_ne {w : World} {b i j : Nat} {v : Value} (h : i ≠ j) : (w.setCell ⟨b, i, none⟩ v).cell? ⟨b, j, none⟩ = w.cell? ⟨b, j, none⟩ := World.cell?_setCell_other _ _ _ _ (by intro e; injection e with _ e _; exact h e)
theorem six_cells {w : World} {b o : Nat} {cs : Array Value} {t : TypeId} {fr : Nat × Nat} (h : w.heap[b]? = some (.cells cs t fr)) (ho : o + 6 ≤ cs.size) : ∃ y0 y1 y2 y3 y4 y5, w.cell? ⟨b, o, none⟩ = some y0 ∧ w.cell? ⟨b, o + 1, none⟩ = some y1 ∧ w.cell? ⟨b, o + 2, none⟩ = some y2 ∧ w.cell? ⟨b, o + 3, none⟩ = some y3 ∧ w.cell? ⟨b, o + 4, none⟩ = some y4 ∧ w.cell? ⟨b, o + 5, none⟩ = some y5 :=
  ⟨cs[o], cs[o + 1], cs[o + 2], cs[o + 3], cs[o + 4], cs[o + 5], by rw [cell_blk h]; exact Array.getElem?_eq_getElem _, by rw [cell_blk h]; exact Array.getElem?_eq_getElem _, by rw [cell_blk h]; exact Array.getElem?_eq_getElem _, by rw [cell_blk h]; exact Array.getElem?_eq_getElem _, by rw [cell_blk h]; exact Array.getElem?_eq_getElem _, by rw [cell_blk h]; exact Array.getElem?_eq_getElem _⟩

/-- Six cells from o on. -/
abbrev putE (w : World) (b o : Nat) (x0 x1 x2 x3 x4 x5 : Value) : World := ((((((w.setCell ⟨b, o, none⟩ x0).setCell ⟨b, o + 1, none⟩ x1).setCell ⟨b, o + 2, none⟩ x2).setCell ⟨b, o + 3, none⟩ x3).setCell ⟨b, o + 4, none⟩ x4).setCell ⟨b, o + 5, none⟩ x5)
theorem putE_box {w : World} {b o : Nat} {cs : Array Value} {t : TypeId} {x0 x1 x2 x3 x4 x5 : Value} (h : w.heap[b]? = some (.cells cs t (0, 0))) : (putE w b o x0 x1 x2 x3 x4 x5).heap[b]? = some (.cells ((((((cs.setIfInBounds o x0).setIfInBounds (o + 1) x1).setIfInBounds (o + 2) x2).setIfInBounds (o + 3) x3).setIfInBounds (o + 4) x4).setIfInBounds (o + 5) x5) t (0, 0)) :=
  heap_setCell_same _ _ _ _ _ _ (heap_setCell_same _ _ _ _ _ _ (heap_setCell_same _ _ _ _ _ _ (heap_setCell_same _ _ _ _ _ _ (heap_setCell_same _ _ _ _ _ _ (heap_setCell_same _ _ _ _ _ _ h)))))
theorem putE_out {w : World} {b o i : Nat} {x0 x1 x2 x3 x4 x5 : Value} (h : i < o ∨ o + 6 ≤ i) : (putE w b o x0 x1 x2 x3 x4 x5).cell? ⟨b, i, none⟩ = w.cell? ⟨b, i, none⟩ := by
  unfold putE
  rw [cell_ne (by omega), cell_ne (by omega), cell_ne (by omega), cell_ne (by omega), cell_ne (by omega), cell_ne (by omega)]
theorem putE_in {w : World} {b o : Nat} {cs : Array Value} {t : TypeId} {x0 x1 x2 x3 x4 x5 : Value} (h : w.heap[b]? = some (.cells cs t (0, 0))) (ho : o + 6 ≤ cs.size) : ∀ j v, [x0, x1, x2, x3, x4, x5][j]? = some v → (putE w b o x0 x1 x2 x3 x4 x5).cell? ⟨b, o + j, none⟩ = some v := by
  intro j v hv
  rw [cell_blk (putE_box h)]
  match j, hv with
  | 0, hv => simp at hv; subst hv; simp [Array.getElem?_setIfInBounds]; omega
  | 1, hv => simp at hv; subst hv; simp [Array.getElem?_setIfInBounds]; omega
  | 2, hv => simp at hv; subst hv; simp [Array.getElem?_setIfInBounds]; omega
  | 3, hv => simp at hv; subst hv; simp [Array.getElem?_setIfInBounds]; omega
  | 4, hv => simp at hv; subst hv; simp [Array.getElem?_setIfInBounds]; omega
  | 5, hv => simp at hv; subst hv; simp [Array.getElem?_setIfInBounds]; omega
  | j + 6, hv => simp at hv
theorem chg_set1 (w : World) (b o : Nat) (v : Value) : Chg w (w.setCell ⟨b, o, none⟩ v) (fun k => k = b) := Chg.set _ _ _
theorem putE_chg (w : World) (b o : Nat) (x0 x1 x2 x3 x4 x5 : Value) : Chg w (putE w b o x0 x1 x2 x3 x4 x5) (fun k => k = b) :=
  (((((chg_set1 _ _ _ _).trans (chg_set1 _ _ _ _)).trans (chg_set1 _ _ _ _)).trans (chg_set1 _ _ _ _)).trans (chg_set1 _ _ _ _)).trans (chg_set1 _ _ _ _)

theorem RingAt.pushed {w W : World} {b : Nat} {R : RingT} {e : EnT} {x : Value} (h : RingAt w b R) (hc : R.may e = 0) (hs : e.Small) (hchg : Chg w W (fun k => k = b)) (hbox : ∃ cs : Array Value, W.heap[b]? = some (.cells cs 61 (0, 0)) ∧ cs.size = 389) (hx : OwnOps W x e.ops)
    (hout : ∀ i v, (i < (R.last + 1) % R.room * 6 ∨ (R.last + 1) % R.room * 6 + 6 ≤ i) → i ≠ 385 → i ≠ 386 → i ≠ 388 → w.cell? ⟨b, i, none⟩ = some v → W.cell? ⟨b, i, none⟩ = some v)
    (hin : ∀ j v, (PEnt.cells ⟨e, x⟩)[j]? = some v → W.cell? ⟨b, (R.last + 1) % R.room * 6 + j, none⟩ = some v)
    (h5 : W.cell? ⟨b, 385, none⟩ = some (.int .i64 (R.app e).floor)) (h6 : W.cell? ⟨b, 386, none⟩ = some (.int .i64 (R.app e).of)) (h8 : W.cell? ⟨b, 388, none⟩ = some (.int .i64 (R.last + 1 : Nat))) : RingAt W b (R.app e) := by
  have hr := may_room h.ok hc
  have hz := may_zero hc
  have hrm := h.ok.room
  have hf := h.ok.fits
  have hlo := h.ok.low
  have hhi : R.hold ≤ R.floor + R.l.length := h.ok.high
  have hmx : R.floor + R.l.length ≤ 2147483647 := h.ok.max
  have hlm : R.floor + R.l.length ≠ 2147483647 := hz.1
  have hS : (R.last + 1) % R.room < R.room := Nat.mod_lt _ hr
  have hlast : R.last + 1 = R.floor + 1 + R.l.length := by show R.floor + R.l.length + 1 = _; omega
  have keep : ∀ k e', R.l[k]? = some e' → (R.floor + 1 + k) % R.room ≠ (R.last + 1) % R.room → ∃ x, OwnOps W x e'.ops ∧ ∀ j v, (PEnt.cells ⟨e', x⟩)[j]? = some v → W.cell? ⟨b, (R.floor + 1 + k) % R.room * 6 + j, none⟩ = some v := fun k e' hk hne => by
    obtain ⟨x', ho', hv'⟩ := h.ents k e' hk
    refine ⟨x', owns_chg ho' hchg (fun q hq e => h.ne ho' hq e), fun j v hj => ?_⟩
    have hj6 : j < 6 := (List.getElem?_eq_some_iff.1 hj).1
    have hm : (R.floor + 1 + k) % R.room < R.room := Nat.mod_lt _ hr
    exact hout _ _ (by omega) (by omega) (by omega) (by omega) (hv' j v hj)
  unfold RingT.app at h5 h6 ⊢
  by_cases hl : R.l.length = R.room
  · rw [if_pos hl] at h5 h6 ⊢
    obtain ⟨hd, tl, htl⟩ : ∃ hd tl, R.l = hd :: tl := by
      cases hq : R.l with
      | nil => rw [hq] at hl; simp at hl; omega
      | cons a t => exact ⟨_, _, rfl⟩
    have hlen : tl.length + 1 = R.room := by rw [← hl, htl]; rfl
    have hh : R.hold ≠ R.floor := fun e => hz.2.2.2.2 ⟨hl, e⟩
    refine ⟨⟨hrm, ?_, ?_, ?_, ?_, ?_⟩, hbox, hout _ _ (by omega) (by decide) (by decide) (by decide) h.room, h5, h6, hout _ _ (by omega) (by decide) (by decide) (by decide) h.hold, ?_, ?_⟩
    · rw [htl]; simp; omega
    · show R.floor + 1 ≤ R.hold; omega
    · show R.hold ≤ R.floor + 1 + (R.l.tail ++ [e]).length; rw [htl]; simp; omega
    · show R.floor + 1 + (R.l.tail ++ [e]).length ≤ 2147483647; rw [htl]; simp; omega
    · intro e' he'
      rw [htl] at he'
      simp only [List.tail_cons, List.mem_append, List.mem_singleton] at he'
      rcases he' with he' | rfl
      · exact h.ok.small e' (by rw [htl]; exact .tail _ he')
      · exact hs
    · show _ = some (Value.int .i64 ((R.floor + 1 + (R.l.tail ++ [e]).length : Nat) : Int))
      rw [h8]
      congr 3
      show R.floor + R.l.length + 1 = _
      rw [htl]; simp; omega
    · intro k e' hk
      rw [htl] at hk
      simp only [List.tail_cons] at hk
      by_cases hkl : k < tl.length
      · rw [List.getElem?_append_left hkl] at hk
        have := keep (k + 1) e' (by rw [htl]; exact hk) (by rw [hlast]; exact mod_ne (by omega) (by omega))
        rw [show R.floor + 1 + (k + 1) = R.floor + 1 + 1 + k by omega] at this
        exact this
      · rw [List.getElem?_append_right (by omega)] at hk
        have hk0 : k - tl.length = 0 := by
          have := (List.getElem?_eq_some_iff.1 hk).1
          simp at this; omega
        rw [hk0] at hk
        cases hk
        refine ⟨x, hx, fun j v hj => ?_⟩
        show W.cell? ⟨b, (R.floor + 1 + 1 + k) % R.room * 6 + j, none⟩ = some v
        rw [show R.floor + 1 + 1 + k = R.last + 1 by rw [hlast]; omega]
        exact hin j v hj
  · rw [if_neg hl] at h5 h6 ⊢
    refine ⟨⟨hrm, ?_, hlo, ?_, ?_, ?_⟩, hbox, hout _ _ (by omega) (by decide) (by decide) (by decide) h.room, h5, h6, hout _ _ (by omega) (by decide) (by decide) (by decide) h.hold, ?_, ?_⟩
    · simp; omega
    · show R.hold ≤ R.floor + (R.l ++ [e]).length; simp; omega
    · show R.floor + (R.l ++ [e]).length ≤ 2147483647; simp; omega
    · intro e' he'
      simp only [List.mem_append, List.mem_singleton] at he'
      rcases he' with he' | rfl
      · exact h.ok.small e' he'
      · exact hs
    · show _ = some (Value.int .i64 ((R.floor + (R.l ++ [e]).length : Nat) : Int))
      rw [h8]
      congr 3
      show R.floor + R.l.length + 1 = _
      simp; omega
    · intro k e' hk
      simp only at hk
      by_cases hkl : k < R.l.length
      · rw [List.getElem?_append_left hkl] at hk
        exact keep k e' hk (by rw [hlast]; exact mod_ne (by omega) (by omega))
      · rw [List.getElem?_append_right (by omega)] at hk
        have hk0 : k - R.l.length = 0 := by
          have := (List.getElem?_eq_some_iff.1 hk).1
          simp at this; omega
        rw [hk0] at hk
        cases hk
        refine ⟨x, hx, fun j v hj => ?_⟩
        show W.cell? ⟨b, (R.floor + 1 + k) % R.room * 6 + j, none⟩ = some v
        rw [show R.floor + 1 + k = R.last + 1 by rw [hlast]; omega]
        exact hin j v hj
end Go.Proofs.Ytnmengoefpdaiaa
