/-
  the law's own comparisons.
-/
import Derived.Test.YtnmengoefpdaiaaRAll
namespace Go.Proofs.Ytnmengoefpdaiaa
open Go.RowKit Classical
set_option linter.unusedVariables false
set_option linter.unusedSimpArgs false

theorem list_ne {x y : ByteArray} (h : x ≠ y) : (x.toList == y.toList) = false := by
  refine beq_eq_false_iff_ne.2 fun e => h ?_
  rw [ByteArray.toList_eq, ByteArray.toList_eq] at e
  obtain ⟨⟨x⟩⟩ := x
  obtain ⟨⟨y⟩⟩ := y
  simp at e
  rw [e]
theorem op_ne {x y : OpT} (h : x ≠ y) : ((x.k == y.k) = false) ∨ (x.k = y.k ∧ (x.p.toList == y.p.toList) = false) ∨ (x.k = y.k ∧ x.p = y.p ∧ (x.d.toList == y.d.toList) = false) ∨ (x.k = y.k ∧ x.p = y.p ∧ x.d = y.d ∧ (x.v == y.v) = false) ∨ (x.k = y.k ∧ x.p = y.p ∧ x.d = y.d ∧ x.v = y.v ∧ (x.f == y.f) = false) := by
  by_cases h0 : x.k = y.k
  · skip
    by_cases h1 : x.p = y.p
    · skip
      by_cases h2 : x.d = y.d
      · skip
        by_cases h3 : x.v = y.v
        · skip
          by_cases h4 : x.f = y.f
          · exact absurd (by cases x; cases y; simp_all) h
          · exact .inr (.inr (.inr (.inr (⟨h0, h1, h2, h3, by simpa using h4⟩))))
        · exact .inr (.inr (.inr (.inl (⟨h0, h1, h2, by simpa using h3⟩))))
      · exact .inr (.inr (.inl (⟨h0, h1, list_ne h2⟩)))
    · exact .inr (.inl (⟨h0, list_ne h1⟩))
  · exact .inl (by simpa using h0)
theorem part_ne {α : Type} {xs ys : List α} {k : Nat} {x y : α} (hx : xs[k]? = some x) (hy : ys[k]? = some y) (h : x ≠ y) : xs ≠ ys := by
  intro e
  subst e
  rw [hx] at hy
  exact h (Option.some.inj hy)
set_option maxHeartbeats 3200000 in
set_option maxRecDepth 100000 in
theorem sameOps_eq (a a' : Option Addr) (c c' n : Nat) (l l' : List OpT) (w : World) (hs : Os w a l) (ht : Os w a' l') (hn : l.length = n) (hn' : l'.length = n) (hl : n ≤ maxLen) :
    Calls Try.prog 37 #[.slice a n c, .slice a' n c'] w fun e w' => e = .returned (.bool (decide (l = l'))) ∧ Below w.heap.size w w' := by
  unfold maxLen at hl
  have HS : Hid (Os w a l) := hs
  have HT : Hid (Os w a' l') := ht
  clear hs ht
  go_enter Try.func37, Try.ntmps37
  go_wp2_with fail
  go_loopw [5] (fun i wr => ∃ q : Nat, i = .int .i64 q ∧ q ≤ n ∧ l.take q = l'.take q ∧ Hid (Below w.heap.size w wr)) (fun i _ => n - (intOf i).toNat)
  case atStart => exact ⟨0, rfl, Nat.zero_le _, rfl, Below.refl _ _⟩
  case round =>
    obtain ⟨q, rfl, hq, htk, HB⟩ := hrel
    by_cases hlt : q < n
    · obtain ⟨x, hx⟩ : ∃ x, l[q]? = some x := ⟨l[q], List.getElem?_eq_getElem (by omega)⟩
      obtain ⟨y, hy⟩ : ∃ y, l'[q]? = some y := ⟨l'[q]'(by omega), List.getElem?_eq_getElem _⟩
      obtain ⟨b, o, rfl, hb, x0, x1, x2, x3, x4⟩ := Os.at (HS.out.below HB.out) hx
      obtain ⟨b', o', rfl, hb', y0, y1, y2, y3, y4⟩ := Os.at (HT.out.below HB.out) hy
      have hlt' : (q : Int) < (n : Int) := by omega
      by_cases hxy : x = y
      · have HE : Hid (l.take (q + 1) = l'.take (q + 1)) := by
          show _ = _
          subst hxy
          rw [take_at hx, take_at hy, htk]
        subst hxy
        clear htk hx hy hn hn'
        go_wp2_with fail
        go_region_held3 (fun w' => w'.cell? ⟨b, o + q * 5, none⟩ = some (.int .i64 x.k) ∧ w'.cell? ⟨b, o + q * 5 + 1, none⟩ = some (.string x.p) ∧ w'.cell? ⟨b, o + q * 5 + 2, none⟩ = some (.string x.d) ∧ w'.cell? ⟨b, o + q * 5 + 3, none⟩ = some (.int .i64 x.v) ∧ w'.cell? ⟨b, o + q * 5 + 4, none⟩ = some (.int .i64 x.f) ∧ w'.cell? ⟨b', o' + q * 5, none⟩ = some (.int .i64 x.k) ∧ w'.cell? ⟨b', o' + q * 5 + 1, none⟩ = some (.string x.p) ∧ w'.cell? ⟨b', o' + q * 5 + 2, none⟩ = some (.string x.d) ∧ w'.cell? ⟨b', o' + q * 5 + 3, none⟩ = some (.int .i64 x.v) ∧ w'.cell? ⟨b', o' + q * 5 + 4, none⟩ = some (.int .i64 x.f)) (go_keep) (fail)
        go_wp2_with fail
        go_roundw
        case rel => exact ⟨q + 1, by go_num, by omega, HE.out, below_drew HB.out⟩
        case measure => simp [intOf]; omega
      · have hne : l ≠ l' := part_ne hx hy hxy
        clear htk hx hy
        rcases op_ne hxy with h1 | ⟨e0, h1⟩ | ⟨e0, e1, h1⟩ | ⟨e0, e1, e2, h1⟩ | ⟨e0, e1, e2, e3, h1⟩
        · go_wp2_with fail
          go_region_held3 (fun w' => w'.cell? ⟨b, o + q * 5, none⟩ = some (.int .i64 x.k) ∧ w'.cell? ⟨b, o + q * 5 + 1, none⟩ = some (.string x.p) ∧ w'.cell? ⟨b, o + q * 5 + 2, none⟩ = some (.string x.d) ∧ w'.cell? ⟨b, o + q * 5 + 3, none⟩ = some (.int .i64 x.v) ∧ w'.cell? ⟨b, o + q * 5 + 4, none⟩ = some (.int .i64 x.f) ∧ w'.cell? ⟨b', o' + q * 5, none⟩ = some (.int .i64 y.k) ∧ w'.cell? ⟨b', o' + q * 5 + 1, none⟩ = some (.string y.p) ∧ w'.cell? ⟨b', o' + q * 5 + 2, none⟩ = some (.string y.d) ∧ w'.cell? ⟨b', o' + q * 5 + 3, none⟩ = some (.int .i64 y.v) ∧ w'.cell? ⟨b', o' + q * 5 + 4, none⟩ = some (.int .i64 y.f)) (go_keep) (fail)
          go_wp2_with fail
          go_ret
          exact ⟨by rw [decide_eq_false hne]; rfl, below_drew HB.out⟩
        · rw [← e0] at y0
          go_wp2_with fail
          go_region_held3 (fun w' => w'.cell? ⟨b, o + q * 5, none⟩ = some (.int .i64 x.k) ∧ w'.cell? ⟨b, o + q * 5 + 1, none⟩ = some (.string x.p) ∧ w'.cell? ⟨b, o + q * 5 + 2, none⟩ = some (.string x.d) ∧ w'.cell? ⟨b, o + q * 5 + 3, none⟩ = some (.int .i64 x.v) ∧ w'.cell? ⟨b, o + q * 5 + 4, none⟩ = some (.int .i64 x.f) ∧ w'.cell? ⟨b', o' + q * 5, none⟩ = some (.int .i64 x.k) ∧ w'.cell? ⟨b', o' + q * 5 + 1, none⟩ = some (.string y.p) ∧ w'.cell? ⟨b', o' + q * 5 + 2, none⟩ = some (.string y.d) ∧ w'.cell? ⟨b', o' + q * 5 + 3, none⟩ = some (.int .i64 y.v) ∧ w'.cell? ⟨b', o' + q * 5 + 4, none⟩ = some (.int .i64 y.f)) (go_keep) (fail)
          go_wp2_with fail
          go_ret
          exact ⟨by rw [decide_eq_false hne]; rfl, below_drew HB.out⟩
        · rw [← e0] at y0
          rw [← e1] at y1
          go_wp2_with fail
          go_region_held3 (fun w' => w'.cell? ⟨b, o + q * 5, none⟩ = some (.int .i64 x.k) ∧ w'.cell? ⟨b, o + q * 5 + 1, none⟩ = some (.string x.p) ∧ w'.cell? ⟨b, o + q * 5 + 2, none⟩ = some (.string x.d) ∧ w'.cell? ⟨b, o + q * 5 + 3, none⟩ = some (.int .i64 x.v) ∧ w'.cell? ⟨b, o + q * 5 + 4, none⟩ = some (.int .i64 x.f) ∧ w'.cell? ⟨b', o' + q * 5, none⟩ = some (.int .i64 x.k) ∧ w'.cell? ⟨b', o' + q * 5 + 1, none⟩ = some (.string x.p) ∧ w'.cell? ⟨b', o' + q * 5 + 2, none⟩ = some (.string y.d) ∧ w'.cell? ⟨b', o' + q * 5 + 3, none⟩ = some (.int .i64 y.v) ∧ w'.cell? ⟨b', o' + q * 5 + 4, none⟩ = some (.int .i64 y.f)) (go_keep) (fail)
          go_wp2_with fail
          go_ret
          exact ⟨by rw [decide_eq_false hne]; rfl, below_drew HB.out⟩
        · rw [← e0] at y0
          rw [← e1] at y1
          rw [← e2] at y2
          go_wp2_with fail
          go_region_held3 (fun w' => w'.cell? ⟨b, o + q * 5, none⟩ = some (.int .i64 x.k) ∧ w'.cell? ⟨b, o + q * 5 + 1, none⟩ = some (.string x.p) ∧ w'.cell? ⟨b, o + q * 5 + 2, none⟩ = some (.string x.d) ∧ w'.cell? ⟨b, o + q * 5 + 3, none⟩ = some (.int .i64 x.v) ∧ w'.cell? ⟨b, o + q * 5 + 4, none⟩ = some (.int .i64 x.f) ∧ w'.cell? ⟨b', o' + q * 5, none⟩ = some (.int .i64 x.k) ∧ w'.cell? ⟨b', o' + q * 5 + 1, none⟩ = some (.string x.p) ∧ w'.cell? ⟨b', o' + q * 5 + 2, none⟩ = some (.string x.d) ∧ w'.cell? ⟨b', o' + q * 5 + 3, none⟩ = some (.int .i64 y.v) ∧ w'.cell? ⟨b', o' + q * 5 + 4, none⟩ = some (.int .i64 y.f)) (go_keep) (fail)
          go_wp2_with fail
          go_ret
          exact ⟨by rw [decide_eq_false hne]; rfl, below_drew HB.out⟩
        · rw [← e0] at y0
          rw [← e1] at y1
          rw [← e2] at y2
          rw [← e3] at y3
          go_wp2_with fail
          go_region_held3 (fun w' => w'.cell? ⟨b, o + q * 5, none⟩ = some (.int .i64 x.k) ∧ w'.cell? ⟨b, o + q * 5 + 1, none⟩ = some (.string x.p) ∧ w'.cell? ⟨b, o + q * 5 + 2, none⟩ = some (.string x.d) ∧ w'.cell? ⟨b, o + q * 5 + 3, none⟩ = some (.int .i64 x.v) ∧ w'.cell? ⟨b, o + q * 5 + 4, none⟩ = some (.int .i64 x.f) ∧ w'.cell? ⟨b', o' + q * 5, none⟩ = some (.int .i64 x.k) ∧ w'.cell? ⟨b', o' + q * 5 + 1, none⟩ = some (.string x.p) ∧ w'.cell? ⟨b', o' + q * 5 + 2, none⟩ = some (.string x.d) ∧ w'.cell? ⟨b', o' + q * 5 + 3, none⟩ = some (.int .i64 x.v) ∧ w'.cell? ⟨b', o' + q * 5 + 4, none⟩ = some (.int .i64 y.f)) (go_keep) (fail)
          go_wp2_with fail
          go_ret
          exact ⟨by rw [decide_eq_false hne]; rfl, below_drew HB.out⟩
    · obtain rfl : q = n := by omega
      have hge : ¬ (q : Int) < (q : Int) := by omega
      go_wp2_with fail
      go_ret
      have he : l = l' := by rw [List.take_of_length_le (by omega), List.take_of_length_le (by omega)] at htk; exact htk
      exact ⟨by rw [decide_eq_true he]; rfl, HB.out⟩
set_option maxHeartbeats 3200000 in
theorem sameOps_any (a a' : Option Addr) (c c' n n' : Nat) (l l' : List OpT) (w : World) (hs : Os w a l) (ht : Os w a' l') (hn : l.length = n) (hn' : l'.length = n') (hl : n ≤ maxLen) :
    Calls Try.prog 37 #[.slice a n c, .slice a' n' c'] w fun e w' => e = .returned (.bool (decide (l = l'))) ∧ Below w.heap.size w w' := by
  by_cases h : n = n'
  · subst h
    exact sameOps_eq a a' c c' n l l' w hs ht hn hn' hl
  · have HX : Hid (l ≠ l') := fun e => h (by rw [← hn, ← hn', e])
    have hne : ¬ (n : Int) = (n' : Int) := by omega
    clear hs ht
    go_enter Try.func37, Try.ntmps37
    go_wp2_with fail
    go_ret
    exact ⟨by rw [decide_eq_false HX.out]; rfl, Below.refl _ _⟩
end Go.Proofs.Ytnmengoefpdaiaa
