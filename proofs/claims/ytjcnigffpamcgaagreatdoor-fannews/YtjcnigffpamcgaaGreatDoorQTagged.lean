/-
  queue: areTagged.
-/
import Derived.Test.YtjcnigffpamcgaaGreatDoorQCopyT
namespace Go.Proofs.YtjcnigffpamcgaaGreatDoor
open Go.RowKit
set_option linter.unusedVariables false
set_option linter.unusedSimpArgs false

theorem tagless_any (t : TgT) (a : Option Addr) (n c : Nat) (w : World) :
    Calls Tryz.prog 331 #[.agg #[.int .i64 t.k, .string t.p, .string t.d, .int .i64 t.v, .slice a n c]] w fun e w' => e = .returned (.bool (decide (n = 0))) ∧ Below w.heap.size w w' := by
  obtain ⟨k, p, d, v, tags⟩ := t
  obtain ⟨b0, b1, b2, b3, b4⟩ := cells_5 (show (w.alloc (.cells #[.int .i64 k, .string p, .string d, .int .i64 v, .slice a n c] 189)).heap[w.heap.size]? = some (.cells #[.int .i64 k, .string p, .string d, .int .i64 v, .slice a n c] 189 (0, 0)) from heap_alloc_new _ _)
  have HB : Hid (Below w.heap.size w (w.alloc (.cells #[.int .i64 k, .string p, .string d, .int .i64 v, .slice a n c] 189))) := (Below.refl _ _).alloc (Nat.le_refl _) _
  by_cases h : n = 0
  · subst h
    go_enter Tryz.func331, Tryz.ntmps331
    go_wp2_with fail
    go_ret
    exact ⟨rfl, HB.out⟩
  · have hz : ((n : Int) == 0) = false := by simp; omega
    have HN : Hid (decide (n = 0) = false) := by show _ = _; simp [h]
    clear h
    go_enter Tryz.func331, Tryz.ntmps331
    go_wp2_with fail
    go_ret
    exact ⟨by rw [HN.out]; simp [hz], HB.out⟩
def tagless (l : List TgT) : Bool := l.any fun t => decide (t.tags = [])
theorem tagless_at {l : List TgT} {q : Nat} {t : TgT} (h : l[q]? = some t) (ht : t.tags = []) : tagless l = true := List.any_eq_true.2 ⟨t, List.mem_of_getElem? h, by simp [ht]⟩
theorem tagless_not {l : List TgT} (h : ∀ (i : Nat) (t : TgT), i < l.length → l[i]? = some t → t.tags ≠ []) : tagless l = false := by
  cases hh : tagless l with
  | false => rfl
  | true =>
    obtain ⟨t, ht, he⟩ := List.any_eq_true.1 hh
    obtain ⟨i, hi⟩ := List.getElem?_of_mem ht
    exact absurd (by simpa using he) (h i t (List.getElem?_eq_some_iff.1 hi).1 hi)
set_option maxHeartbeats 1600000 in
set_option maxRecDepth 100000 in
theorem indexT_any (v : Value) (l : List TgT) (w : World) (S : Nat → Prop) (h : TgsAt w S v l) (hlen : l.length ≤ MaxRow) :
    Calls Tryz.prog 377 #[v, .func (.func 331) #[] #[]] w fun e w' => ∃ r : Int, e = .returned (.int .i64 r) ∧ decide (0 ≤ r) = tagless l ∧ Below w.heap.size w w' := by
  obtain ⟨a, c, rfl, hc, hnn, hr⟩ := h
  obtain ⟨n, hn⟩ : ∃ n, l.length = n := ⟨_, rfl⟩
  rw [hn] at hc hlen ⊢
  have HN : Hid (l.length = n) := hn
  have HR : Hid (l = [] ∨ ∃ b o, a = some ⟨b, o, none⟩ ∧ S b ∧ b < w.heap.size ∧ ∀ i x, l[i]? = some x → ∃ u, tgE w S b (o + i * 5) x u) := hr
  have hn1 : n ≤ 140737488355328 := hlen
  clear hr hn hnn hlen
  go_enter Tryz.func377, Tryz.ntmps377
  go_wp2_with fail
  go_loopw [8] (fun i wr => ∃ q : Nat, i = .int .i64 q ∧ q ≤ n ∧ Hid (∀ (i : Nat) (t : TgT), i < q → l[i]? = some t → t.tags ≠ []) ∧ Hid (Below w.heap.size w wr)) (fun i _ => n - (intOf i).toNat)
  case atStart => exact ⟨0, rfl, Nat.zero_le _, fun i t hi => absurd hi (Nat.not_lt_zero _), Below.refl _ _⟩
  case round =>
    obtain ⟨q, rfl, hq, HT, HB⟩ := hrel
    by_cases hlt' : q < n
    · have hqi : (q : Int) < (n : Int) := by omega
      obtain ⟨x, hx⟩ : ∃ x, l[q]? = some x := ⟨l[q]'(by rw [HN.out]; exact hlt'), List.getElem?_eq_getElem _⟩
      obtain ⟨b, o, rfl, hS, hlt, hE⟩ : ∃ b o, a = some ⟨b, o, none⟩ ∧ S b ∧ b < w.heap.size ∧ ∀ i x, l[i]? = some x → ∃ u, tgE w S b (o + i * 5) x u := by
        rcases HR.out with h | h
        · rw [h] at hx; cases hx
        · exact h
      obtain ⟨u, hE0⟩ := hE q x hx
      obtain ⟨xa, xc, rfl, _⟩ := _root_.id hE0.tags
      have c0 : wr.cell? ⟨b, o + q * 5, none⟩ = some (.int .i64 x.k) := by rw [HB.out.cell (p := ⟨b, o + q * 5, none⟩) hlt]; exact hE0.k
      have c1 : wr.cell? ⟨b, o + q * 5 + 1, none⟩ = some (.string x.p) := by rw [HB.out.cell (p := ⟨b, o + q * 5 + 1, none⟩) hlt]; exact hE0.p
      have c2 : wr.cell? ⟨b, o + q * 5 + 2, none⟩ = some (.string x.d) := by rw [HB.out.cell (p := ⟨b, o + q * 5 + 2, none⟩) hlt]; exact hE0.d
      have c3 : wr.cell? ⟨b, o + q * 5 + 3, none⟩ = some (.int .i64 x.v) := by rw [HB.out.cell (p := ⟨b, o + q * 5 + 3, none⟩) hlt]; exact hE0.v
      have c4 : wr.cell? ⟨b, o + q * 5 + 4, none⟩ = some (.slice xa x.tags.length xc) := by rw [HB.out.cell (p := ⟨b, o + q * 5 + 4, none⟩) hlt]; exact hE0.cu
      clear hE hE0
      by_cases ht : x.tags.length = 0
      · have HC : Hid (∀ w, Calls Tryz.prog 331 #[.agg #[.int .i64 x.k, .string x.p, .string x.d, .int .i64 x.v, .slice xa x.tags.length xc]] w fun e w' => e = .returned (.bool true) ∧ Below w.heap.size w w') := fun w => by
          have := tagless_any x xa x.tags.length xc w
          rw [decide_eq_true ht] at this
          exact this
        have HG : Hid (tagless l = true) := tagless_at hx (List.eq_nil_of_length_eq_zero ht)
        clear ht
        go_wp2_with fail
        refine (HC.out _).mono ?_
        rintro e w2 ⟨rfl, hb2⟩
        have HB2 : Hid (Below w.heap.size w w2) := trans2 HB.out hb2
        clear hb2 c0 c1 c2 c3 c4
        go_wp2_with fail
        go_ret
        exact ⟨q, rfl, by rw [HG.out]; simp, HB2.out⟩
      · have HC : Hid (∀ w, Calls Tryz.prog 331 #[.agg #[.int .i64 x.k, .string x.p, .string x.d, .int .i64 x.v, .slice xa x.tags.length xc]] w fun e w' => e = .returned (.bool false) ∧ Below w.heap.size w w') := fun w => by
          have := tagless_any x xa x.tags.length xc w
          rw [decide_eq_false ht] at this
          exact this
        have HT2 : Hid (∀ (i : Nat) (t : TgT), i < q + 1 → l[i]? = some t → t.tags ≠ []) := fun i t hi hit => by
          by_cases he : i = q
          · subst he
            rw [hx] at hit
            cases hit
            intro e
            rw [e] at ht
            exact ht rfl
          · exact HT.out i t (by omega) hit
        clear ht
        go_wp2_with fail
        refine (HC.out _).mono ?_
        rintro e w2 ⟨rfl, hb2⟩
        have HB2 : Hid (Below w.heap.size w w2) := trans2 HB.out hb2
        clear hb2 c0 c1 c2 c3 c4
        go_wp2_with fail
        go_roundw
        case rel => exact ⟨q + 1, by go_num, by omega, HT2, HB2⟩
        case measure => simp [intOf]; omega
    · obtain rfl : q = n := by omega
      go_wp2_with fail
      go_ret
      exact ⟨-1, rfl, by rw [tagless_not (fun i t hi hit => HT.out i t (by rw [← HN.out]; exact hi) hit)]; rfl, HB.out⟩
set_option maxHeartbeats 1600000 in
theorem areTagged_any (v : Value) (l : List TgT) (w : World) (S : Nat → Prop) (h : TgsAt w S v l) (hlen : l.length ≤ MaxRow) :
    Calls Tryz.prog 277 #[v] w fun e w' => e = .returned (.bool (decide (l ≠ []) && !tagless l)) ∧ Below w.heap.size w w' := by
  have HI : Hid _ := indexT_any v l w S h hlen
  obtain ⟨a, c, rfl, hc, hnn, hr⟩ := h
  have HC : Hid (Calls Tryz.prog 330 #[.slice a l.length c, .func (.func 331) #[] #[]] w fun e w' => e = .returned (.bool (tagless l)) ∧ Below w.heap.size w w') := by
    clear hr hnn hc hlen
    show Calls _ _ _ _ _
    go_enter Tryz.func330, Tryz.ntmps330
    go_wp2_with fail
    refine Calls.mono HI.out ?_
    rintro e w1 ⟨r, rfl, hr, hb⟩
    have HR : Hid (decide (0 ≤ r) = tagless l) := hr
    have HB : Hid (Below w.heap.size w w1) := hb
    clear hr hb
    go_wp2_with fail
    go_ret
    exact ⟨by rw [← HR.out]; rfl, HB.out⟩
  clear HI hr
  obtain ⟨rr, hrr⟩ : ∃ rr, (decide (l ≠ []) && !tagless l) = rr := ⟨_, rfl⟩
  rw [hrr]
  by_cases h0 : l = []
  · have HL : Hid (rr = false) := by show _ = _; rw [← hrr]; simp [h0]
    have hl : ¬ (0 : Int) < (l.length : Int) := by rw [h0]; decide
    clear h0 hrr
    go_enter Tryz.func277, Tryz.ntmps277
    go_wp2_with fail
    go_ret
    exact ⟨by rw [HL.out]; rfl, Below.refl _ _⟩
  · have HL : Hid (rr = !tagless l) := by show _ = _; rw [← hrr]; simp [h0]
    have hl : (0 : Int) < (l.length : Int) := by have := List.length_pos_iff.2 h0; omega
    clear h0 hrr
    go_enter Tryz.func277, Tryz.ntmps277
    go_wp2_with fail
    refine Calls.mono HC.out ?_
    rintro e w1 ⟨rfl, hb⟩
    have HB : Hid (Below w.heap.size w w1) := hb
    clear hb
    go_wp2_with fail
    go_ret
    exact ⟨by rw [HL.out]; rfl, HB.out⟩
end Go.Proofs.YtjcnigffpamcgaaGreatDoor
