/-
  heraldref12: Now, Settle, Promote, Take.
-/
import Derived.Test.YtlbhnlpdijhmlaaVRow
namespace Go.Proofs.Ytlbhnlpdijhmlaa
open Go.RowKit
set_option linter.unusedVariables false
set_option linter.unusedSimpArgs false

/-- A box of three cells and what stands above it. -/
theorem alloc2 {w : World} {a b : Array Value} {t u : TypeId} : let W := (w.alloc (.cells a t)).alloc (.cells b u)
    W.heap[w.heap.size]? = some (.cells a t (0, 0)) ∧ W.heap[w.heap.size + 1]? = some (.cells b u (0, 0)) ∧ Below w.heap.size w W ∧ W.heap.size = w.heap.size + 1 + 1 :=
  ⟨new_old (heap_alloc_new _ _) _, heap_new' (by simp), ((Below.refl _ _).alloc (Nat.le_refl _) _).alloc (by simp) _, by simp⟩
theorem zero_last {l : List VwT} (h : l = []) : lastV l = ⟨0, 0, 0⟩ := by rw [h]; rfl
set_option maxHeartbeats 1600000 in
theorem refNow_any (nodes : Int) (v : Value) (s : Bool) (l : List VwT) (w : World) (S : Nat → Prop) (h : VwsAt w S v l) (hl : l.length ≤ 401) :
    Calls Try.prog 34 #[svV nodes v s] w fun e w' => e = .returned (vwV (lastV l)) ∧ Below w.heap.size w w' := by
  obtain ⟨a, c, rfl, hc⟩ := RowAt.form h
  obtain ⟨⟨d0, d1, d2⟩, hW, hB⟩ : _ ∧ _ ∧ _ := ⟨cells_3 (alloc2 (w := w) (a := #[.int .i64 nodes, .slice a l.length c, .bool s]) (b := #[.int .i64 0, .int .i64 0, .int .i64 0]) (t := 72) (u := 28)).1, (alloc2 (w := w) (a := #[.int .i64 nodes, .slice a l.length c, .bool s]) (b := #[.int .i64 0, .int .i64 0, .int .i64 0]) (t := 72) (u := 28)).2.1, (alloc2 (w := w) (a := #[.int .i64 nodes, .slice a l.length c, .bool s]) (b := #[.int .i64 0, .int .i64 0, .int .i64 0]) (t := 72) (u := 28)).2.2.1⟩
  obtain ⟨W, hWW⟩ : ∃ W, (w.alloc (.cells #[.int .i64 nodes, .slice a l.length c, .bool s] 72)).alloc (.cells #[.int .i64 0, .int .i64 0, .int .i64 0] 28) = W := ⟨_, rfl⟩
  rw [hWW] at d0 d1 d2 hW hB
  obtain ⟨r0, r1, r2⟩ := cells_3 hW
  have fr : ∀ o, W.frozen? ⟨w.heap.size + 1, o, none⟩ = false := free_of hW
  have HB : Hid (Below w.heap.size w W) := hB
  have HX : Hid (W.heap[w.heap.size + 1]? = some (.cells #[.int .i64 0, .int .i64 0, .int .i64 0] 28 (0, 0))) := hW
  have HW : Hid ((w.alloc (.cells #[.int .i64 nodes, .slice a l.length c, .bool s] 72)).alloc (.cells #[.int .i64 0, .int .i64 0, .int .i64 0] 28) = W) := hWW
  clear hWW hB hW
  by_cases he : l = []
  · have HL : Hid (lastV l = ⟨0, 0, 0⟩) := zero_last he
    subst he
    simp only [List.length_nil] at d1 HW ⊢
    clear h
    go_enter Try.func34, Try.ntmps34
    go_upto_region 1 with fail
    rw [HW.out]
    go_wp2_with fail
    exact bodyPost_ret (results_cell rfl _ _ (w.heap.size + 1) 28 _ (0, 0) _ rfl (fill_3 HX.out) Try.underlying28 rfl (by kernel_rfl)) rfl ⟨by rw [HL.out], fillB_3 HB.out (Nat.le_succ _)⟩
  · obtain ⟨n, hn⟩ : ∃ n, l.length = n + 1 := ⟨l.length - 1, by have := List.length_pos_iff.2 he; omega⟩
    have hla := lastV_at he
    obtain ⟨t, ht⟩ : ∃ t, lastV l = t := ⟨_, rfl⟩
    rw [ht] at hla ⊢
    rw [hn] at hla hl d1 HW ⊢
    obtain ⟨g, o, rfl, hS, hlt, e1⟩ := RowAt.get h (show l[n]? = some t from hla)
    obtain ⟨x0, x1, x2⟩ := e1
    have y0 : W.cell? ⟨g, o + n * 3, none⟩ = some (.int .i64 t.n) := by rw [HB.out.cell (p := ⟨g, o + n * 3, none⟩) hlt]; exact x0
    have y1 : W.cell? ⟨g, o + n * 3 + 1, none⟩ = some (.int .i64 t.p) := by rw [HB.out.cell (p := ⟨g, o + n * 3 + 1, none⟩) hlt]; exact x1
    have y2 : W.cell? ⟨g, o + n * 3 + 2, none⟩ = some (.int .i64 t.b) := by rw [HB.out.cell (p := ⟨g, o + n * 3 + 2, none⟩) hlt]; exact x2
    have hz : ((n + 1 : Nat) : Int) = (n : Int) + 1 := by omega
    have hz2 : (((n : Int) + 1) == 0) = false := by simp; omega
    have hz3 : (n : Int) + 1 - 1 = n := by omega
    clear h x0 x1 x2 he hn ht
    go_enter Try.func34, Try.ntmps34
    go_upto_region 1 with fail
    rw [HW.out]
    go_wp2_with fail
    exact bodyPost_ret (results_cell rfl _ _ (w.heap.size + 1) 28 _ (0, 0) _ rfl (fill_3 HX.out) Try.underlying28 rfl (by kernel_rfl)) rfl ⟨rfl, fillB_3 HB.out (Nat.le_succ _)⟩
/-- The boxes of Settle and Promote, behind Now. -/
structure RB (w w2 : World) (b c : Nat) (nodes : Int) (v : Value) (s : Bool) (t : VwT) : Prop where
  below : Below w.heap.size w w2
  eq : w.heap.size = b
  lt : b + 1 < c
  box : w2.heap[b]? = some (.cells #[.int .i64 nodes, v, .bool s] 72 (0, 0))
  res : w2.heap[b + 1]? = some (.cells #[.int .i64 0, .slice none 0 0, .bool false] 72 (0, 0))
  now : w2.heap[c]? = some (.cells #[.int .i64 t.n, .int .i64 t.p, .int .i64 t.b] 28 (0, 0))
theorem RB.of {w W w1 : World} {nodes : Int} {v : Value} {s : Bool} {t : VwT} (hW : (w.alloc (.cells #[.int .i64 nodes, v, .bool s] 72)).alloc (.cells #[.int .i64 0, .slice none 0 0, .bool false] 72) = W) (hb : Below W.heap.size W w1) : RB w (w1.alloc (.cells #[.int .i64 t.n, .int .i64 t.p, .int .i64 t.b] 28)) w.heap.size w1.heap.size nodes v s t := by
  have h2 := alloc2 (w := w) (a := #[.int .i64 nodes, v, .bool s]) (b := #[.int .i64 0, .slice none 0 0, .bool false]) (t := 72) (u := 72)
  rw [hW] at h2
  have hs := hb.size
  exact ⟨(trans2 h2.2.2.1 hb).alloc (by have := (trans2 h2.2.2.1 hb).size; exact this) _, rfl, by have := h2.2.2.2; omega, new_old (kept_block hb h2.1) _, new_old (kept_block hb h2.2.1) _, heap_alloc_new _ _⟩
set_option maxHeartbeats 3200000 in
set_option maxRecDepth 100000 in
theorem refSettle_any (V : SvT) (v : Value) (num node : Int) (w : World) (S : Nat → Prop) (h : VwsAt w S v V.l) (hl : V.l.length ≤ 401) :
    Calls Try.prog 36 #[svV V.nodes v V.set, .int .i64 num, .int .i64 node] w fun e w' => e = .returned (.tuple #[svV V.nodes v (V.sett num node).set, .int .i64 (V.settC num node)]) ∧ Below w.heap.size w w' := by
  obtain ⟨a, c, rfl, hc⟩ := RowAt.form h
  obtain ⟨n, hn⟩ : ∃ n, V.l.length = n := ⟨_, rfl⟩
  obtain ⟨t, ht⟩ : ∃ t, lastV V.l = t := ⟨_, rfl⟩
  obtain ⟨W, hWW⟩ : ∃ W, (w.alloc (.cells #[.int .i64 V.nodes, .slice a n c, .bool V.set] 72)).alloc (.cells #[.int .i64 0, .slice none 0 0, .bool false] 72) = W := ⟨_, rfl⟩
  have HW : Hid _ := hWW
  have h2 := alloc2 (w := w) (a := #[.int .i64 V.nodes, .slice a n c, .bool V.set]) (b := #[.int .i64 0, .slice none 0 0, .bool false]) (t := 72) (u := 72)
  rw [hWW] at h2
  have HBW : Hid (Below w.heap.size w W) := h2.2.2.1
  obtain ⟨q0, q1, q2⟩ := cells_3 h2.1
  clear h2
  have HN : Hid (∀ w', Below w.heap.size w w' → Calls Try.prog 34 #[svV V.nodes (.slice a n c) V.set] w' fun e w'' => e = .returned (vwV t) ∧ Below w'.heap.size w' w'') := fun w' hb => by
    have := refNow_any V.nodes _ V.set V.l w' S (VwsAt.keep h (Kp.of_below hb _)) hl
    rw [hn, ht] at this
    exact this
  have HV : Hid (VwsAt w S (.slice a n c) V.l) := by have h' := h; rw [hn] at h'; exact h'
  have HLN : Hid (V.l.length = n) := hn
  have HLT : Hid (lastV V.l = t) := ht
  have hz : (V.l = [] ↔ n = 0) := by rw [← hn]; exact ⟨fun e => by rw [e]; rfl, List.eq_nil_of_length_eq_zero⟩
  have hno : ∀ (q : Prop), q = (V.l = [] ∨ num ≠ t.n ∨ node ≠ t.p) → q → V.settC num node = 120 ∧ (V.sett num node).set = V.set := fun q hq hh => by
    have e : V.settC num node = 120 := by unfold SvT.settC; rw [ht, if_pos (by rw [← hq]; exact hh)]
    exact ⟨e, by unfold SvT.sett; rw [if_neg (by rw [e]; decide)]⟩
  rw [hn] at hl ⊢
  clear h hc hWW hn
  have hcase : n = 0 ∨ (n ≠ 0 ∧ num ≠ t.n) ∨ (n ≠ 0 ∧ num = t.n ∧ node ≠ t.p) ∨ (n ≠ 0 ∧ num = t.n ∧ node = t.p) := by
    by_cases h1 : n = 0
    · exact .inl h1
    · by_cases h2 : num = t.n
      · by_cases h3 : node = t.p
        · exact .inr (.inr (.inr ⟨h1, h2, h3⟩))
        · exact .inr (.inr (.inl ⟨h1, h2, h3⟩))
      · exact .inr (.inl ⟨h1, h2⟩)
  rcases hcase with h1 | ⟨h1, h2⟩ | ⟨h1, h2, h3⟩ | ⟨h1, h2, h3⟩
  · have HC : Hid _ := hno _ rfl (.inl (hz.2 h1))
    have hb0 : ((n : Int) == 0) = true := by simp [h1]
    clear hno hz ht h1
    go_enter Try.func36, Try.ntmps36
    go_upto_region 1 with fail
    rw [HW.out]
    go_upto_region 2 with
      (first
      | (go_at_call 34; refine Calls.mono (HN.out _ HBW.out) ?_; rintro e w1 ⟨rfl, hb1⟩
         have HR : Hid (RB w (w1.alloc (.cells #[.int .i64 t.n, .int .i64 t.p, .int .i64 t.b] 28)) w.heap.size w1.heap.size V.nodes (.slice a n c) V.set t) := RB.of HW.out hb1
         clear hb1)
      | fail)
    obtain ⟨w2, hw2⟩ : ∃ w2, w1.alloc (.cells #[.int .i64 t.n, .int .i64 t.p, .int .i64 t.b] 28) = w2 := ⟨_, rfl⟩
    obtain ⟨b, hb⟩ : ∃ b, w.heap.size = b := ⟨_, rfl⟩
    obtain ⟨k, hk⟩ : ∃ k, w1.heap.size = k := ⟨_, rfl⟩
    rw [hw2, hb, hk] at HR
    rw [hw2, hb, hk]
    clear hw2 hk q0 q1 q2
    obtain ⟨a0, a1, a2⟩ := cells_3 HR.out.box
    obtain ⟨r0, r1, r2⟩ := cells_3 HR.out.res
    obtain ⟨n0, n1, n2⟩ := cells_3 HR.out.now
    have fa : ∀ o, w2.frozen? ⟨b, o, none⟩ = false := free_of HR.out.box
    have fr : ∀ o, w2.frozen? ⟨b + 1, o, none⟩ = false := free_of HR.out.res
    go_wp2_with fail
    exact bodyPost_ret (results_cell_tmp rfl _ _ (b + 1) 72 _ (0, 0) _ _ rfl rfl (fill_3 HR.out.res) Try.underlying72 rfl (by kernel_rfl)) rfl ⟨by rw [HC.out.1, HC.out.2]; rfl, by rw [← HR.out.eq] ; exact fillB_3 HR.out.below (by rw [HR.out.eq]; exact Nat.le_succ _)⟩
  · have HC : Hid _ := hno _ rfl (.inr (.inl h2))
    have hb0 : ((n : Int) == 0) = false := by simp; omega
    have hb1 : (num != t.n) = true := by simpa using h2
    clear hno hz ht h2 h1
    go_enter Try.func36, Try.ntmps36
    go_upto_region 1 with fail
    rw [HW.out]
    go_upto_region 2 with
      (first
      | (go_at_call 34; refine Calls.mono (HN.out _ HBW.out) ?_; rintro e w1 ⟨rfl, hb1⟩
         have HR : Hid (RB w (w1.alloc (.cells #[.int .i64 t.n, .int .i64 t.p, .int .i64 t.b] 28)) w.heap.size w1.heap.size V.nodes (.slice a n c) V.set t) := RB.of HW.out hb1
         clear hb1)
      | fail)
    obtain ⟨w2, hw2⟩ : ∃ w2, w1.alloc (.cells #[.int .i64 t.n, .int .i64 t.p, .int .i64 t.b] 28) = w2 := ⟨_, rfl⟩
    obtain ⟨b, hb⟩ : ∃ b, w.heap.size = b := ⟨_, rfl⟩
    obtain ⟨k, hk⟩ : ∃ k, w1.heap.size = k := ⟨_, rfl⟩
    rw [hw2, hb, hk] at HR
    rw [hw2, hb, hk]
    clear hw2 hk q0 q1 q2
    obtain ⟨a0, a1, a2⟩ := cells_3 HR.out.box
    obtain ⟨r0, r1, r2⟩ := cells_3 HR.out.res
    obtain ⟨n0, n1, n2⟩ := cells_3 HR.out.now
    have fa : ∀ o, w2.frozen? ⟨b, o, none⟩ = false := free_of HR.out.box
    have fr : ∀ o, w2.frozen? ⟨b + 1, o, none⟩ = false := free_of HR.out.res
    go_wp2_with fail
    exact bodyPost_ret (results_cell_tmp rfl _ _ (b + 1) 72 _ (0, 0) _ _ rfl rfl (fill_3 HR.out.res) Try.underlying72 rfl (by kernel_rfl)) rfl ⟨by rw [HC.out.1, HC.out.2]; rfl, by rw [← HR.out.eq] ; exact fillB_3 HR.out.below (by rw [HR.out.eq]; exact Nat.le_succ _)⟩
  · have HC : Hid _ := hno _ rfl (.inr (.inr h3))
    have hb0 : ((n : Int) == 0) = false := by simp; omega
    have hb1 : (num != t.n) = false := by simpa using h2
    have hb2 : (node != t.p) = true := by simpa using h3
    clear hno hz ht h2 h1 h3
    go_enter Try.func36, Try.ntmps36
    go_upto_region 1 with fail
    rw [HW.out]
    go_upto_region 2 with
      (first
      | (go_at_call 34; refine Calls.mono (HN.out _ HBW.out) ?_; rintro e w1 ⟨rfl, hb1⟩
         have HR : Hid (RB w (w1.alloc (.cells #[.int .i64 t.n, .int .i64 t.p, .int .i64 t.b] 28)) w.heap.size w1.heap.size V.nodes (.slice a n c) V.set t) := RB.of HW.out hb1
         clear hb1)
      | fail)
    obtain ⟨w2, hw2⟩ : ∃ w2, w1.alloc (.cells #[.int .i64 t.n, .int .i64 t.p, .int .i64 t.b] 28) = w2 := ⟨_, rfl⟩
    obtain ⟨b, hb⟩ : ∃ b, w.heap.size = b := ⟨_, rfl⟩
    obtain ⟨k, hk⟩ : ∃ k, w1.heap.size = k := ⟨_, rfl⟩
    rw [hw2, hb, hk] at HR
    rw [hw2, hb, hk]
    clear hw2 hk q0 q1 q2
    obtain ⟨a0, a1, a2⟩ := cells_3 HR.out.box
    obtain ⟨r0, r1, r2⟩ := cells_3 HR.out.res
    obtain ⟨n0, n1, n2⟩ := cells_3 HR.out.now
    have fa : ∀ o, w2.frozen? ⟨b, o, none⟩ = false := free_of HR.out.box
    have fr : ∀ o, w2.frozen? ⟨b + 1, o, none⟩ = false := free_of HR.out.res
    go_wp2_with fail
    exact bodyPost_ret (results_cell_tmp rfl _ _ (b + 1) 72 _ (0, 0) _ _ rfl rfl (fill_3 HR.out.res) Try.underlying72 rfl (by kernel_rfl)) rfl ⟨by rw [HC.out.1, HC.out.2]; rfl, by rw [← HR.out.eq] ; exact fillB_3 HR.out.below (by rw [HR.out.eq]; exact Nat.le_succ _)⟩
  · have HC : Hid (V.settC num node = 0 ∧ (V.sett num node).set = true) := by
      have e : V.settC num node = 0 := by unfold SvT.settC; rw [ht, if_neg (by simp only [not_or, Classical.not_not]; exact ⟨fun e => h1 (hz.1 e), h2, h3⟩)]
      exact ⟨e, by unfold SvT.sett; rw [if_pos e]⟩
    have hb0 : ((n : Int) == 0) = false := by simp; omega
    have hb1 : (num != t.n) = false := by simpa using h2
    have hb2 : (node != t.p) = false := by simpa using h3
    clear hno hz ht h2 h1 h3
    go_enter Try.func36, Try.ntmps36
    go_upto_region 1 with fail
    rw [HW.out]
    go_upto_region 2 with
      (first
      | (go_at_call 34; refine Calls.mono (HN.out _ HBW.out) ?_; rintro e w1 ⟨rfl, hb1⟩
         have HR : Hid (RB w (w1.alloc (.cells #[.int .i64 t.n, .int .i64 t.p, .int .i64 t.b] 28)) w.heap.size w1.heap.size V.nodes (.slice a n c) V.set t) := RB.of HW.out hb1
         clear hb1)
      | fail)
    obtain ⟨w2, hw2⟩ : ∃ w2, w1.alloc (.cells #[.int .i64 t.n, .int .i64 t.p, .int .i64 t.b] 28) = w2 := ⟨_, rfl⟩
    obtain ⟨b, hb⟩ : ∃ b, w.heap.size = b := ⟨_, rfl⟩
    obtain ⟨k, hk⟩ : ∃ k, w1.heap.size = k := ⟨_, rfl⟩
    rw [hw2, hb, hk] at HR
    rw [hw2, hb, hk]
    clear hw2 hk q0 q1 q2
    obtain ⟨a0, a1, a2⟩ := cells_3 HR.out.box
    obtain ⟨r0, r1, r2⟩ := cells_3 HR.out.res
    obtain ⟨n0, n1, n2⟩ := cells_3 HR.out.now
    have fa : ∀ o, w2.frozen? ⟨b, o, none⟩ = false := free_of HR.out.box
    have fr : ∀ o, w2.frozen? ⟨b + 1, o, none⟩ = false := free_of HR.out.res
    have hq : ∀ (w : World) v o, (w.setCell ⟨b, 2, none⟩ v).cell? ⟨b + 1, o, none⟩ = w.cell? ⟨b + 1, o, none⟩ := fun w v o => cellN (by omega)
    have HS : Hid ((w2.setCell ⟨b, 2, none⟩ (.bool true)).heap[b + 1]? = some (.cells #[.int .i64 0, .slice none 0 0, .bool false] 72 (0, 0))) := by
      show _ = _
      rw [(Chg.set w2 ⟨b, 2, none⟩ (.bool true)).block (b + 1) (lt_of_blk HR.out.res) (by show ¬ b + 1 = b; omega)]
      exact HR.out.res
    have HSB : Hid (Below w.heap.size w (w2.setCell ⟨b, 2, none⟩ (.bool true))) := HR.out.below.setCell (by rw [HR.out.eq]; exact Nat.le_refl _) _
    go_wp2_with fail
    exact bodyPost_ret (results_cell_tmp rfl _ _ (b + 1) 72 _ (0, 0) _ _ rfl rfl (fill_3 HS.out) Try.underlying72 rfl (by kernel_rfl)) rfl ⟨by rw [HC.out.1, HC.out.2]; rfl, fillB_3 HSB.out (by rw [HR.out.eq]; exact Nat.le_succ _)⟩
end Go.Proofs.Ytlbhnlpdijhmlaa
