/-
  view: mayFollow, settle, Settled, Now, Settle.
-/
import Derived.Test.YtlbhnlpdijhmlaaVSrv
namespace Go.Proofs.Ytlbhnlpdijhmlaa
open Go.RowKit Go.MuLone
set_option linter.unusedVariables false
set_option linter.unusedSimpArgs false

theorem SvT.Ok.none {V : SvT} (h : V.Ok) (h0 : V.nodes = 0) : V.l = [] ∧ V.set = false := by
  have hl : V.l = [] := by
    cases hl : V.l with
    | nil => rfl
    | cons t l =>
      have := h.num 0 t (by rw [hl]; rfl)
      omega
  exact ⟨hl, (h.zero hl).2⟩
theorem SvT.Ok.some {V : SvT} (h : V.Ok) (h0 : V.nodes ≠ 0) : V.l ≠ [] := fun e => h0 (h.zero e).1
/-- What stands behind now: the view in a block of its own. -/
theorem now_box {w w1 : World} {t : VwT} (hb : Below w.heap.size w w1) : Below w.heap.size w (w1.alloc (.cells #[.int .i64 t.n, .int .i64 t.p, .int .i64 t.b] 28)) ∧ (w1.alloc (.cells #[.int .i64 t.n, .int .i64 t.p, .int .i64 t.b] 28)).heap[w1.heap.size]? = some (.cells #[.int .i64 t.n, .int .i64 t.p, .int .i64 t.b] 28 (0, 0)) :=
  ⟨hb.alloc hb.size _, heap_alloc_new _ _⟩
set_option maxHeartbeats 12800000 in
set_option maxRecDepth 100000 in
theorem mayFollow_any (b : Nat) (x : Int) (V : SvT) (v : Value) (p q : Int) (w : World) (h : SrvAt w b x V v) (he : V.l ≠ []) :
    Calls Try.prog 29 #[.pointer (some ⟨b, 0, none⟩), .int .i64 p, .int .i64 q] w fun e w' => e = .returned (.bool (decide (¬ (p = 0 ∨ (p ≠ (lastV V.l).p ∧ p ≠ (lastV V.l).b) ∨ q < 0 ∨ V.nodes < q ∨ p = q)))) ∧ Below w.heap.size w w' := by
  have HN : Hid _ := now_any b x V v w h he
  have HS : Hid (SrvAt w b x V v) := h
  have hn := h.ok.num _ _ (lastV_at he)
  have hn2 := hn.2
  clear hn
  obtain ⟨t, ht⟩ : ∃ t, lastV V.l = t := ⟨_, rfl⟩
  rw [ht] at hn2 HN ⊢
  clear h he ht
  obtain ⟨N, hN⟩ : ∃ N, V.nodes = N := ⟨_, rfl⟩
  have HI : Hid (∀ (n : Int) (w' : World), Below w.heap.size w w' → Calls Try.prog 41 #[.pointer (some ⟨b, 0, none⟩), .int .i64 n] w' fun e w'' => e = .returned (.bool (decide (1 ≤ n ∧ n ≤ N))) ∧ w'' = w') := fun n w' hb => by
    have := isNode_any b x V v n w' (HS.out.below hb)
    rw [hN] at this
    exact this
  rw [hN] at hn2 ⊢
  obtain ⟨r, hr⟩ : ∃ r, decide (¬ (p = 0 ∨ (p ≠ t.p ∧ p ≠ t.b) ∨ q < 0 ∨ N < q ∨ p = q)) = r := ⟨_, rfl⟩
  rw [hr]
  obtain ⟨i, hi⟩ : ∃ i, decide (1 ≤ p ∧ p ≤ N) = i := ⟨_, rfl⟩
  obtain ⟨k, hk⟩ : ∃ k, decide (1 ≤ q ∧ q ≤ N) = k := ⟨_, rfl⟩
  have HP : Hid (i = decide (1 ≤ p ∧ p ≤ N)) := hi.symm
  have HQ : Hid (k = decide (1 ≤ q ∧ q ≤ N)) := hk.symm
  have hall : ∃ c1 c2 c3 c4 : Bool, (p != t.p) = c1 ∧ (p != t.b) = c2 ∧ (p != q) = c3 ∧ (q == 0) = c4 := ⟨_, _, _, _, rfl, rfl, rfl, rfl⟩
  obtain ⟨c1, c2, c3, c4, h1, h2, h3, h4⟩ := hall
  have HR : Hid (r = (!(c1 && c2) && (i && (c3 && (c4 || k))))) := by
    show r = _
    rw [← hr, ← hi, ← hk, ← h1, ← h2, ← h3, ← h4]
    rw [Bool.eq_iff_iff]
    simp
    constructor
    · intro h
      obtain ⟨g1, g2, g3, g4, g5⟩ := h
      exact ⟨g2, by rcases g2 with e | e <;> omega, g5, by omega⟩
    · intro h
      obtain ⟨g1, g2, g3, g4⟩ := h
      exact ⟨by omega, g1, by omega, by omega, g3⟩
  clear hr hi hk hn2
  have hc : (c1 = true ∧ c2 = true) ∨ (c1 = false ∨ (c1 = true ∧ c2 = false)) := by cases c1 <;> cases c2 <;> simp
  have hd : i = false ∨ (i = true ∧ c3 = false) ∨ (i = true ∧ c3 = true ∧ c4 = true) ∨ (i = true ∧ c3 = true ∧ c4 = false) := by cases i <;> cases c3 <;> cases c4 <;> simp
  rcases hc with ⟨rfl, rfl⟩ | hc
  · clear hd
    go_enter Try.func29, Try.ntmps29
    go_upto_region 2 with
      (go_at_call 27; refine Calls.mono HN.out ?_; rintro e w1 ⟨rfl, hb1⟩
       have HB1 : Hid (Below w.heap.size w w1) := hb1
       clear hb1)
    have h2 := now_box (t := t) HB1.out
    obtain ⟨w2, hw2⟩ : ∃ w2, w1.alloc (.cells #[.int .i64 t.n, .int .i64 t.p, .int .i64 t.b] 28) = w2 := ⟨_, rfl⟩
    rw [hw2] at h2 ⊢
    have HB2 : Hid (Below w.heap.size w w2) := h2.1
    obtain ⟨n0, n1, n2⟩ := cells_3 h2.2
    clear h2 hw2
    go_wp2_with (go_at_call 41; refine Calls.mono (HI.out _ _ HB2.out) ?_; rintro e w3 ⟨rfl, rfl⟩; first | rw [← HP.out] | rw [← HQ.out])
    go_ret
    exact ⟨by rw [HR.out]; simp, HB2.out⟩
  rcases hc with rfl | ⟨rfl, rfl⟩ <;> rcases hd with rfl | ⟨rfl, rfl⟩ | ⟨rfl, rfl, rfl⟩ | ⟨rfl, rfl, rfl⟩
  all_goals
    go_enter Try.func29, Try.ntmps29
    go_upto_region 2 with
      (go_at_call 27; refine Calls.mono HN.out ?_; rintro e w1 ⟨rfl, hb1⟩
       have HB1 : Hid (Below w.heap.size w w1) := hb1
       clear hb1)
    have h2 := now_box (t := t) HB1.out
    obtain ⟨w2, hw2⟩ : ∃ w2, w1.alloc (.cells #[.int .i64 t.n, .int .i64 t.p, .int .i64 t.b] 28) = w2 := ⟨_, rfl⟩
    rw [hw2] at h2 ⊢
    have HB2 : Hid (Below w.heap.size w w2) := h2.1
    obtain ⟨n0, n1, n2⟩ := cells_3 h2.2
    clear h2 hw2
    go_wp2_with (go_at_call 41; refine Calls.mono (HI.out _ _ HB2.out) ?_; rintro e w3 ⟨rfl, rfl⟩; first | rw [← HP.out] | rw [← HQ.out])
    go_ret
    exact ⟨by rw [HR.out]; simp, HB2.out⟩
set_option maxHeartbeats 3200000 in
set_option maxRecDepth 100000 in
theorem settle_any (b : Nat) (x : Int) (V : SvT) (v : Value) (n k : Int) (w : World) (h : SrvAt w b x V v) (he : V.l ≠ []) :
    Calls Try.prog 28 #[.pointer (some ⟨b, 0, none⟩), .int .i64 n, .int .i64 k] w fun e w' => e = .returned (.int .i64 (V.settC n k)) ∧ SrvAt w' b x (V.sett n k) v ∧ Chg w w' (fun j => j = b) := by
  have HN : Hid _ := now_any b x V v w h he
  have HS : Hid (SrvAt w b x V v) := h
  obtain ⟨t, ht⟩ : ∃ t, lastV V.l = t := ⟨_, rfl⟩
  have hok : (V.sett n k).Ok := h.ok.sett n k
  have hl0 : (V.sett n k).l = V.l := by unfold SvT.sett; split <;> rfl
  have hn0 : (V.sett n k).nodes = V.nodes := by unfold SvT.sett; split <;> rfl
  have hC : V.settC n k = if n ≠ t.n ∨ k ≠ t.p then 120 else 0 := by
    unfold SvT.settC
    rw [ht]
    by_cases hc : n ≠ t.n ∨ k ≠ t.p
    · rw [if_pos (.inr hc), if_pos hc]
    · rw [if_neg hc, if_neg (by intro h; rcases h with h | h; exact he h; exact hc h)]
  rw [ht] at HN
  clear h he ht
  have hcase : (n ≠ t.n) ∨ (n = t.n ∧ k ≠ t.p) ∨ (n = t.n ∧ k = t.p) := by
    by_cases h1 : n = t.n
    · by_cases h2 : k = t.p
      · exact .inr (.inr ⟨h1, h2⟩)
      · exact .inr (.inl ⟨h1, h2⟩)
    · exact .inl h1
  have hno : n ≠ t.n ∨ k ≠ t.p → V.settC n k = 120 ∧ V.sett n k = V := fun hc => by
    have e : V.settC n k = 120 := by rw [hC, if_pos hc]
    exact ⟨e, by unfold SvT.sett; rw [if_neg (by rw [e]; decide)]⟩
  rcases hcase with h1 | ⟨h1, h2⟩ | ⟨h1, h2⟩
  · have HC : Hid _ := hno (.inl h1)
    have b1 : (n != t.n) = true := by simpa using h1
    clear hno hC hok hl0 hn0 h1
    go_enter Try.func28, Try.ntmps28
    go_upto_region 2 with
      (go_at_call 27; refine Calls.mono HN.out ?_; rintro e w1 ⟨rfl, hb1⟩
       have HB1 : Hid (Below w.heap.size w w1) := hb1
       clear hb1)
    have h2 := now_box (t := t) HB1.out
    obtain ⟨w2, hw2⟩ : ∃ w2, w1.alloc (.cells #[.int .i64 t.n, .int .i64 t.p, .int .i64 t.b] 28) = w2 := ⟨_, rfl⟩
    rw [hw2] at h2 ⊢
    have HB2 : Hid (Below w.heap.size w w2) := h2.1
    obtain ⟨n0, n1, n2⟩ := cells_3 h2.2
    clear h2 hw2
    go_wp2_with fail
    go_ret
    exact ⟨by rw [HC.out.1]; rfl, by rw [HC.out.2]; exact HS.out.below HB2.out, Chg.of_below HB2.out _⟩
  · have HC : Hid _ := hno (.inr h2)
    have b1 : (n != t.n) = false := by simpa using h1
    have b2 : (k != t.p) = true := by simpa using h2
    clear hno hC hok hl0 hn0 h1 h2
    go_enter Try.func28, Try.ntmps28
    go_upto_region 2 with
      (go_at_call 27; refine Calls.mono HN.out ?_; rintro e w1 ⟨rfl, hb1⟩
       have HB1 : Hid (Below w.heap.size w w1) := hb1
       clear hb1)
    have h2 := now_box (t := t) HB1.out
    obtain ⟨w2, hw2⟩ : ∃ w2, w1.alloc (.cells #[.int .i64 t.n, .int .i64 t.p, .int .i64 t.b] 28) = w2 := ⟨_, rfl⟩
    rw [hw2] at h2 ⊢
    have HB2 : Hid (Below w.heap.size w w2) := h2.1
    obtain ⟨n0, n1, n2⟩ := cells_3 h2.2
    clear h2 hw2
    go_wp2_with fail
    go_ret
    exact ⟨by rw [HC.out.1]; rfl, by rw [HC.out.2]; exact HS.out.below HB2.out, Chg.of_below HB2.out _⟩
  · have e0 : V.settC n k = 0 := by rw [hC, if_neg (by rintro (h | h); exact h h1; exact h h2)]
    have HC : Hid (V.settC n k = 0) := e0
    have HT : Hid ((V.sett n k).set = true) := by show _ = _; unfold SvT.sett; rw [if_pos e0]
    have HO : Hid ((V.sett n k).Ok ∧ (V.sett n k).l = V.l ∧ (V.sett n k).nodes = V.nodes) := ⟨hok, hl0, hn0⟩
    have b1 : (n != t.n) = false := by simpa using h1
    have b2 : (k != t.p) = false := by simpa using h2
    clear hno hC hok hl0 hn0 h1 h2 e0
    go_enter Try.func28, Try.ntmps28
    go_upto_region 2 with
      (go_at_call 27; refine Calls.mono HN.out ?_; rintro e w1 ⟨rfl, hb1⟩
       have HB1 : Hid (Below w.heap.size w w1) := hb1
       clear hb1)
    have h2 := now_box (t := t) HB1.out
    obtain ⟨w2, hw2⟩ : ∃ w2, w1.alloc (.cells #[.int .i64 t.n, .int .i64 t.p, .int .i64 t.b] 28) = w2 := ⟨_, rfl⟩
    rw [hw2] at h2 ⊢
    have HB2 : Hid (Below w.heap.size w w2) := h2.1
    have HS2 : Hid (SrvAt w2 b x V v) := HS.out.below h2.1
    obtain ⟨n0, n1, n2⟩ := cells_3 h2.2
    have s4 := (cells_5 HS2.out.box).2.2.2.2
    have f4 := HS2.out.free 4
    clear h2 hw2
    go_wp2_with fail
    go_ret
    refine ⟨by rw [HC.out]; rfl, HS2.out.set HO.out.1 HO.out.2.1 ?_, (Chg.of_below HB2.out _).trans (Chg.set _ _ _)⟩
    rw [HT.out, HO.out.2.2]
    rfl
end Go.Proofs.Ytlbhnlpdijhmlaa
