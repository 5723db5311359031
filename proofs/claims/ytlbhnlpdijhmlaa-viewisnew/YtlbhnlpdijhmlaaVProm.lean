/-
  heraldref12: Promote.
-/
import Derived.Test.YtlbhnlpdijhmlaaVRef
namespace Go.Proofs.Ytlbhnlpdijhmlaa
open Go.RowKit
set_option linter.unusedVariables false
set_option linter.unusedSimpArgs false

/-- Some more behind a list of elements of several cells. -/
theorem wpList_rows {tS tE sz bt : Nat} {z : Value} (hu : Try.prog.underlying tS = some (.slice tE)) (hinfo : (Try.prog.info? tE).map (fun i => (i.zero, i.size, i.bytes)) = some (some z, sz, bt)) (hzs : z.cells.size = sz) (h0 : 0 < sz)
    {w : World} {ops : Array Oper} {rest : List Oper} {o : Oper} {act : Act} {Q : Exit → Act → World → Prop} (hgd : o.guard = none) (s x : Operand) (ho : o.op = .call { callee := .builtin .append, args := #[s, x], argTypes := #[tS, tS] })
    (base : Nat) (v : Value) (n : Nat) (xs : List Value) (hs : act.eval s = v) (hown : w.ownsRow base tE sz v n xs) (g f k c : Nat) (news : List Value) (hx : act.eval x = .slice (some ⟨g, f, none⟩) k c) (hl : news.length = k * sz) (hc : ∀ j u, news[j]? = some u → w.cell? ⟨g, f + j, none⟩ = some u) (h1 : ∀ u ∈ news, u.oneCell' = true)
    (hb1 : n + k ≤ maxLen) (hb2 : (n + k) * bt ≤ 140737488355328) (hB : base ≤ w.heap.size)
    (h : ∀ v' w', w'.ownsRow base tE sz v' (n + k) (xs ++ news) → w.grownBy w' v.ownBlock → (v'.ownBlock = v.ownBlock ∨ v'.ownBlock = some w.heap.size) → wpList Try.prog ops Q rest (act.put o.dst v') w') : wpList Try.prog ops Q (o :: rest) act w := by
  cases hi : Try.prog.info? tE with
  | none => rw [hi] at hinfo; cases hinfo
  | some i0 =>
    rw [hi] at hinfo
    simp only [Option.map_some, Option.some.injEq, Prod.mk.injEq] at hinfo
    refine wpList_append_own_at _ hgd s x tS ho base tE i0 _ sz bt hu hi hinfo.1 hinfo.2.1 hinfo.2.2 hzs h0 v n xs hs hown ⟨g, f, none⟩ k c news hx hl (fun j u hj => ?_) h1 hb1 hb2 hB ?_
    · rw [addr_add]
      exact hc j u hj
    · intro v' w' ho' hg' _ hat'
      exact h v' w' ho' hg' hat'
theorem vws_cells {w : World} {S : Nat → Prop} {g o n c : Nat} {l : List VwT} (h : VwsAt w S (.slice (some ⟨g, o, none⟩) n c) l) : ∀ j u, (l.flatMap vwCs)[j]? = some u → w.cell? ⟨g, o + j, none⟩ = some u := by
  intro j u hj
  have hlt := (List.getElem?_eq_some_iff.1 hj).1
  rw [flat_len (cells := vwCs) (sz := 3) (fun _ => rfl)] at hlt
  have hq : j / 3 < l.length := by omega
  obtain ⟨b, f, he, _, _, e⟩ := RowAt.get h (List.getElem?_eq_getElem hq)
  cases he
  have hd : j / 3 * 3 + j % 3 = j := by omega
  have hr : j % 3 = 0 ∨ j % 3 = 1 ∨ j % 3 = 2 := by omega
  have hf : ∀ r v, (vwCs l[j / 3])[r]? = some v → j % 3 = r → u = v := fun r v hv hr => by
    have := flat_at (cells := vwCs) (sz := 3) (fun _ => rfl) (List.getElem?_eq_getElem hq) hv
    rw [← hr, hd, hj] at this
    exact Option.some.inj this
  rcases hr with hr | hr | hr
  · rw [hf 0 _ rfl hr, show o + j = o + j / 3 * 3 by omega]; exact e.n
  · rw [hf 1 _ rfl hr, show o + j = o + j / 3 * 3 + 1 by omega]; exact e.p
  · rw [hf 2 _ rfl hr, show o + j = o + j / 3 * 3 + 2 by omega]; exact e.b
theorem vws_one (l : List VwT) : ∀ u ∈ l.flatMap vwCs, u.oneCell' = true := by
  intro u hu
  obtain ⟨t, _, ht⟩ := List.mem_flatMap.1 hu
  simp only [vwCs, List.mem_cons, List.not_mem_nil, or_false] at ht
  rcases ht with rfl | rfl | rfl <;> rfl
set_option maxHeartbeats 6400000 in
set_option maxRecDepth 100000 in
theorem refProm_no (N : Int) (L : List VwT) (v : Value) (p q : Int) (w : World) (S : Nat → Prop) (h : VwsAt w S v L) (hk : (⟨N, L, true⟩ : SvT).Ok) (hc0 : (⟨N, L, true⟩ : SvT).promC p q ≠ 0) :
    Calls Try.prog 35 #[svV N v true, .int .i64 p, .int .i64 q] w fun e w' => e = .returned (.tuple #[svV N v true, .int .i64 ((⟨N, L, true⟩ : SvT).promC p q)]) ∧ Below w.heap.size w w' := by
  have hl : L.length ≤ 401 := hk.len
  obtain ⟨a, c, rfl, _⟩ := RowAt.form h
  obtain ⟨n, hn⟩ : ∃ n, L.length = n := ⟨_, rfl⟩
  obtain ⟨t, ht⟩ : ∃ t, lastV L = t := ⟨_, rfl⟩
  obtain ⟨W, hWW⟩ : ∃ W, (w.alloc (.cells #[.int .i64 N, .slice a n c, .bool true] 72)).alloc (.cells #[.int .i64 0, .slice none 0 0, .bool false] 72) = W := ⟨_, rfl⟩
  have HW : Hid _ := hWW
  have h2 := alloc2 (w := w) (a := #[.int .i64 N, .slice a n c, .bool true]) (b := #[.int .i64 0, .slice none 0 0, .bool false]) (t := 72) (u := 72)
  rw [hWW] at h2
  have HBW : Hid (Below w.heap.size w W) := h2.2.2.1
  obtain ⟨q0, q1, q2⟩ := cells_3 h2.1
  clear h2
  have HN : Hid (∀ w', Below w.heap.size w w' → Calls Try.prog 34 #[svV N (.slice a n c) true] w' fun e w'' => e = .returned (vwV t) ∧ Below w'.heap.size w' w'') := fun w' hb => by
    have := refNow_any N _ true L w' S (VwsAt.keep h (Kp.of_below hb _)) hl
    rw [hn, ht] at this
    exact this
  have HV : Hid (VwsAt w S (.slice a n c) L) := by have h' := h; rw [hn] at h'; exact h'
  have HLN : Hid (L.length = n) := hn
  have HLT : Hid (lastV L = t) := ht
  have htn : (t.n == 2147483647) = false := by
    rw [← ht]
    by_cases he : L = []
    · rw [zero_last he]; rfl
    · have h9 : (lastV L).n = L.length := hk.last he
      simp
      omega
  have hpc : (⟨N, L, true⟩ : SvT).promC p q = if true = false then 121 else if p = 0 ∨ (p ≠ t.p ∧ p ≠ t.b) ∨ q < 0 ∨ N < q ∨ p = q then 120 else if 401 ≤ n then 3 else 0 := by unfold SvT.promC; rw [ht, hn]
  rw [hn] at hl ⊢
  obtain ⟨pc, hpc0⟩ : ∃ z, (⟨N, L, true⟩ : SvT).promC p q = z := ⟨_, rfl⟩
  rw [hpc0] at hpc hc0 ⊢
  clear h hWW hn hk hpc0 ht
  rw [if_neg (by decide)] at hpc
  by_cases h0 : p = 0
  · have HC : Hid (pc = 120) := by show pc = _; rw [hpc]; rw [if_pos (.inl h0)]
    have b0 : (p != 0) = false := by simpa using h0
    clear hpc hc0 h0
    go_enter Try.func35, Try.ntmps35
    go_upto_region 1 with fail
    rw [HW.out]
    go_upto_region 2 with
      (first
      | (go_at_call 34; refine Calls.mono (HN.out _ HBW.out) ?_; rintro e w1 ⟨rfl, hb1⟩
         have HR : Hid (RB w (w1.alloc (.cells #[.int .i64 t.n, .int .i64 t.p, .int .i64 t.b] 28)) w.heap.size w1.heap.size N (.slice a n c) true t) := RB.of HW.out hb1
         clear hb1)
      | fail)
    obtain ⟨w2, hw2⟩ : ∃ w2, w1.alloc (.cells #[.int .i64 t.n, .int .i64 t.p, .int .i64 t.b] 28) = w2 := ⟨_, rfl⟩
    obtain ⟨b, hb⟩ : ∃ b, w.heap.size = b := ⟨_, rfl⟩
    obtain ⟨k, hk⟩ : ∃ k, w1.heap.size = k := ⟨_, rfl⟩
    rw [hw2, hb, hk] at HR
    rw [hw2, hb, hk]
    clear hw2 hk q0 q1 q2
    obtain ⟨a0, a1, a2⟩ := cells_3 HR.out.box
    obtain ⟨r0, r1, r2⟩ := cells_3 HR.out.res
    obtain ⟨n0, n1, n2⟩ := cells_3 HR.out.now
    have fa : ∀ o, w2.frozen? ⟨b, o, none⟩ = false := free_of HR.out.box
    have fr : ∀ o, w2.frozen? ⟨b + 1, o, none⟩ = false := free_of HR.out.res
    go_wp2_with fail
    exact bodyPost_ret (results_cell_tmp rfl _ _ (b + 1) 72 _ (0, 0) _ _ rfl rfl (fill_3 HR.out.res) Try.underlying72 rfl (by kernel_rfl)) rfl ⟨by rw [HC.out]; rfl, by rw [← HR.out.eq]; exact fillB_3 HR.out.below (by rw [HR.out.eq]; exact Nat.le_succ _)⟩
  have b0 : (p != 0) = true := by simpa using h0
  by_cases hm : p ≠ t.p ∧ p ≠ t.b
  · have HC : Hid (pc = 120) := by show pc = _; rw [hpc]; rw [if_pos (.inr (.inl hm))]
    have b1 : (p == t.p) = false := by simpa using hm.1
    have b2 : (p == t.b) = false := by simpa using hm.2
    clear hpc hc0 hm h0
    go_enter Try.func35, Try.ntmps35
    go_upto_region 1 with fail
    rw [HW.out]
    go_upto_region 2 with
      (first
      | (go_at_call 34; refine Calls.mono (HN.out _ HBW.out) ?_; rintro e w1 ⟨rfl, hb1⟩
         have HR : Hid (RB w (w1.alloc (.cells #[.int .i64 t.n, .int .i64 t.p, .int .i64 t.b] 28)) w.heap.size w1.heap.size N (.slice a n c) true t) := RB.of HW.out hb1
         clear hb1)
      | fail)
    obtain ⟨w2, hw2⟩ : ∃ w2, w1.alloc (.cells #[.int .i64 t.n, .int .i64 t.p, .int .i64 t.b] 28) = w2 := ⟨_, rfl⟩
    obtain ⟨b, hb⟩ : ∃ b, w.heap.size = b := ⟨_, rfl⟩
    obtain ⟨k, hk⟩ : ∃ k, w1.heap.size = k := ⟨_, rfl⟩
    rw [hw2, hb, hk] at HR
    rw [hw2, hb, hk]
    clear hw2 hk q0 q1 q2
    obtain ⟨a0, a1, a2⟩ := cells_3 HR.out.box
    obtain ⟨r0, r1, r2⟩ := cells_3 HR.out.res
    obtain ⟨n0, n1, n2⟩ := cells_3 HR.out.now
    have fa : ∀ o, w2.frozen? ⟨b, o, none⟩ = false := free_of HR.out.box
    have fr : ∀ o, w2.frozen? ⟨b + 1, o, none⟩ = false := free_of HR.out.res
    go_wp2_with fail
    exact bodyPost_ret (results_cell_tmp rfl _ _ (b + 1) 72 _ (0, 0) _ _ rfl rfl (fill_3 HR.out.res) Try.underlying72 rfl (by kernel_rfl)) rfl ⟨by rw [HC.out]; rfl, by rw [← HR.out.eq]; exact fillB_3 HR.out.below (by rw [HR.out.eq]; exact Nat.le_succ _)⟩
  have hmm : (p = t.p) ∨ (p ≠ t.p ∧ p = t.b) := by
    by_cases e1 : p = t.p
    · exact .inl e1
    · exact .inr ⟨e1, Classical.byContradiction fun e2 => hm ⟨e1, e2⟩⟩
  rcases hmm with e1 | ⟨e1, e2⟩
  · by_cases h3 : q < 0
    · have HC : Hid (pc = 120) := by show pc = _; rw [hpc]; rw [if_pos (.inr (.inr (.inl h3)))]
      have b1 : (p == t.p) = true := by simpa using e1
      clear hpc hc0  h0 hm e1
      go_enter Try.func35, Try.ntmps35
      go_upto_region 1 with fail
      rw [HW.out]
      go_upto_region 2 with
        (first
        | (go_at_call 34; refine Calls.mono (HN.out _ HBW.out) ?_; rintro e w1 ⟨rfl, hb1⟩
           have HR : Hid (RB w (w1.alloc (.cells #[.int .i64 t.n, .int .i64 t.p, .int .i64 t.b] 28)) w.heap.size w1.heap.size N (.slice a n c) true t) := RB.of HW.out hb1
           clear hb1)
        | fail)
      obtain ⟨w2, hw2⟩ : ∃ w2, w1.alloc (.cells #[.int .i64 t.n, .int .i64 t.p, .int .i64 t.b] 28) = w2 := ⟨_, rfl⟩
      obtain ⟨b, hb⟩ : ∃ b, w.heap.size = b := ⟨_, rfl⟩
      obtain ⟨k, hk⟩ : ∃ k, w1.heap.size = k := ⟨_, rfl⟩
      rw [hw2, hb, hk] at HR
      rw [hw2, hb, hk]
      clear hw2 hk q0 q1 q2
      obtain ⟨a0, a1, a2⟩ := cells_3 HR.out.box
      obtain ⟨r0, r1, r2⟩ := cells_3 HR.out.res
      obtain ⟨n0, n1, n2⟩ := cells_3 HR.out.now
      have fa : ∀ o, w2.frozen? ⟨b, o, none⟩ = false := free_of HR.out.box
      have fr : ∀ o, w2.frozen? ⟨b + 1, o, none⟩ = false := free_of HR.out.res
      go_wp2_with fail
      exact bodyPost_ret (results_cell_tmp rfl _ _ (b + 1) 72 _ (0, 0) _ _ rfl rfl (fill_3 HR.out.res) Try.underlying72 rfl (by kernel_rfl)) rfl ⟨by rw [HC.out]; rfl, by rw [← HR.out.eq]; exact fillB_3 HR.out.below (by rw [HR.out.eq]; exact Nat.le_succ _)⟩
    · by_cases h4 : N < q
      · have HC : Hid (pc = 120) := by show pc = _; rw [hpc]; rw [if_pos (.inr (.inr (.inr (.inl h4))))]
        have b1 : (p == t.p) = true := by simpa using e1
        clear hpc hc0  h0 hm e1
        go_enter Try.func35, Try.ntmps35
        go_upto_region 1 with fail
        rw [HW.out]
        go_upto_region 2 with
          (first
          | (go_at_call 34; refine Calls.mono (HN.out _ HBW.out) ?_; rintro e w1 ⟨rfl, hb1⟩
             have HR : Hid (RB w (w1.alloc (.cells #[.int .i64 t.n, .int .i64 t.p, .int .i64 t.b] 28)) w.heap.size w1.heap.size N (.slice a n c) true t) := RB.of HW.out hb1
             clear hb1)
          | fail)
        obtain ⟨w2, hw2⟩ : ∃ w2, w1.alloc (.cells #[.int .i64 t.n, .int .i64 t.p, .int .i64 t.b] 28) = w2 := ⟨_, rfl⟩
        obtain ⟨b, hb⟩ : ∃ b, w.heap.size = b := ⟨_, rfl⟩
        obtain ⟨k, hk⟩ : ∃ k, w1.heap.size = k := ⟨_, rfl⟩
        rw [hw2, hb, hk] at HR
        rw [hw2, hb, hk]
        clear hw2 hk q0 q1 q2
        obtain ⟨a0, a1, a2⟩ := cells_3 HR.out.box
        obtain ⟨r0, r1, r2⟩ := cells_3 HR.out.res
        obtain ⟨n0, n1, n2⟩ := cells_3 HR.out.now
        have fa : ∀ o, w2.frozen? ⟨b, o, none⟩ = false := free_of HR.out.box
        have fr : ∀ o, w2.frozen? ⟨b + 1, o, none⟩ = false := free_of HR.out.res
        go_wp2_with fail
        exact bodyPost_ret (results_cell_tmp rfl _ _ (b + 1) 72 _ (0, 0) _ _ rfl rfl (fill_3 HR.out.res) Try.underlying72 rfl (by kernel_rfl)) rfl ⟨by rw [HC.out]; rfl, by rw [← HR.out.eq]; exact fillB_3 HR.out.below (by rw [HR.out.eq]; exact Nat.le_succ _)⟩
      · by_cases h5 : p = q
        · have HC : Hid (pc = 120) := by show pc = _; rw [hpc]; rw [if_pos (.inr (.inr (.inr (.inr h5))))]
          have b1 : (p == t.p) = true := by simpa using e1
          have b5 : (p == q) = true := by simpa using h5
          clear hpc hc0 h5 h0 hm e1
          go_enter Try.func35, Try.ntmps35
          go_upto_region 1 with fail
          rw [HW.out]
          go_upto_region 2 with
            (first
            | (go_at_call 34; refine Calls.mono (HN.out _ HBW.out) ?_; rintro e w1 ⟨rfl, hb1⟩
               have HR : Hid (RB w (w1.alloc (.cells #[.int .i64 t.n, .int .i64 t.p, .int .i64 t.b] 28)) w.heap.size w1.heap.size N (.slice a n c) true t) := RB.of HW.out hb1
               clear hb1)
            | fail)
          obtain ⟨w2, hw2⟩ : ∃ w2, w1.alloc (.cells #[.int .i64 t.n, .int .i64 t.p, .int .i64 t.b] 28) = w2 := ⟨_, rfl⟩
          obtain ⟨b, hb⟩ : ∃ b, w.heap.size = b := ⟨_, rfl⟩
          obtain ⟨k, hk⟩ : ∃ k, w1.heap.size = k := ⟨_, rfl⟩
          rw [hw2, hb, hk] at HR
          rw [hw2, hb, hk]
          clear hw2 hk q0 q1 q2
          obtain ⟨a0, a1, a2⟩ := cells_3 HR.out.box
          obtain ⟨r0, r1, r2⟩ := cells_3 HR.out.res
          obtain ⟨n0, n1, n2⟩ := cells_3 HR.out.now
          have fa : ∀ o, w2.frozen? ⟨b, o, none⟩ = false := free_of HR.out.box
          have fr : ∀ o, w2.frozen? ⟨b + 1, o, none⟩ = false := free_of HR.out.res
          go_wp2_with fail
          exact bodyPost_ret (results_cell_tmp rfl _ _ (b + 1) 72 _ (0, 0) _ _ rfl rfl (fill_3 HR.out.res) Try.underlying72 rfl (by kernel_rfl)) rfl ⟨by rw [HC.out]; rfl, by rw [← HR.out.eq]; exact fillB_3 HR.out.below (by rw [HR.out.eq]; exact Nat.le_succ _)⟩
        · have h6 : 401 ≤ n := Classical.byContradiction fun h6 => hc0 (by rw [hpc, if_neg (by simp only [not_or]; exact ⟨h0, hm, h3, h4, h5⟩), if_neg h6])
          have HC : Hid (pc = 3) := by show pc = _; rw [hpc]; rw [if_neg (by simp only [not_or]; exact ⟨h0, hm, h3, h4, h5⟩), if_pos h6]
          have b1 : (p == t.p) = true := by simpa using e1
          have b5 : (p == q) = false := by simpa using h5
          have h6i : (401 : Int) ≤ (n : Int) := by omega
          clear hpc hc0 h5 h0 hm e1
          go_enter Try.func35, Try.ntmps35
          go_upto_region 1 with fail
          rw [HW.out]
          go_upto_region 2 with
            (first
            | (go_at_call 34; refine Calls.mono (HN.out _ HBW.out) ?_; rintro e w1 ⟨rfl, hb1⟩
               have HR : Hid (RB w (w1.alloc (.cells #[.int .i64 t.n, .int .i64 t.p, .int .i64 t.b] 28)) w.heap.size w1.heap.size N (.slice a n c) true t) := RB.of HW.out hb1
               clear hb1)
            | fail)
          obtain ⟨w2, hw2⟩ : ∃ w2, w1.alloc (.cells #[.int .i64 t.n, .int .i64 t.p, .int .i64 t.b] 28) = w2 := ⟨_, rfl⟩
          obtain ⟨b, hb⟩ : ∃ b, w.heap.size = b := ⟨_, rfl⟩
          obtain ⟨k, hk⟩ : ∃ k, w1.heap.size = k := ⟨_, rfl⟩
          rw [hw2, hb, hk] at HR
          rw [hw2, hb, hk]
          clear hw2 hk q0 q1 q2
          obtain ⟨a0, a1, a2⟩ := cells_3 HR.out.box
          obtain ⟨r0, r1, r2⟩ := cells_3 HR.out.res
          obtain ⟨n0, n1, n2⟩ := cells_3 HR.out.now
          have fa : ∀ o, w2.frozen? ⟨b, o, none⟩ = false := free_of HR.out.box
          have fr : ∀ o, w2.frozen? ⟨b + 1, o, none⟩ = false := free_of HR.out.res
          go_wp2_with fail
          exact bodyPost_ret (results_cell_tmp rfl _ _ (b + 1) 72 _ (0, 0) _ _ rfl rfl (fill_3 HR.out.res) Try.underlying72 rfl (by kernel_rfl)) rfl ⟨by rw [HC.out]; rfl, by rw [← HR.out.eq]; exact fillB_3 HR.out.below (by rw [HR.out.eq]; exact Nat.le_succ _)⟩
  · by_cases h3 : q < 0
    · have HC : Hid (pc = 120) := by show pc = _; rw [hpc]; rw [if_pos (.inr (.inr (.inl h3)))]
      have b1 : (p == t.p) = false := by simpa using e1
      have b2 : (p == t.b) = true := by simpa using e2
      clear hpc hc0  h0 hm e1 e2
      go_enter Try.func35, Try.ntmps35
      go_upto_region 1 with fail
      rw [HW.out]
      go_upto_region 2 with
        (first
        | (go_at_call 34; refine Calls.mono (HN.out _ HBW.out) ?_; rintro e w1 ⟨rfl, hb1⟩
           have HR : Hid (RB w (w1.alloc (.cells #[.int .i64 t.n, .int .i64 t.p, .int .i64 t.b] 28)) w.heap.size w1.heap.size N (.slice a n c) true t) := RB.of HW.out hb1
           clear hb1)
        | fail)
      obtain ⟨w2, hw2⟩ : ∃ w2, w1.alloc (.cells #[.int .i64 t.n, .int .i64 t.p, .int .i64 t.b] 28) = w2 := ⟨_, rfl⟩
      obtain ⟨b, hb⟩ : ∃ b, w.heap.size = b := ⟨_, rfl⟩
      obtain ⟨k, hk⟩ : ∃ k, w1.heap.size = k := ⟨_, rfl⟩
      rw [hw2, hb, hk] at HR
      rw [hw2, hb, hk]
      clear hw2 hk q0 q1 q2
      obtain ⟨a0, a1, a2⟩ := cells_3 HR.out.box
      obtain ⟨r0, r1, r2⟩ := cells_3 HR.out.res
      obtain ⟨n0, n1, n2⟩ := cells_3 HR.out.now
      have fa : ∀ o, w2.frozen? ⟨b, o, none⟩ = false := free_of HR.out.box
      have fr : ∀ o, w2.frozen? ⟨b + 1, o, none⟩ = false := free_of HR.out.res
      go_wp2_with fail
      exact bodyPost_ret (results_cell_tmp rfl _ _ (b + 1) 72 _ (0, 0) _ _ rfl rfl (fill_3 HR.out.res) Try.underlying72 rfl (by kernel_rfl)) rfl ⟨by rw [HC.out]; rfl, by rw [← HR.out.eq]; exact fillB_3 HR.out.below (by rw [HR.out.eq]; exact Nat.le_succ _)⟩
    · by_cases h4 : N < q
      · have HC : Hid (pc = 120) := by show pc = _; rw [hpc]; rw [if_pos (.inr (.inr (.inr (.inl h4))))]
        have b1 : (p == t.p) = false := by simpa using e1
        have b2 : (p == t.b) = true := by simpa using e2
        clear hpc hc0  h0 hm e1 e2
        go_enter Try.func35, Try.ntmps35
        go_upto_region 1 with fail
        rw [HW.out]
        go_upto_region 2 with
          (first
          | (go_at_call 34; refine Calls.mono (HN.out _ HBW.out) ?_; rintro e w1 ⟨rfl, hb1⟩
             have HR : Hid (RB w (w1.alloc (.cells #[.int .i64 t.n, .int .i64 t.p, .int .i64 t.b] 28)) w.heap.size w1.heap.size N (.slice a n c) true t) := RB.of HW.out hb1
             clear hb1)
          | fail)
        obtain ⟨w2, hw2⟩ : ∃ w2, w1.alloc (.cells #[.int .i64 t.n, .int .i64 t.p, .int .i64 t.b] 28) = w2 := ⟨_, rfl⟩
        obtain ⟨b, hb⟩ : ∃ b, w.heap.size = b := ⟨_, rfl⟩
        obtain ⟨k, hk⟩ : ∃ k, w1.heap.size = k := ⟨_, rfl⟩
        rw [hw2, hb, hk] at HR
        rw [hw2, hb, hk]
        clear hw2 hk q0 q1 q2
        obtain ⟨a0, a1, a2⟩ := cells_3 HR.out.box
        obtain ⟨r0, r1, r2⟩ := cells_3 HR.out.res
        obtain ⟨n0, n1, n2⟩ := cells_3 HR.out.now
        have fa : ∀ o, w2.frozen? ⟨b, o, none⟩ = false := free_of HR.out.box
        have fr : ∀ o, w2.frozen? ⟨b + 1, o, none⟩ = false := free_of HR.out.res
        go_wp2_with fail
        exact bodyPost_ret (results_cell_tmp rfl _ _ (b + 1) 72 _ (0, 0) _ _ rfl rfl (fill_3 HR.out.res) Try.underlying72 rfl (by kernel_rfl)) rfl ⟨by rw [HC.out]; rfl, by rw [← HR.out.eq]; exact fillB_3 HR.out.below (by rw [HR.out.eq]; exact Nat.le_succ _)⟩
      · by_cases h5 : p = q
        · have HC : Hid (pc = 120) := by show pc = _; rw [hpc]; rw [if_pos (.inr (.inr (.inr (.inr h5))))]
          have b1 : (p == t.p) = false := by simpa using e1
          have b2 : (p == t.b) = true := by simpa using e2
          have b5 : (p == q) = true := by simpa using h5
          clear hpc hc0 h5 h0 hm e1 e2
          go_enter Try.func35, Try.ntmps35
          go_upto_region 1 with fail
          rw [HW.out]
          go_upto_region 2 with
            (first
            | (go_at_call 34; refine Calls.mono (HN.out _ HBW.out) ?_; rintro e w1 ⟨rfl, hb1⟩
               have HR : Hid (RB w (w1.alloc (.cells #[.int .i64 t.n, .int .i64 t.p, .int .i64 t.b] 28)) w.heap.size w1.heap.size N (.slice a n c) true t) := RB.of HW.out hb1
               clear hb1)
            | fail)
          obtain ⟨w2, hw2⟩ : ∃ w2, w1.alloc (.cells #[.int .i64 t.n, .int .i64 t.p, .int .i64 t.b] 28) = w2 := ⟨_, rfl⟩
          obtain ⟨b, hb⟩ : ∃ b, w.heap.size = b := ⟨_, rfl⟩
          obtain ⟨k, hk⟩ : ∃ k, w1.heap.size = k := ⟨_, rfl⟩
          rw [hw2, hb, hk] at HR
          rw [hw2, hb, hk]
          clear hw2 hk q0 q1 q2
          obtain ⟨a0, a1, a2⟩ := cells_3 HR.out.box
          obtain ⟨r0, r1, r2⟩ := cells_3 HR.out.res
          obtain ⟨n0, n1, n2⟩ := cells_3 HR.out.now
          have fa : ∀ o, w2.frozen? ⟨b, o, none⟩ = false := free_of HR.out.box
          have fr : ∀ o, w2.frozen? ⟨b + 1, o, none⟩ = false := free_of HR.out.res
          go_wp2_with fail
          exact bodyPost_ret (results_cell_tmp rfl _ _ (b + 1) 72 _ (0, 0) _ _ rfl rfl (fill_3 HR.out.res) Try.underlying72 rfl (by kernel_rfl)) rfl ⟨by rw [HC.out]; rfl, by rw [← HR.out.eq]; exact fillB_3 HR.out.below (by rw [HR.out.eq]; exact Nat.le_succ _)⟩
        · have h6 : 401 ≤ n := Classical.byContradiction fun h6 => hc0 (by rw [hpc, if_neg (by simp only [not_or]; exact ⟨h0, hm, h3, h4, h5⟩), if_neg h6])
          have HC : Hid (pc = 3) := by show pc = _; rw [hpc]; rw [if_neg (by simp only [not_or]; exact ⟨h0, hm, h3, h4, h5⟩), if_pos h6]
          have b1 : (p == t.p) = false := by simpa using e1
          have b2 : (p == t.b) = true := by simpa using e2
          have b5 : (p == q) = false := by simpa using h5
          have h6i : (401 : Int) ≤ (n : Int) := by omega
          clear hpc hc0 h5 h0 hm e1 e2
          go_enter Try.func35, Try.ntmps35
          go_upto_region 1 with fail
          rw [HW.out]
          go_upto_region 2 with
            (first
            | (go_at_call 34; refine Calls.mono (HN.out _ HBW.out) ?_; rintro e w1 ⟨rfl, hb1⟩
               have HR : Hid (RB w (w1.alloc (.cells #[.int .i64 t.n, .int .i64 t.p, .int .i64 t.b] 28)) w.heap.size w1.heap.size N (.slice a n c) true t) := RB.of HW.out hb1
               clear hb1)
            | fail)
          obtain ⟨w2, hw2⟩ : ∃ w2, w1.alloc (.cells #[.int .i64 t.n, .int .i64 t.p, .int .i64 t.b] 28) = w2 := ⟨_, rfl⟩
          obtain ⟨b, hb⟩ : ∃ b, w.heap.size = b := ⟨_, rfl⟩
          obtain ⟨k, hk⟩ : ∃ k, w1.heap.size = k := ⟨_, rfl⟩
          rw [hw2, hb, hk] at HR
          rw [hw2, hb, hk]
          clear hw2 hk q0 q1 q2
          obtain ⟨a0, a1, a2⟩ := cells_3 HR.out.box
          obtain ⟨r0, r1, r2⟩ := cells_3 HR.out.res
          obtain ⟨n0, n1, n2⟩ := cells_3 HR.out.now
          have fa : ∀ o, w2.frozen? ⟨b, o, none⟩ = false := free_of HR.out.box
          have fr : ∀ o, w2.frozen? ⟨b + 1, o, none⟩ = false := free_of HR.out.res
          go_wp2_with fail
          exact bodyPost_ret (results_cell_tmp rfl _ _ (b + 1) 72 _ (0, 0) _ _ rfl rfl (fill_3 HR.out.res) Try.underlying72 rfl (by kernel_rfl)) rfl ⟨by rw [HC.out]; rfl, by rw [← HR.out.eq]; exact fillB_3 HR.out.below (by rw [HR.out.eq]; exact Nat.le_succ _)⟩
set_option maxHeartbeats 6400000 in
set_option maxRecDepth 100000 in
theorem refProm_un (N : Int) (L : List VwT) (v : Value) (p q : Int) (w : World) (S : Nat → Prop) (h : VwsAt w S v L) (hk : (⟨N, L, false⟩ : SvT).Ok) (hc0 : (⟨N, L, false⟩ : SvT).promC p q ≠ 0) :
    Calls Try.prog 35 #[svV N v false, .int .i64 p, .int .i64 q] w fun e w' => e = .returned (.tuple #[svV N v false, .int .i64 ((⟨N, L, false⟩ : SvT).promC p q)]) ∧ Below w.heap.size w w' := by
  have hl : L.length ≤ 401 := hk.len
  obtain ⟨a, c, rfl, _⟩ := RowAt.form h
  obtain ⟨n, hn⟩ : ∃ n, L.length = n := ⟨_, rfl⟩
  obtain ⟨t, ht⟩ : ∃ t, lastV L = t := ⟨_, rfl⟩
  obtain ⟨W, hWW⟩ : ∃ W, (w.alloc (.cells #[.int .i64 N, .slice a n c, .bool false] 72)).alloc (.cells #[.int .i64 0, .slice none 0 0, .bool false] 72) = W := ⟨_, rfl⟩
  have HW : Hid _ := hWW
  have h2 := alloc2 (w := w) (a := #[.int .i64 N, .slice a n c, .bool false]) (b := #[.int .i64 0, .slice none 0 0, .bool false]) (t := 72) (u := 72)
  rw [hWW] at h2
  have HBW : Hid (Below w.heap.size w W) := h2.2.2.1
  obtain ⟨q0, q1, q2⟩ := cells_3 h2.1
  clear h2
  have HN : Hid (∀ w', Below w.heap.size w w' → Calls Try.prog 34 #[svV N (.slice a n c) false] w' fun e w'' => e = .returned (vwV t) ∧ Below w'.heap.size w' w'') := fun w' hb => by
    have := refNow_any N _ false L w' S (VwsAt.keep h (Kp.of_below hb _)) hl
    rw [hn, ht] at this
    exact this
  have HV : Hid (VwsAt w S (.slice a n c) L) := by have h' := h; rw [hn] at h'; exact h'
  have HLN : Hid (L.length = n) := hn
  have HLT : Hid (lastV L = t) := ht
  have htn : (t.n == 2147483647) = false := by
    rw [← ht]
    by_cases he : L = []
    · rw [zero_last he]; rfl
    · have h9 : (lastV L).n = L.length := hk.last he
      simp
      omega
  have hpc : (⟨N, L, false⟩ : SvT).promC p q = if false = false then 121 else if p = 0 ∨ (p ≠ t.p ∧ p ≠ t.b) ∨ q < 0 ∨ N < q ∨ p = q then 120 else if 401 ≤ n then 3 else 0 := by unfold SvT.promC; rw [ht, hn]
  rw [hn] at hl ⊢
  obtain ⟨pc, hpc0⟩ : ∃ z, (⟨N, L, false⟩ : SvT).promC p q = z := ⟨_, rfl⟩
  rw [hpc0] at hpc hc0 ⊢
  clear h hWW hn hk hpc0 ht
  have HC : Hid (pc = 121) := by show pc = _; rw [hpc]; rw [if_pos rfl]
  clear hpc hc0 
  go_enter Try.func35, Try.ntmps35
  go_upto_region 1 with fail
  rw [HW.out]
  go_upto_region 2 with
    (first
    | (go_at_call 34; refine Calls.mono (HN.out _ HBW.out) ?_; rintro e w1 ⟨rfl, hb1⟩
       have HR : Hid (RB w (w1.alloc (.cells #[.int .i64 t.n, .int .i64 t.p, .int .i64 t.b] 28)) w.heap.size w1.heap.size N (.slice a n c) false t) := RB.of HW.out hb1
       clear hb1)
    | fail)
  obtain ⟨w2, hw2⟩ : ∃ w2, w1.alloc (.cells #[.int .i64 t.n, .int .i64 t.p, .int .i64 t.b] 28) = w2 := ⟨_, rfl⟩
  obtain ⟨b, hb⟩ : ∃ b, w.heap.size = b := ⟨_, rfl⟩
  obtain ⟨k, hk⟩ : ∃ k, w1.heap.size = k := ⟨_, rfl⟩
  rw [hw2, hb, hk] at HR
  rw [hw2, hb, hk]
  clear hw2 hk q0 q1 q2
  obtain ⟨a0, a1, a2⟩ := cells_3 HR.out.box
  obtain ⟨r0, r1, r2⟩ := cells_3 HR.out.res
  obtain ⟨n0, n1, n2⟩ := cells_3 HR.out.now
  have fa : ∀ o, w2.frozen? ⟨b, o, none⟩ = false := free_of HR.out.box
  have fr : ∀ o, w2.frozen? ⟨b + 1, o, none⟩ = false := free_of HR.out.res
  go_wp2_with fail
  exact bodyPost_ret (results_cell_tmp rfl _ _ (b + 1) 72 _ (0, 0) _ _ rfl rfl (fill_3 HR.out.res) Try.underlying72 rfl (by kernel_rfl)) rfl ⟨by rw [HC.out]; rfl, by rw [← HR.out.eq]; exact fillB_3 HR.out.below (by rw [HR.out.eq]; exact Nat.le_succ _)⟩
set_option maxHeartbeats 6400000 in
set_option maxRecDepth 100000 in
theorem refProm_ok (N : Int) (L : List VwT) (v : Value) (p q : Int) (w : World) (S : Nat → Prop) (h : VwsAt w S v L) (hk : (⟨N, L, true⟩ : SvT).Ok) (hc0 : (⟨N, L, true⟩ : SvT).promC p q = 0) :
    Calls Try.prog 35 #[svV N v true, .int .i64 p, .int .i64 q] w fun e w' => ∃ v', e = .returned (.tuple #[svV N v' false, .int .i64 0]) ∧ VwsAt w' (fun j => w.heap.size ≤ j) v' ((⟨N, L, true⟩ : SvT).prom p q).l ∧ Below w.heap.size w w' := by
  have hl : L.length ≤ 401 := hk.len
  obtain ⟨a, c, rfl, _⟩ := RowAt.form h
  obtain ⟨n, hn⟩ : ∃ n, L.length = n := ⟨_, rfl⟩
  obtain ⟨t, ht⟩ : ∃ t, lastV L = t := ⟨_, rfl⟩
  obtain ⟨W, hWW⟩ : ∃ W, (w.alloc (.cells #[.int .i64 N, .slice a n c, .bool true] 72)).alloc (.cells #[.int .i64 0, .slice none 0 0, .bool false] 72) = W := ⟨_, rfl⟩
  have HW : Hid _ := hWW
  have h2 := alloc2 (w := w) (a := #[.int .i64 N, .slice a n c, .bool true]) (b := #[.int .i64 0, .slice none 0 0, .bool false]) (t := 72) (u := 72)
  rw [hWW] at h2
  have HBW : Hid (Below w.heap.size w W) := h2.2.2.1
  obtain ⟨q0, q1, q2⟩ := cells_3 h2.1
  clear h2
  have HN : Hid (∀ w', Below w.heap.size w w' → Calls Try.prog 34 #[svV N (.slice a n c) true] w' fun e w'' => e = .returned (vwV t) ∧ Below w'.heap.size w' w'') := fun w' hb => by
    have := refNow_any N _ true L w' S (VwsAt.keep h (Kp.of_below hb _)) hl
    rw [hn, ht] at this
    exact this
  have HV : Hid (VwsAt w S (.slice a n c) L) := by have h' := h; rw [hn] at h'; exact h'
  have HLN : Hid (L.length = n) := hn
  have HLT : Hid (lastV L = t) := ht
  have hpr : ((⟨N, L, true⟩ : SvT).prom p q).l = L ++ [⟨t.n + 1, p, q⟩] := by unfold SvT.prom; rw [if_pos hc0]; show L ++ [⟨(lastV L).n + 1, p, q⟩] = _; rw [ht]
  have hne : L ≠ [] := fun e => by have := (hk.zero e).2; cases this
  have hlast : (lastV L).n = L.length := hk.last hne
  rw [ht, hn] at hlast
  have hc0 : (if p = 0 ∨ (p ≠ t.p ∧ p ≠ t.b) ∨ q < 0 ∨ N < q ∨ p = q then (120 : Int) else if 401 ≤ n then 3 else 0) = 0 := by
    have h9 := hc0
    unfold SvT.promC at h9
    rw [if_neg (by simp)] at h9
    rw [← ht, ← hn]
    exact h9
  rw [hpr]
  obtain ⟨g, o, rfl, _, hglt, _⟩ := RowAt.get h (lastV_at hne)
  have hno : ¬ (p = 0 ∨ (p ≠ t.p ∧ p ≠ t.b) ∨ q < 0 ∨ N < q ∨ p = q) := fun hh => by rw [if_pos hh] at hc0; cases hc0
  rw [if_neg hno] at hc0
  have h401 : ¬ 401 ≤ n := fun hh => by rw [if_pos hh] at hc0; cases hc0
  simp only [not_or] at hno
  obtain ⟨h0, hm, h3, h4, h5⟩ := hno
  have hn1 : 1 ≤ n := by rw [← hn]; exact List.length_pos_iff.2 hne
  have b0 : (p != 0) = true := by simpa using h0
  have b5 : (p == q) = false := by simpa using h5
  have h6i : ¬ (401 : Int) ≤ (n : Int) := by omega
  have htn : (t.n == 2147483647) = false := by rw [hlast]; simp; omega
  have hadd : t.n + 1 ≤ 402 := by rw [hlast]; omega
  have hadd0 : 0 ≤ t.n := by rw [hlast]; omega
  have HG : Hid (g < w.heap.size) := hglt
  rw [hn] at hl ⊢
  have hmm : (p = t.p) ∨ (p ≠ t.p ∧ p = t.b) := by
    by_cases e1 : p = t.p
    · exact .inl e1
    · exact .inr ⟨e1, Classical.byContradiction fun e2 => hm ⟨e1, e2⟩⟩
  clear h hWW hn hk hc0 ht hpr hne h0 hm h5 h401 hlast hglt
  have hw64 : wrap64 (t.n + 1) = t.n + 1 := by
    unfold wrap64
    omega
  rcases hmm with e1 | ⟨e1, e2⟩
  · have b1 : (p == t.p) = true := by simpa using e1
    clear e1
    go_enter Try.func35, Try.ntmps35
    go_upto_region 1 with fail
    rw [HW.out]
    go_upto_region 2 with
      (first
      | (go_at_call 34; refine Calls.mono (HN.out _ HBW.out) ?_; rintro e w1 ⟨rfl, hb1⟩
         have HR : Hid (RB w (w1.alloc (.cells #[.int .i64 t.n, .int .i64 t.p, .int .i64 t.b] 28)) w.heap.size w1.heap.size N (.slice (some ⟨g, o, none⟩) n c) true t) := RB.of HW.out hb1
         clear hb1)
      | fail)
    obtain ⟨w2, hw2⟩ : ∃ w2, w1.alloc (.cells #[.int .i64 t.n, .int .i64 t.p, .int .i64 t.b] 28) = w2 := ⟨_, rfl⟩
    obtain ⟨b, hb⟩ : ∃ b, w.heap.size = b := ⟨_, rfl⟩
    obtain ⟨k, hk⟩ : ∃ k, w1.heap.size = k := ⟨_, rfl⟩
    rw [hw2, hb, hk] at HR
    rw [hw2, hb, hk]
    clear hw2 hk q0 q1 q2
    obtain ⟨a0, a1, a2⟩ := cells_3 HR.out.box
    obtain ⟨r0, r1, r2⟩ := cells_3 HR.out.res
    obtain ⟨n0, n1, n2⟩ := cells_3 HR.out.now
    have fa : ∀ o, w2.frozen? ⟨b, o, none⟩ = false := free_of HR.out.box
    have fr : ∀ o, w2.frozen? ⟨b + 1, o, none⟩ = false := free_of HR.out.res
    go_upto_region 10 with fail
    go_wp2_with (first
      | (at_builtin; refine wpList_rows Try.underlying31 Try.info_vw rfl (by decide) rfl _ _ rfl w2.heap.size (.slice none 0 0) 0 [] rfl (World.ownsRow_nil _ _ _ _) g o n c (L.flatMap vwCs) rfl (by rw [flat_len (cells := vwCs) (sz := 3) (fun _ => rfl), HLN.out]) (vws_cells (VwsAt.keep HV.out (Kp.of_below HR.out.below _))) (vws_one _) (by unfold maxLen; omega) (by omega) (Nat.le_refl _) ?_; intro v3 w3 ho3 hg3 hat3
         have HO3 : Hid (w3.ownsRow w2.heap.size 28 3 v3 n (L.flatMap vwCs)) := by have h9 := ho3; rw [Nat.zero_add, List.nil_append] at h9; exact h9
         have HB3 : Hid (Below w2.heap.size w2 w3) := (Below.refl _ _).grown hg3 (Nat.le_refl _) (fun j hj => by cases hj)
         clear ho3 hg3 hat3 a0 a1 a2 r0 r1 r2 n0 n1 n2 fa fr
         obtain ⟨a0, a1, a2⟩ := cells_3 (kept_block HB3.out HR.out.box)
         obtain ⟨n0, n1, n2⟩ := cells_3 (kept_block HB3.out HR.out.now))
      | (at_builtin; refine wpList_row Try.underlying31 Try.info_vw rfl (by decide) rfl _ _ rfl w2.heap.size v3 n (L.flatMap vwCs) rfl (owns_below HO3.out ((Below.refl _ _).alloc (Nat.le_refl _) _)) w3.heap.size 1 (vwCs ⟨t.n + 1, p, q⟩) rfl (heap_alloc_new _ _) rfl (by simp [Value.oneCell']) (by unfold maxLen; omega) (by omega) (by have := HB3.out.size; simp; omega) ?_; intro v4 w4 ho4 hg4 hat4
         have HO4 : Hid (VwsAt w4 (fun j => w2.heap.size ≤ j) v4 (L ++ [⟨t.n + 1, p, q⟩])) := vws_row (base := w2.heap.size) (by rw [List.length_append, HLN.out, List.flatMap_append]; simpa using ho4) (fun k hk => (row_block ho4 k hk).1)
         have HB4 : Hid (Below w2.heap.size w2 w4) := (HB3.out.alloc HB3.out.size _).grown hg4 (by have := HB3.out.size; simp; omega) (fun j hj => (row_block HO3.out j hj).1)
         clear ho4 hg4 hat4 a0 a1 a2 n0 n1 n2
         obtain ⟨a0, a1, a2⟩ := cells_3 (kept_block HB4.out HR.out.box)
         have HX4 : Hid _ := kept_block HB4.out HR.out.res
         obtain ⟨r0, r1, r2⟩ := cells_3 HX4.out
         have fr : ∀ o, w4.frozen? ⟨b + 1, o, none⟩ = false := free_of HX4.out
         obtain ⟨s4, n4, c4, hv4⟩ : ∃ s4 n4 c4, v4 = .slice s4 n4 c4 := by obtain ⟨s4, c4, hv4, _⟩ := RowAt.form HO4.out; exact ⟨_, _, _, hv4⟩
         subst hv4)
      | fail)
    refine bodyPost_ret (results_cell_tmp rfl _ _ (b + 1) 72 _ (0, 0) _ _ rfl rfl (fill_3 HX4.out) Try.underlying72 rfl (by kernel_rfl)) rfl ?_
    have hb9 : Below w.heap.size w w4 := trans2 HR.out.below HB4.out
    have hlt9 : b + 1 < w2.heap.size := Nat.lt_trans HR.out.lt (lt_of_blk HR.out.now)
    have hws : w.heap.size ≤ w2.heap.size := HR.out.below.size
    exact ⟨_, rfl, VwsAt.mono (VwsAt.keep (VwsAt.mono HO4.out (T := fun j => w.heap.size ≤ j ∧ j ≠ b + 1) (fun j _ hj => ⟨Nat.le_trans hws hj, by have hj : w2.heap.size ≤ j := hj; omega⟩)) (Kp.of_chg (chg_put3 _ _ _ _ _) (fun j _ hj e => hj.2 e))) (fun j _ hj => hj.1), fillB_3 hb9 (by rw [HR.out.eq]; exact Nat.le_succ _)⟩
  · have b1 : (p == t.p) = false := by simpa using e1
    have b2 : (p == t.b) = true := by simpa using e2
    clear e1 e2
    go_enter Try.func35, Try.ntmps35
    go_upto_region 1 with fail
    rw [HW.out]
    go_upto_region 2 with
      (first
      | (go_at_call 34; refine Calls.mono (HN.out _ HBW.out) ?_; rintro e w1 ⟨rfl, hb1⟩
         have HR : Hid (RB w (w1.alloc (.cells #[.int .i64 t.n, .int .i64 t.p, .int .i64 t.b] 28)) w.heap.size w1.heap.size N (.slice (some ⟨g, o, none⟩) n c) true t) := RB.of HW.out hb1
         clear hb1)
      | fail)
    obtain ⟨w2, hw2⟩ : ∃ w2, w1.alloc (.cells #[.int .i64 t.n, .int .i64 t.p, .int .i64 t.b] 28) = w2 := ⟨_, rfl⟩
    obtain ⟨b, hb⟩ : ∃ b, w.heap.size = b := ⟨_, rfl⟩
    obtain ⟨k, hk⟩ : ∃ k, w1.heap.size = k := ⟨_, rfl⟩
    rw [hw2, hb, hk] at HR
    rw [hw2, hb, hk]
    clear hw2 hk q0 q1 q2
    obtain ⟨a0, a1, a2⟩ := cells_3 HR.out.box
    obtain ⟨r0, r1, r2⟩ := cells_3 HR.out.res
    obtain ⟨n0, n1, n2⟩ := cells_3 HR.out.now
    have fa : ∀ o, w2.frozen? ⟨b, o, none⟩ = false := free_of HR.out.box
    have fr : ∀ o, w2.frozen? ⟨b + 1, o, none⟩ = false := free_of HR.out.res
    go_upto_region 10 with fail
    go_wp2_with (first
      | (at_builtin; refine wpList_rows Try.underlying31 Try.info_vw rfl (by decide) rfl _ _ rfl w2.heap.size (.slice none 0 0) 0 [] rfl (World.ownsRow_nil _ _ _ _) g o n c (L.flatMap vwCs) rfl (by rw [flat_len (cells := vwCs) (sz := 3) (fun _ => rfl), HLN.out]) (vws_cells (VwsAt.keep HV.out (Kp.of_below HR.out.below _))) (vws_one _) (by unfold maxLen; omega) (by omega) (Nat.le_refl _) ?_; intro v3 w3 ho3 hg3 hat3
         have HO3 : Hid (w3.ownsRow w2.heap.size 28 3 v3 n (L.flatMap vwCs)) := by have h9 := ho3; rw [Nat.zero_add, List.nil_append] at h9; exact h9
         have HB3 : Hid (Below w2.heap.size w2 w3) := (Below.refl _ _).grown hg3 (Nat.le_refl _) (fun j hj => by cases hj)
         clear ho3 hg3 hat3 a0 a1 a2 r0 r1 r2 n0 n1 n2 fa fr
         obtain ⟨a0, a1, a2⟩ := cells_3 (kept_block HB3.out HR.out.box)
         obtain ⟨n0, n1, n2⟩ := cells_3 (kept_block HB3.out HR.out.now))
      | (at_builtin; refine wpList_row Try.underlying31 Try.info_vw rfl (by decide) rfl _ _ rfl w2.heap.size v3 n (L.flatMap vwCs) rfl (owns_below HO3.out ((Below.refl _ _).alloc (Nat.le_refl _) _)) w3.heap.size 1 (vwCs ⟨t.n + 1, p, q⟩) rfl (heap_alloc_new _ _) rfl (by simp [Value.oneCell']) (by unfold maxLen; omega) (by omega) (by have := HB3.out.size; simp; omega) ?_; intro v4 w4 ho4 hg4 hat4
         have HO4 : Hid (VwsAt w4 (fun j => w2.heap.size ≤ j) v4 (L ++ [⟨t.n + 1, p, q⟩])) := vws_row (base := w2.heap.size) (by rw [List.length_append, HLN.out, List.flatMap_append]; simpa using ho4) (fun k hk => (row_block ho4 k hk).1)
         have HB4 : Hid (Below w2.heap.size w2 w4) := (HB3.out.alloc HB3.out.size _).grown hg4 (by have := HB3.out.size; simp; omega) (fun j hj => (row_block HO3.out j hj).1)
         clear ho4 hg4 hat4 a0 a1 a2 n0 n1 n2
         obtain ⟨a0, a1, a2⟩ := cells_3 (kept_block HB4.out HR.out.box)
         have HX4 : Hid _ := kept_block HB4.out HR.out.res
         obtain ⟨r0, r1, r2⟩ := cells_3 HX4.out
         have fr : ∀ o, w4.frozen? ⟨b + 1, o, none⟩ = false := free_of HX4.out
         obtain ⟨s4, n4, c4, hv4⟩ : ∃ s4 n4 c4, v4 = .slice s4 n4 c4 := by obtain ⟨s4, c4, hv4, _⟩ := RowAt.form HO4.out; exact ⟨_, _, _, hv4⟩
         subst hv4)
      | fail)
    refine bodyPost_ret (results_cell_tmp rfl _ _ (b + 1) 72 _ (0, 0) _ _ rfl rfl (fill_3 HX4.out) Try.underlying72 rfl (by kernel_rfl)) rfl ?_
    have hb9 : Below w.heap.size w w4 := trans2 HR.out.below HB4.out
    have hlt9 : b + 1 < w2.heap.size := Nat.lt_trans HR.out.lt (lt_of_blk HR.out.now)
    have hws : w.heap.size ≤ w2.heap.size := HR.out.below.size
    exact ⟨_, rfl, VwsAt.mono (VwsAt.keep (VwsAt.mono HO4.out (T := fun j => w.heap.size ≤ j ∧ j ≠ b + 1) (fun j _ hj => ⟨Nat.le_trans hws hj, by have hj : w2.heap.size ≤ j := hj; omega⟩)) (Kp.of_chg (chg_put3 _ _ _ _ _) (fun j _ hj e => hj.2 e))) (fun j _ hj => hj.1), fillB_3 hb9 (by rw [HR.out.eq]; exact Nat.le_succ _)⟩
end Go.Proofs.Ytlbhnlpdijhmlaa
