/-
  heraldref10: Put.
-/
import Derived.Test.YtlidkieljiebiaaQRefN
import Derived.Test.YtlidkieljiebiaaQStep
namespace Go.Proofs.Ytlidkieljiebiaa
open Go.RowKit
set_option linter.unusedVariables false
set_option linter.unusedSimpArgs false

theorem step_one {P : Program} {ops : Array Oper} {o : Oper} {a : Act} {w : World} {K : Act → World → Prop} {Q : Exit → Act → World → Prop} {E : Prop} (hgd : o.guard = none) (f : FuncId) (x : Operand) (ts : Array TypeId)
    (ho : o.op = .call { callee := .value (.func f), args := #[x], argTypes := ts }) (ef : ∀ args w, (callFunc f args).run P w = .ok (.enter f args) w) (u : Value) (hx : a.eval x = u) {R : Ending → World → Prop} (hc : Calls P f #[u] w R)
    (h : ∀ e w', R e w' → ∃ r, e = .returned r ∧ K (a.put o.dst r) w') :
    if Region.wanted o (yielded ops a.tmps) = true then Oper.wp P o a w K Q else E := by
  have hw : Region.wanted o (yielded ops a.tmps) = true := by simp [Region.wanted, hgd]
  rw [if_pos hw]
  have he : (execOp a.eval o).run P w = .ok (.enter f #[u]) w := by
    have hf : a.eval (.func f) = .func (.func f) #[] #[] := rfl
    simp [execOp, ho, resolve, invoke, Deferred.ofValue, hx, hf, ef]
  unfold Oper.wp
  rw [he, Oper.upon_enter]
  refine hc.mono ?_
  intro e w' hR
  obtain ⟨r, rfl, hk⟩ := h e w' hR
  exact hk
theorem step_row {tS tE sz bt : Nat} {z : Value} (hu : Try.prog.underlying tS = some (.slice tE)) (hinfo : (Try.prog.info? tE).map (fun i => (i.zero, i.size, i.bytes)) = some (some z, sz, bt)) (hzs : z.cells.size = sz) (h0 : 0 < sz)
    {ops : Array Oper} {o : Oper} {a : Act} {w : World} {K : Act → World → Prop} {Q : Exit → Act → World → Prop} {E : Prop} (hgd : o.guard = none) (s x : Operand) (ho : o.op = .call { callee := .builtin .append, args := #[s, x], argTypes := #[tS, tS] })
    (base : Nat) (v : Value) (n : Nat) (xs : List Value) (hs : a.eval s = v) (hown : w.ownsRow base tE sz v n xs) (g c : Nat) (news : List Value) (hx : a.eval x = .slice (some ⟨g, 0, none⟩) 1 c) (hg : w.heap[g]? = some (.cells news.toArray tE (0, 0))) (hl : news.length = sz) (h1 : ∀ u ∈ news, u.oneCell' = true)
    (hb1 : n + 1 ≤ maxLen) (hb2 : (n + 1) * bt ≤ 140737488355328) (hB : base ≤ w.heap.size)
    (h : ∀ v' w', w'.ownsRow base tE sz v' (n + 1) (xs ++ news) → w.grownBy w' v.ownBlock → (v'.ownBlock = v.ownBlock ∨ v'.ownBlock = some w.heap.size) → K (a.put o.dst v') w') :
    if Region.wanted o (yielded ops a.tmps) = true then Oper.wp Try.prog o a w K Q else E := by
  have hw : Region.wanted o (yielded ops a.tmps) = true := by simp [Region.wanted, hgd]
  rw [if_pos hw]
  cases hi : Try.prog.info? tE with
  | none => rw [hi] at hinfo; cases hinfo
  | some i0 =>
    rw [hi] at hinfo
    simp only [Option.map_some, Option.some.injEq, Prod.mk.injEq] at hinfo
    obtain ⟨v', w', hr, g2, g3, _, g5⟩ := run_append_own_at (P := Try.prog) w base tS o.type tE i0 _ sz bt hu hi hinfo.1 hinfo.2.1 hinfo.2.2 hzs h0 v n xs hown ⟨g, 0, none⟩ 1 c news (by rw [hl, Nat.one_mul]) (fun j u hj => by rw [addr_add, Nat.zero_add, cell_blkD hg]; simpa using hj) h1 hb1 hb2 hB
    unfold Oper.wp execOp
    simp only [ho, resolve, invoke, builtin, Sem.run_bind, Sem.run_pure, Result.andThen_ok, List.map_toArray, List.map_cons, List.map_nil, hs, hx, hr]
    exact h v' w' g2 g3 g5
/-- What the document's Put says of a refusal. -/
theorem put_why {Q : QuT} {st : Int} {l : List TgT} (h : Q.putC st l ≠ 0) (hf : Q.l.length ≤ Q.room) : (folQ Q.last st ≠ 0 ∧ Q.putC st l = folQ Q.last st) ∨ (folQ Q.last st = 0 ∧ l.length = 0 ∧ Q.putC st l = 100) ∨ (folQ Q.last st = 0 ∧ l.length ≠ 0 ∧ tagless l = true ∧ Q.putC st l = 100) ∨ (folQ Q.last st = 0 ∧ l.length ≠ 0 ∧ tagless l = false ∧ Q.l.length = Q.room ∧ Q.putC st l = 46) := by
  unfold QuT.putC at h ⊢
  rw [may_fol] at h ⊢
  by_cases h1 : folQ Q.last st = 0
  · by_cases h2 : l = []
    · exact .inr (.inl ⟨h1, by rw [h2]; rfl, by simp [h1, h2]⟩)
    · have h2' : l.length ≠ 0 := fun e => h2 (List.eq_nil_of_length_eq_zero e)
      cases h3 : tagless l with
      | true => exact .inr (.inr (.inl ⟨h1, h2', rfl, by simp [h1, h2, h3]⟩))
      | false =>
        by_cases h4 : Q.l.length = Q.room
        · exact .inr (.inr (.inr ⟨h1, h2', rfl, h4, by simp [h1, h2, h3, h4]⟩))
        · simp [h1, h2, h3, h4] at h
  · exact .inl ⟨h1, by simp [h1]⟩
theorem rq_cells {w : World} {r x : Int} {v : Value} : ((w.alloc (.cells #[.int .i64 r, .int .i64 x, v] 67)).alloc (.cells #[.int .i64 0, .int .i64 0, .slice none 0 0] 67)).heap[w.heap.size]? = some (.cells #[.int .i64 r, .int .i64 x, v] 67 (0, 0)) ∧ ((w.alloc (.cells #[.int .i64 r, .int .i64 x, v] 67)).alloc (.cells #[.int .i64 0, .int .i64 0, .slice none 0 0] 67)).heap[w.heap.size + 1]? = some (.cells #[.int .i64 0, .int .i64 0, .slice none 0 0] 67 (0, 0)) ∧ Below w.heap.size w ((w.alloc (.cells #[.int .i64 r, .int .i64 x, v] 67)).alloc (.cells #[.int .i64 0, .int .i64 0, .slice none 0 0] 67)) := pair_blocks
set_option maxHeartbeats 3200000 in
set_option maxRecDepth 100000 in
theorem refPut_no (Q : QuT) (st : Int) (v vl : Value) (l : List TgT) (w : World) (S P : Nat → Prop) (h : ItsAt w S v Q.l) (hl : TgsAt w P vl l) (hs : TgsSmall l) (hf : Q.l.length ≤ Q.room) (hr : Q.room ≤ 32) (hc : Q.putC st l ≠ 0) :
    Calls Try.prog 49 #[rqV Q.room Q.last v, .int .i64 st, vl] w fun e w' => e = .returned (.tuple #[rqV Q.room Q.last v, .int .i64 (Q.putC st l)]) ∧ Below w.heap.size w w' := by
  obtain ⟨a, c, rfl, _⟩ := RowAt.form h
  obtain ⟨la, lc, rfl, _⟩ := RowAt.form hl
  obtain ⟨n, hn⟩ : ∃ n, l.length = n := ⟨_, rfl⟩
  obtain ⟨qn, hqn⟩ : ∃ n, Q.l.length = n := ⟨_, rfl⟩
  have hcase := put_why hc hf
  have hn1 : n ≤ 140737488355328 := by have := hs.len; unfold MaxRow at this; omega
  rw [hn] at hl hcase ⊢
  rw [hqn] at hcase hf ⊢
  obtain ⟨hA, hB, hbel⟩ := rq_cells (w := w) (r := Q.room) (x := Q.last) (v := .slice a qn c)
  have HF : Hid (∀ w', _) := fun w' => follows_any Q.room Q.last (.slice a qn c) st w'
  have HN : Hid (l.length = n) := hn
  obtain ⟨W, hW⟩ : ∃ W, ((w.alloc (.cells #[.int .i64 Q.room, .int .i64 Q.last, .slice a qn c] 67)).alloc (.cells #[.int .i64 0, .int .i64 0, .slice none 0 0] 67)) = W := ⟨_, rfl⟩
  rw [hW] at hA hB hbel
  have HTW : Hid (TgsAt W P (.slice la n lc) l) := TgsAt.keep hl (Kp.of_below hbel _)
  have HA : Hid _ := hA
  have HB : Hid _ := hB
  have HBW : Hid (Below w.heap.size w W) := hbel
  have HWW : Hid (_ = W) := hW
  obtain ⟨fo, hfo⟩ : ∃ z, folQ Q.last st = z := ⟨_, rfl⟩
  rw [hfo] at HF hcase
  obtain ⟨pz, hpz⟩ : ∃ z, Q.putC st l = z := ⟨_, rfl⟩
  rw [hpz] at hcase ⊢
  obtain ⟨c0, c1, c2⟩ := cells_3 hA
  clear hn hqn hs hl h hA hB hbel hW hfo hc hpz
  obtain ⟨room, first, last, ql⟩ := Q
  simp only at *
  rcases hcase with ⟨h1, rfl⟩ | ⟨rfl, rfl, rfl⟩ | ⟨rfl, h2, h3, rfl⟩ | ⟨rfl, h2, h3, rfl, rfl⟩
  · have d1 : (pz == 0) = false := by simpa using h1
    go_enter Try.func49, Try.ntmps49
    go_wp2_with fail
    rw [HWW.out]
    refine Calls.mono (HF.out _) ?_
    rintro e w1 ⟨rfl, hb1⟩
    have HA1 : Hid _ := kept_block hb1 HA.out
    have HB1 : Hid _ := kept_block hb1 HB.out
    have HBW1 : Hid (Below w.heap.size w w1) := trans2 HBW.out hb1
    have HT1 : Hid (TgsAt w1 P (.slice la n lc) l) := TgsAt.keep HTW.out (Kp.of_below hb1 _)
    obtain ⟨c0, c1, c2⟩ := cells_3 HA1.out
    have f1 := free_of HB1.out
    obtain ⟨r0, r1, r2⟩ := cells_3 HB1.out
    obtain ⟨g, hg⟩ : ∃ g, w.heap.size = g := ⟨_, rfl⟩
    have HG : Hid (w.heap.size = g) := hg
    rw [hg] at c0 c1 c2 f1 r0 r1 r2 HA1 HB1 ⊢
    clear hb1 hg
    go_wp2_with fail
    exact bodyPost_ret (results_cell_tmp rfl _ _ (g + 1) 67 _ (0, 0) _ _ rfl rfl (fill_3 HB1.out) Try.underlying67 rfl (by kernel_rfl)) rfl ⟨rfl, by rw [← HG.out]; exact fillB_3 HBW1.out (by rw [HG.out]; omega)⟩
  · go_enter Try.func49, Try.ntmps49
    go_wp2_with fail
    rw [HWW.out]
    refine Calls.mono (HF.out _) ?_
    rintro e w1 ⟨rfl, hb1⟩
    have HA1 : Hid _ := kept_block hb1 HA.out
    have HB1 : Hid _ := kept_block hb1 HB.out
    have HBW1 : Hid (Below w.heap.size w w1) := trans2 HBW.out hb1
    have HT1 : Hid (TgsAt w1 P (.slice la 0 lc) l) := TgsAt.keep HTW.out (Kp.of_below hb1 _)
    obtain ⟨c0, c1, c2⟩ := cells_3 HA1.out
    have f1 := free_of HB1.out
    obtain ⟨r0, r1, r2⟩ := cells_3 HB1.out
    obtain ⟨g, hg⟩ : ∃ g, w.heap.size = g := ⟨_, rfl⟩
    have HG : Hid (w.heap.size = g) := hg
    rw [hg] at c0 c1 c2 f1 r0 r1 r2 HA1 HB1 ⊢
    clear hb1 hg
    go_wp2_with fail
    exact bodyPost_ret (results_cell_tmp rfl _ _ (g + 1) 67 _ (0, 0) _ _ rfl rfl (fill_3 HB1.out) Try.underlying67 rfl (by kernel_rfl)) rfl ⟨rfl, by rw [← HG.out]; exact fillB_3 HBW1.out (by rw [HG.out]; omega)⟩
  · have d2 : ((n : Int) == 0) = false := by simp; omega
    go_enter Try.func49, Try.ntmps49
    go_wp2_with fail
    rw [HWW.out]
    refine Calls.mono (HF.out _) ?_
    rintro e w1 ⟨rfl, hb1⟩
    have HA1 : Hid _ := kept_block hb1 HA.out
    have HB1 : Hid _ := kept_block hb1 HB.out
    have HBW1 : Hid (Below w.heap.size w w1) := trans2 HBW.out hb1
    have HT1 : Hid (TgsAt w1 P (.slice la n lc) l) := TgsAt.keep HTW.out (Kp.of_below hb1 _)
    obtain ⟨c0, c1, c2⟩ := cells_3 HA1.out
    have f1 := free_of HB1.out
    obtain ⟨r0, r1, r2⟩ := cells_3 HB1.out
    obtain ⟨g, hg⟩ : ∃ g, w.heap.size = g := ⟨_, rfl⟩
    have HG : Hid (w.heap.size = g) := hg
    rw [hg] at c0 c1 c2 f1 r0 r1 r2 HA1 HB1 ⊢
    clear hb1 hg
    go_wp2_with fail
    obtain ⟨d9, hd9⟩ : ∃ d : Int, d = 0 := ⟨0, rfl⟩
    clear hd9
    go_loopw [9] (fun i wr => ∃ q : Nat, i = .int .i64 q ∧ q ≤ n ∧ wr = w1 ∧ Hid (∀ (i : Nat) (t : TgT), i < q → l[i]? = some t → t.tags ≠ [])) (fun i _ => n - (intOf i).toNat)
    case atStart => exact ⟨0, rfl, Nat.zero_le _, by trivial, fun i t hi => absurd hi (Nat.not_lt_zero _)⟩
    case round =>
      obtain ⟨q, rfl, hq, hw, HT⟩ := hrel
      subst hw
      by_cases hlt : q < n
      · have hqi : (q : Int) < (n : Int) := by omega
        obtain ⟨x, hx⟩ : ∃ x, l[q]? = some x := ⟨l[q]'(by rw [HN.out]; exact hlt), List.getElem?_eq_getElem _⟩
        obtain ⟨b, o, rfl, _, _, u, e1⟩ := RowAt.get HT1.out hx
        obtain ⟨ta, tc, rfl, _⟩ := RowAt.form e1.tags
        have x4 := e1.cu
        obtain ⟨tn, htn⟩ : ∃ z, x.tags.length = z := ⟨_, rfl⟩
        rw [htn] at x4
        by_cases h0 : tn = 0
        · subst h0
          clear hx e1 htn
          go_wp2_with fail
          exact bodyPost_ret (results_cell_tmp rfl _ _ (g + 1) 67 _ (0, 0) _ _ rfl rfl (fill_3 HB1.out) Try.underlying67 rfl (by kernel_rfl)) rfl ⟨rfl, by rw [← HG.out]; exact fillB_3 HBW1.out (by rw [HG.out]; omega)⟩
        · have hz : ((tn : Int) == 0) = false := by simp; omega
          have HT2 : Hid (∀ (i : Nat) (t : TgT), i < q + 1 → l[i]? = some t → t.tags ≠ []) := fun i t hi hit => by
            by_cases he : i = q
            · subst he
              rw [hx] at hit
              cases hit
              intro e
              rw [e] at htn
              exact h0 htn.symm
            · exact HT.out i t (by omega) hit
          clear hx e1 htn h0
          go_wp2_with fail
          go_roundw
          case rel => exact ⟨q + 1, by go_num, by omega, by trivial, HT2⟩
          case measure => simp [intOf]; omega
      · obtain rfl : q = n := by omega
        have hge : ¬ (q : Int) < (q : Int) := by omega
        exact absurd h3 (by rw [tagless_not (fun i t hi hit => HT.out i t (by rw [← HN.out]; exact hi) hit)]; simp)
  · have d2 : ((n : Int) == 0) = false := by simp; omega
    go_enter Try.func49, Try.ntmps49
    go_wp2_with fail
    rw [HWW.out]
    refine Calls.mono (HF.out _) ?_
    rintro e w1 ⟨rfl, hb1⟩
    have HA1 : Hid _ := kept_block hb1 HA.out
    have HB1 : Hid _ := kept_block hb1 HB.out
    have HBW1 : Hid (Below w.heap.size w w1) := trans2 HBW.out hb1
    have HT1 : Hid (TgsAt w1 P (.slice la n lc) l) := TgsAt.keep HTW.out (Kp.of_below hb1 _)
    obtain ⟨c0, c1, c2⟩ := cells_3 HA1.out
    have f1 := free_of HB1.out
    obtain ⟨r0, r1, r2⟩ := cells_3 HB1.out
    obtain ⟨g, hg⟩ : ∃ g, w.heap.size = g := ⟨_, rfl⟩
    have HG : Hid (w.heap.size = g) := hg
    rw [hg] at c0 c1 c2 f1 r0 r1 r2 HA1 HB1 ⊢
    clear hb1 hg
    go_wp2_with fail
    obtain ⟨d9, hd9⟩ : ∃ d : Int, d = 0 := ⟨0, rfl⟩
    clear hd9
    go_loopw [9] (fun i wr => ∃ q : Nat, i = .int .i64 q ∧ q ≤ n ∧ wr = w1 ∧ Hid (∀ (i : Nat) (t : TgT), i < q → l[i]? = some t → t.tags ≠ [])) (fun i _ => n - (intOf i).toNat)
    case atStart => exact ⟨0, rfl, Nat.zero_le _, by trivial, fun i t hi => absurd hi (Nat.not_lt_zero _)⟩
    case round =>
      obtain ⟨q, rfl, hq, hw, HT⟩ := hrel
      subst hw
      by_cases hlt : q < n
      · have hqi : (q : Int) < (n : Int) := by omega
        obtain ⟨x, hx⟩ : ∃ x, l[q]? = some x := ⟨l[q]'(by rw [HN.out]; exact hlt), List.getElem?_eq_getElem _⟩
        obtain ⟨b, o, rfl, _, _, u, e1⟩ := RowAt.get HT1.out hx
        obtain ⟨ta, tc, rfl, _⟩ := RowAt.form e1.tags
        have x4 := e1.cu
        obtain ⟨tn, htn⟩ : ∃ z, x.tags.length = z := ⟨_, rfl⟩
        rw [htn] at x4
        by_cases h0 : tn = 0
        · subst h0
          exact absurd (tagless_at hx (List.eq_nil_of_length_eq_zero htn)) (by rw [h3]; simp)
        · have hz : ((tn : Int) == 0) = false := by simp; omega
          have HT2 : Hid (∀ (i : Nat) (t : TgT), i < q + 1 → l[i]? = some t → t.tags ≠ []) := fun i t hi hit => by
            by_cases he : i = q
            · subst he
              rw [hx] at hit
              cases hit
              intro e
              rw [e] at htn
              exact h0 htn.symm
            · exact HT.out i t (by omega) hit
          clear hx e1 htn h0
          go_wp2_with fail
          go_roundw
          case rel => exact ⟨q + 1, by go_num, by omega, by trivial, HT2⟩
          case measure => simp [intOf]; omega
      · obtain rfl : q = n := by omega
        have hge : ¬ (q : Int) < (q : Int) := by omega
        go_wp2_with fail
        exact bodyPost_ret (results_cell_tmp rfl _ _ (g + 1) 67 _ (0, 0) _ _ rfl rfl (fill_3 HB1.out) Try.underlying67 rfl (by kernel_rfl)) rfl ⟨rfl, by rw [← HG.out]; exact fillB_3 HBW1.out (by rw [HG.out]; omega)⟩
end Go.Proofs.Ytlidkieljiebiaa
