/-
  heraldref10: Took.
-/
import Derived.Test.YtlidkieljiebiaaQRefV
namespace Go.Proofs.Ytlidkieljiebiaa
open Go.RowKit
set_option linter.unusedVariables false
set_option linter.unusedSimpArgs false

theorem snd_head {last : Nat} {a : ItT} : ∀ {l : List ItT}, Snd last (a :: l) → ∀ t ∈ l, a.st < t.st
  | [], _, t, ht => by cases ht
  | b :: r, h, t, ht => by
    have h1 := h.next 0 a b rfl rfl
    have h2 := (h.each b (by simp)).up
    rcases List.mem_cons.1 ht with rfl | ht
    · omega
    · have := snd_head (l := r) (a := b) (h.drop 1) t ht
      omega
theorem took_filter {last : Nat} {st : Int} : ∀ {l : List ItT}, Snd last l → l.filter (fun t => decide (st < t.st)) = l.drop (tookN l st)
  | [], _ => by simp
  | a :: l, h => by
    by_cases h1 : a.st ≤ st
    · have h2 : ¬ st < a.st := by omega
      have h3 : tookN (a :: l) st = tookN l st + 1 := by unfold tookN; rw [List.takeWhile_cons, if_pos (by simpa using h1)]; rfl
      rw [h3, List.drop_succ_cons, List.filter_cons_of_neg (by simpa using h2)]
      exact took_filter (h.drop 1)
    · have h2 : st < a.st := by omega
      have h3 : tookN (a :: l) st = 0 := by unfold tookN; rw [List.takeWhile_cons, if_neg (by simpa using h1)]; rfl
      rw [h3, List.drop_zero]
      refine List.filter_eq_self.2 fun t ht => ?_
      rcases List.mem_cons.1 ht with rfl | ht
      · simpa using h2
      · have := snd_head h t ht
        simp; omega
set_option maxHeartbeats 6400000 in
set_option maxRecDepth 100000 in
theorem refTook_any (Q : QuT) (st : Int) (v : Value) (w : World) (S : Nat → Prop) (h : ItsAt w S v Q.l) (hl : Q.l.length ≤ 32) (hsnd : Snd Q.last Q.l) :
    Calls Try.prog 55 #[rqV Q.room Q.last v, .int .i64 st] w fun e w' => ∃ v', e = .returned (.tuple #[rqV Q.room Q.last v', .int .i64 (tookN Q.l st)]) ∧ ItsAt w' (fun j => S j ∨ w.heap.size ≤ j) v' (Q.l.drop (tookN Q.l st)) ∧ Below w.heap.size w w' := by
  have hflt := took_filter (st := st) hsnd
  have hfl : (Q.l.filter (fun t => decide (st < t.st))).length = Q.l.length - tookN Q.l st := by rw [hflt, List.length_drop]
  have htk := tookN_le Q.l st
  rw [← hflt]
  obtain ⟨a, c, rfl, _⟩ := RowAt.form h
  obtain ⟨room, first, last, ql⟩ := Q
  simp only at *
  obtain ⟨qn, hqn⟩ : ∃ n, ql.length = n := ⟨_, rfl⟩
  obtain ⟨tk, htk0⟩ : ∃ z, tookN ql st = z := ⟨_, rfl⟩
  rw [hqn] at h hl hfl htk ⊢
  rw [htk0] at hfl htk ⊢
  obtain ⟨hA, hB, hbel⟩ := rq_cells (w := w) (r := room) (x := last) (v := .slice a qn c)
  obtain ⟨W, hW⟩ : ∃ W, ((w.alloc (.cells #[.int .i64 room, .int .i64 last, .slice a qn c] 67)).alloc (.cells #[.int .i64 0, .int .i64 0, .slice none 0 0] 67)) = W := ⟨_, rfl⟩
  rw [hW] at hA hB hbel
  obtain ⟨g, hg⟩ : ∃ g, w.heap.size = g := ⟨_, rfl⟩
  rw [hg] at hA hB
  obtain ⟨W2, hW2⟩ : ∃ W2, W.alloc (.cells #[.int .i64 room, .int .i64 last, .slice none 0 0] 67) = W2 := ⟨_, rfl⟩
  have hA2 : W2.heap[W.heap.size]? = some (.cells #[.int .i64 room, .int .i64 last, .slice none 0 0] 67 (0, 0)) := by rw [← hW2]; exact heap_alloc_new _ _
  have hb2 : Below W.heap.size W W2 := by rw [← hW2]; exact (Below.refl _ _).alloc (Nat.le_refl _) _
  have hsz : W.heap.size = g + 1 + 1 := by rw [← hW]; simp [hg]
  obtain ⟨g10, hg10⟩ : ∃ z, W.heap.size = z := ⟨_, rfl⟩
  rw [hg10] at hA2
  obtain ⟨T, hT⟩ : ∃ T : Nat → Prop, T = fun j => j < w.heap.size ∧ S j := ⟨_, rfl⟩
  have HTT : Hid (∀ j, T j ↔ (j < w.heap.size ∧ S j)) := fun j => by rw [hT]
  have HM0 : Hid (MkI W W2 T g10 room last (.slice none 0 0) []) := ⟨owns_nil _ _ _ _, hA2, (fun x hx => by cases hx), hb2⟩
  have HIT : Hid (ItsAt W T (.slice a qn c) ql) := ItsAt.keep (its_mono h (fun k hk h => (HTT.out k).2 ⟨hk, h⟩)) (Kp.of_below hbel _)
  have HA1 : Hid (W.heap[g]? = some (.cells #[.int .i64 room, .int .i64 last, .slice a qn c] 67 (0, 0))) := hA
  have HB1 : Hid (W.heap[g + 1]? = some (.cells #[.int .i64 0, .int .i64 0, .slice none 0 0] 67 (0, 0))) := hB
  have HSG : Hid (w.heap.size = g ∧ g10 = g + 1 + 1 ∧ W.heap.size = g10) := ⟨hg, by omega, hg10⟩
  have HW : Hid (((w.alloc (.cells #[.int .i64 room, .int .i64 last, .slice a qn c] 67)).alloc (.cells #[.int .i64 0, .int .i64 0, .slice none 0 0] 67)).alloc (.cells #[.int .i64 room, .int .i64 last, .slice none 0 0] 67) = W2) := by show _ = _; rw [hW, hW2]
  have HBW : Hid (Below w.heap.size w W) := hbel
  have HQN : Hid (ql.length = qn) := hqn
  have HFL : Hid ((ql.filter (fun t => decide (st < t.st))).length = qn - tk) := hfl
  obtain ⟨q0, q1, q2⟩ := cells_3 hA
  clear hW hW2 hA hB hA2 hb2 hbel hT hqn h hflt hfl hsnd htk0
  go_enter Try.func55, Try.ntmps55
  go_upto_region 2 with fail
  rw [HW.out, ← HSG.out.2.1]
  clear q0 q1 q2 hsz hg hg10
  go_wp2_with fail
  go_loopw [7] (fun i wr => ∃ (j kn : Nat) (na : Option Addr) (nc : Nat) (L : List (ItT × Value × Value)), i = .int .i64 j ∧ j ≤ qn ∧ kn ≤ j ∧ Hid (L.length = kn) ∧ Hid (L.map (·.1) = (ql.take j).filter (fun t => decide (st < t.st))) ∧ Hid (MkI W wr T g10 room last (.slice na kn nc) L)) (fun i _ => qn - (intOf i).toNat)
  case atStart => exact ⟨0, 0, none, 0, [], rfl, Nat.zero_le _, Nat.zero_le _, rfl, rfl, HM0⟩
  case round =>
    obtain ⟨j, kn, na, nc, L, rfl, hj, hkn, HLJ, HL, HM⟩ := hrel
    have hbr := HM.out.below
    obtain ⟨c0, c1, c2⟩ := cells_3 (kept_block hbr HA1.out)
    obtain ⟨n0, n1, n2⟩ := cells_3 HM.out.box
    have fn := free_of HM.out.box
    by_cases hjl : j < qn
    · have hji : (j : Int) < (qn : Int) := by omega
      obtain ⟨x, hx⟩ : ∃ x, ql[j]? = some x := ⟨ql[j]'(by rw [HQN.out]; exact hjl), List.getElem?_eq_getElem _⟩
      obtain ⟨b5, o5, rfl, hS5, hb5, v1, v2, e5⟩ := RowAt.get HIT.out hx
      have e5 := e5.keep (Kp.of_below hbr _) (fun k v hv _ _ => by rw [hbr.cell (p := ⟨b5, k, none⟩) hb5]; exact hv)
      obtain ⟨y0, y1, y2, y3, y4, yc, yp⟩ := e5
      obtain ⟨ca, cc, rfl, _⟩ := RowAt.form yc
      obtain ⟨pa, pc, rfl, _⟩ := RowAt.form yp
      have HYC : Hid (TgsAt wr T (.slice ca x.cs.length cc) x.cs ∧ PasAt wr T (.slice pa x.ps.length pc) x.ps) := ⟨yc, yp⟩
      by_cases hst : st < x.st
      · have HT2 : Hid (L.map (·.1) ++ [x] = (ql.take (j + 1)).filter (fun t => decide (st < t.st))) := by show _ = _; rw [HL.out, take_at hx, List.filter_append]; simp [hst]
        have hby : (kn + 1) * 72 ≤ 140737488355328 := by omega
        have hold : ∀ ob o, (wr.alloc ob).cell? ⟨g10, o, none⟩ = wr.cell? ⟨g10, o, none⟩ := fun ob o => ((Below.refl wr.heap.size wr).alloc (Nat.le_refl _) ob).cell (p := ⟨g10, o, none⟩) (lt_of_blk HM.out.box)
        clear hx yc yp hb5 hS5 hbr
        go_wp2_with fail
        go_region_law
          (first
          | (refine step_row Try.underlying39 Try.info_it rfl (by decide) rfl (.tmp 29) (.tmp 35) rfl (W.heap.size + 1) (.slice na kn nc) kn (L.flatMap fun x => itCs x.1 x.2.1 x.2.2) (by simp [Act.eval, Act.put]) (by have h9 := HM.out.row; rw [HLJ.out] at h9; exact owns_below h9 ((below_drew (Below.refl _ _)).alloc (Nat.le_refl _) _)) wr.heap.size 1 (itCs x (.slice ca x.cs.length cc) (.slice pa x.ps.length pc)) (by simp [Act.eval, Act.put]) (heap_alloc_new wr.drew _) rfl (by simp [Value.oneCell']) (by unfold maxLen; omega) hby (by have h1 := lt_of_blk HM.out.box; have h2 := HSG.out; show W.heap.size + 1 ≤ (wr.drew.alloc _).heap.size; rw [World.size_alloc]; show _ ≤ wr.heap.size + 1; omega) ?_
             intro v5 w5 hd5 hg5 ho5
             have hal : Below wr.heap.size wr (wr.drew.alloc (.cells (itCs x (.slice ca x.cs.length cc) (.slice pa x.ps.length pc)).toArray 42)) := (below_drew (Below.refl _ _)).alloc (Nat.le_refl _) _
             obtain ⟨sa, sc, hv5, _⟩ := row_form hd5
             subst hv5
             have HM5 : Hid (MkI W (w5.setCell ⟨g10, 2, none⟩ (.slice sa (kn + 1) sc)) T g10 room last (.slice sa (kn + 1) sc) (L ++ [(x, .slice ca x.cs.length cc, .slice pa x.ps.length pc)])) := (HM.out.at hal).push HSG.out.2.2.symm (fun k hk => by
                 have h1 := (HTT.out k).1 hk
                 have h4 := HSG.out
                 refine ⟨by omega, fun e => ?_⟩
                 have h2 := (row_block HM.out.row k e).1
                 omega) ⟨TgsAt.keep HYC.out.1 (Kp.of_below hal _), PasAt.keep HYC.out.2 (Kp.of_below hal _)⟩ (by rw [HLJ.out]; exact hd5) hg5
             have hbx5 : w5.heap[g10]? = some (.cells #[.int .i64 room, .int .i64 last, .slice na kn nc] 67 (0, 0)) := by
               rw [(Chg.grown hg5).block g10 (Nat.lt_of_lt_of_le (lt_of_blk HM.out.box) hal.size) (fun e => by have h2 := (row_block HM.out.row g10 e).1; have h3 := HSG.out; omega)]
               exact kept_block hal HM.out.box
             obtain ⟨d0, d1, d2'⟩ := cells_3 hbx5
             have fb5 := free_of hbx5
             clear hd5 hg5 ho5 hal hbx5)
          | fail)
        all_goals
          go_wp2_with fail
          exact ⟨⟨j + 1, kn + 1, sa, sc, _, by simp, by omega, by omega, (by show (L ++ _).length = _; rw [List.length_append, HLJ.out]; rfl), (by show _ = _; rw [List.map_append]; exact HT2.out), HM5⟩, by simp [intOf]; omega⟩
      · have HT2 : Hid (L.map (·.1) = (ql.take (j + 1)).filter (fun t => decide (st < t.st))) := by show _ = _; rw [HL.out, take_at hx, List.filter_append]; simp [hst]
        clear hx yc yp hb5 hS5 hbr
        go_wp2_with fail
        go_roundw
        case rel => exact ⟨j + 1, kn, na, nc, L, by go_num, by omega, by omega, HLJ, HT2, HM⟩
        case measure => simp [intOf]; omega
    · obtain rfl : j = qn := by omega
      have hge : ¬ (j : Int) < (j : Int) := by omega
      have HLL : Hid (L.map (·.1) = ql.filter (fun t => decide (st < t.st))) := by show _ = _; rw [HL.out, List.take_of_length_le (by rw [HQN.out]; exact Nat.le_refl _)]
      have hkk : kn = j - tk := by rw [← HLJ.out, ← HFL.out, ← HLL.out, List.length_map]
      have hsub : IntKind.i64.wrap ((j : Int) - (kn : Int)) = (tk : Int) := by rw [IntKind.wrap_i64]; omega
      have hsub2 : (j : Int) - (kn : Int) = (tk : Int) := by omega
      have hwt : IntKind.i64.wrap (tk : Int) = (tk : Int) := by rw [IntKind.wrap_i64]; omega
      have HB7 : Hid _ := kept_block hbr HB1.out
      obtain ⟨s0, s1, s2⟩ := cells_3 HB7.out
      have fs := free_of HB7.out
      have HEND : Hid (ItsAt wr (fun k => (S k ∨ w.heap.size ≤ k) ∧ k ≠ g + 1) (.slice na kn nc) (ql.filter (fun t => decide (st < t.st))) ∧ Below w.heap.size w wr) := by
        refine ⟨?_, trans2 HBW.out hbr⟩
        have h9 := HM.out.row
        have h8 := items_row (S := fun k => (S k ∨ w.heap.size ≤ k) ∧ k ≠ g + 1) h9 (fun k hk => by
          have h1 := (row_block h9 k hk).1
          have h2 := HSG.out
          exact ⟨.inr (by omega), by omega⟩) (fun y hy => by
          have h1 := HM.out.each y hy
          have hsb : ∀ k, k < wr.heap.size → T k → ((S k ∨ w.heap.size ≤ k) ∧ k ≠ g + 1) := fun k _ hk => by
            have h2 := HSG.out
            have h4 := (HTT.out k).1 hk
            exact ⟨.inl h4.2, by omega⟩
          exact ⟨TgsAt.mono h1.1 hsb, PasAt.mono h1.2 hsb⟩)
        rw [HLL.out] at h8
        exact h8
      clear hbr hkk
      go_wp2_with fail
      have hg1 : ∀ (w : World) i v o, (w.setCell ⟨g + 1, i, none⟩ v).cell? ⟨g, o, none⟩ = w.cell? ⟨g, o, none⟩ := fun w i v o => cellN (by omega)
      have hg2 : ∀ (w : World) i v o, (w.setCell ⟨g + 1, i, none⟩ v).cell? ⟨g10, o, none⟩ = w.cell? ⟨g10, o, none⟩ := fun w i v o => cellN (by have := HSG.out; omega)
      go_region_law (fail)
      all_goals
        go_wp2_with fail
        exact bodyPost_ret (results_cell_tmp rfl _ _ (g + 1) 67 _ (0, 0) _ (.int .i64 tk) rfl (by first | rfl | simp [Act.put, hsub2, hwt]) (fill_3 (w := wr.drew) HB7.out) Try.underlying67 rfl (by kernel_rfl)) rfl ⟨_, rfl, its_mono (ItsAt.keep HEND.out.1 (Kp.of_chg (Chg.trans (Chg.of_below (below_drew (Below.refl _ _)) _) (chg_put3 _ _ _ _ _)) (fun k _ hk e => hk.2 e))) (fun k _ hk => hk.1), fillB_3 (below_drew HEND.out.2) (by have := HSG.out; omega)⟩
end Go.Proofs.Ytlidkieljiebiaa
