/-
  shot: turned, the other way round.
-/
import Derived.Test.YtjanlaphfkeejaaDoorSTurned
namespace Go.Proofs.YtjanlaphfkeejaaDoor
open Go.RowKit
set_option linter.unusedVariables false
set_option linter.unusedSimpArgs false

/-- Behind q rounds. -/
def Sw (l : List SeenT) (q : Nat) (m : List SeenT) : Prop := m.length = l.length ∧ ∀ j, j < l.length → m[j]? = if j < q ∨ l.length - 1 - j < q then l[l.length - 1 - j]? else l[j]?
theorem Sw.start (l : List SeenT) : Sw l 0 l := ⟨rfl, fun j hj => by simp⟩
theorem Sw.done {l m : List SeenT} (h : Sw l l.length m) : m = l.reverse := by
  refine List.ext_getElem? fun j => ?_
  by_cases hj : j < l.length
  · rw [h.2 j hj, if_pos (.inl hj), List.getElem?_reverse hj]
  · rw [List.getElem?_eq_none (by have := h.1; omega), List.getElem?_eq_none (by simp; omega)]
theorem Sw.stay {l m : List SeenT} {q r : Nat} (h : Sw l q m) (hr : r = l.length - 1 - q) (hqr : ¬ q < r) (hlt : q < l.length) : Sw l (q + 1) m := by
  refine ⟨h.1, fun j hj => ?_⟩
  rw [h.2 j hj]
  by_cases h1 : j < q ∨ l.length - 1 - j < q
  · rw [if_pos h1, if_pos (by omega)]
  · rw [if_neg h1]
    by_cases h2 : j < q + 1 ∨ l.length - 1 - j < q + 1
    · rw [if_pos h2, show l.length - 1 - j = j by omega]
    · rw [if_neg h2]
theorem Sw.swap {l m : List SeenT} {q r : Nat} {x y : SeenT} (h : Sw l q m) (hr : r = l.length - 1 - q) (hqr : q < r) (hx : m[q]? = some x) (hy : m[r]? = some y) : Sw l (q + 1) ((m.set q y).set r x) := by
  have hl := h.1
  have hx' := h.2 q (by omega)
  have hy' := h.2 r (by omega)
  rw [if_neg (by omega), hx] at hx'
  rw [if_neg (by omega), hy] at hy'
  refine ⟨by simp [hl], fun j hj => ?_⟩
  rw [List.getElem?_set, List.getElem?_set]
  by_cases h1 : r = j
  · subst h1
    rw [if_pos rfl, if_pos (by simp; omega), if_pos (by omega), show l.length - 1 - r = q by omega]
    exact hx'
  · rw [if_neg h1]
    by_cases h2 : q = j
    · subst h2
      rw [if_pos rfl, if_pos (by omega), if_pos (by omega), ← hr]
      exact hy'
    · rw [if_neg h2, h.2 j hj]
      by_cases h3 : j < q ∨ l.length - 1 - j < q
      · rw [if_pos h3, if_pos (by omega)]
      · rw [if_neg h3, if_neg (by omega)]
theorem set_seen (m : List SeenT) (j : Nat) (s : SeenT) (hj : j < m.length) (M : List Value) : (((seCs m ++ M).set (j * 3) (.string s.p)).set (j * 3 + 1) (.string s.d)).set (j * 3 + 2) (.int .i64 s.v) = seCs (m.set j s) ++ M := by
  have hm : m = m.take j ++ m[j] :: m.drop (j + 1) := by rw [List.getElem_cons_drop hj, List.take_append_drop]
  have hs : m.set j s = m.take j ++ s :: m.drop (j + 1) := List.set_eq_take_append_cons_drop .. |>.trans (by rw [if_pos hj])
  have hl : (seCs (m.take j)).length = j * 3 := by rw [seCs_len, List.length_take]; congr 1; omega
  have e : ∀ o : SeenT, seCs (m.take j ++ o :: m.drop (j + 1)) ++ M = seCs (m.take j) ++ (.string o.p :: .string o.d :: .int .i64 o.v :: (seCs (m.drop (j + 1)) ++ M)) := fun o => by simp [seCs]
  rw [hs]
  conv => lhs; rw [hm]
  rw [e, e, List.set_append_right _ _ (by omega), List.set_append_right _ _ (by omega), List.set_append_right _ _ (by omega), hl, show j * 3 - j * 3 = 0 by omega, show j * 3 + 1 - j * 3 = 1 by omega, show j * 3 + 2 - j * 3 = 2 by omega]
  rfl

theorem setN {w : World} {g i j : Nat} {v : Value} (h : ¬ i = j) : (w.setCell ⟨g, j, none⟩ v).cell? ⟨g, i, none⟩ = w.cell? ⟨g, i, none⟩ := World.cell?_setCell_other _ ⟨g, j, none⟩ ⟨g, i, none⟩ _ (by simp [h, Ne.symm, eq_comm])
theorem allocN {w : World} {o : Obj} {b i : Nat} (h : b < w.heap.size) : (w.alloc o).cell? ⟨b, i, none⟩ = w.cell? ⟨b, i, none⟩ := World.cell?_of_block (Below.heap_alloc w o b h)
theorem swap_keep {wr : World} {g q r A : Nat} {X : Obj} {v3 v0 v1 v2 : Value} (hA : A ≠ g) (hAl : A < wr.heap.size) (hg : g < wr.heap.size) (hqr : q < r) (a3 : wr.cell? ⟨A, 3, none⟩ = some v3) (y0 : wr.cell? ⟨g, r * 3, none⟩ = some v0) (y1 : wr.cell? ⟨g, r * 3 + 1, none⟩ = some v1) (y2 : wr.cell? ⟨g, r * 3 + 2, none⟩ = some v2) (u0 u1 u2 : Value) :
    ((((wr.setCell ⟨g, q * 3, none⟩ u0).setCell ⟨g, q * 3 + 1, none⟩ u1).setCell ⟨g, q * 3 + 2, none⟩ u2).alloc X).drew.cell? ⟨A, 3, none⟩ = some v3 ∧ ((((wr.setCell ⟨g, q * 3, none⟩ u0).setCell ⟨g, q * 3 + 1, none⟩ u1).setCell ⟨g, q * 3 + 2, none⟩ u2).alloc X).drew.cell? ⟨g, r * 3, none⟩ = some v0 ∧ ((((wr.setCell ⟨g, q * 3, none⟩ u0).setCell ⟨g, q * 3 + 1, none⟩ u1).setCell ⟨g, q * 3 + 2, none⟩ u2).alloc X).drew.cell? ⟨g, r * 3 + 1, none⟩ = some v1 ∧ ((((wr.setCell ⟨g, q * 3, none⟩ u0).setCell ⟨g, q * 3 + 1, none⟩ u1).setCell ⟨g, q * 3 + 2, none⟩ u2).alloc X).drew.cell? ⟨g, r * 3 + 2, none⟩ = some v2 := by
  refine ⟨?_, ?_, ?_, ?_⟩
  · show World.cell? (World.alloc _ _) _ = _
    rw [allocN (by simp; omega), cellN hA, cellN hA, cellN hA]; exact a3
  · show World.cell? (World.alloc _ _) _ = _
    rw [allocN (by simp; omega), setN (by omega), setN (by omega), setN (by omega)]; exact y0
  · show World.cell? (World.alloc _ _) _ = _
    rw [allocN (by simp; omega), setN (by omega), setN (by omega), setN (by omega)]; exact y1
  · show World.cell? (World.alloc _ _) _ = _
    rw [allocN (by simp; omega), setN (by omega), setN (by omega), setN (by omega)]; exact y2
set_option maxHeartbeats 3200000 in
set_option maxRecDepth 100000 in
theorem turned_rev (base g cap : Nat) (st : Int) (p : ByteArray) (k : Int) (l : List SeenT) (w : World) (hr : w.ownsRow base 32 3 (.slice (some ⟨g, 0, none⟩) (l.length + 1) cap) (l.length + 1) (seCs l ++ markT.cells)) (hl : l.length ≤ 1000) :
    Calls Tryd.prog 7 #[.agg #[.int .i64 st, .string p, .int .i64 k, .slice (some ⟨g, 0, none⟩) l.length cap], .int .i64 1] w fun e w' => ∃ a c, e = .returned (.agg #[.int .i64 st, .string p, .int .i64 k, .slice a l.length c]) ∧ Ss w' a (l.reverse) ∧ (a = none → c = 0) ∧
      w'.ownsRow base 32 3 (.slice (some ⟨g, 0, none⟩) (l.length + 1) cap) (l.length + 1) (seCs (l.reverse) ++ markT.cells) ∧ Chg w w' (fun j => j = g) := by
  have hg := (hr.lt g rfl).2
  have HR : Hid (w.ownsRow base 32 3 (.slice (some ⟨g, 0, none⟩) (l.length + 1) cap) (l.length + 1) (seCs l ++ markT.cells)) := hr
  clear hr
  go_enter Tryd.func7, Tryd.ntmps7
  go_wp2_with fail
  go_loopw [6] (fun i wr => ∃ (q : Nat) (m : List SeenT), i = .int .i64 q ∧ q ≤ l.length ∧ Hid (Sw l q m) ∧ Hid (wr.ownsRow base 32 3 (.slice (some ⟨g, 0, none⟩) (l.length + 1) cap) (l.length + 1) (seCs m ++ markT.cells)) ∧ Hid (wr.heap[w.heap.size]? = some (.cells #[.int .i64 st, .string p, .int .i64 k, .slice (some ⟨g, 0, none⟩) l.length cap] 24 (0, 0))) ∧ Hid (wr.heap[w.heap.size + 1]? = some (.cells #[.int .i64 0, .string ⟨#[]⟩, .int .i64 0, .slice none 0 0] 24 (0, 0))) ∧ Hid (Chg w wr (fun j => j = g))) (fun i _ => l.length - (intOf i).toNat)
  case atStart =>
    refine ⟨0, l, rfl, Nat.zero_le _, Sw.start l, ?_, ?_, ?_, ?_⟩
    · exact World.ownsRow.alloc (World.ownsRow.alloc HR.out _) _
    · exact new_old (heap_alloc_new _ _) _
    · exact heap_new' (by simp)
    · exact (Chg.alloc _ _ _).trans (Chg.alloc _ _ _)
  case round =>
    obtain ⟨q, m, rfl, hq, HSW, HO, HA, HC, HG⟩ := hrel
    obtain ⟨a0, a1, a2, a3⟩ := cells_4 HA.out
    by_cases hlt : q < l.length
    · have hlt' : (q : Int) < (l.length : Int) := by omega
      obtain ⟨r, hr⟩ : ∃ r : Nat, r = l.length - 1 - q := ⟨_, rfl⟩
      obtain ⟨m1, hm1⟩ : ∃ m1 : Nat, m1 = l.length - 1 := ⟨_, rfl⟩
      have hsub1 : IntKind.i64.wrap ((l.length : Int) - 1) = (m1 : Int) := by rw [IntKind.wrap_i64]; omega
      have hsub2 : IntKind.i64.wrap ((m1 : Int) - (q : Int)) = (r : Int) := by rw [IntKind.wrap_i64]; omega
      have HRQ : Hid (r = l.length - 1 - q) := hr
      have hrl0 : r < l.length := by omega
      have hrq : q + r + 1 = l.length := by omega
      clear hr hm1
      by_cases hqr : q < r
      · have hqr' : (q : Int) < (r : Int) := by omega
        have hrl : (r : Int) < (l.length : Int) := by omega
        have hml := HSW.out.1
        obtain ⟨x, hx⟩ : ∃ x, m[q]? = some x := ⟨m[q]'(by omega), List.getElem?_eq_getElem _⟩
        obtain ⟨y, hy⟩ : ∃ y, m[r]? = some y := ⟨m[r]'(by omega), List.getElem?_eq_getElem _⟩
        have x0 : wr.cell? ⟨g, q * 3, none⟩ = some (.string x.p) := cell_n HO.out (seCs_at _ q 0 _ _ hx rfl _)
        have x1 := cell_n HO.out (seCs_at _ q 1 _ _ hx rfl _)
        have x2 := cell_n HO.out (seCs_at _ q 2 _ _ hx rfl _)
        have y0 : wr.cell? ⟨g, r * 3, none⟩ = some (.string y.p) := cell_n HO.out (seCs_at _ r 0 _ _ hy rfl _)
        have y1 := cell_n HO.out (seCs_at _ r 1 _ _ hy rfl _)
        have y2 := cell_n HO.out (seCs_at _ r 2 _ _ hy rfl _)
        have HSW' : Hid (Sw l (q + 1) ((m.set q y).set r x)) := HSW.out.swap HRQ.out hqr hx hy
        have HXX : Hid (m[q]? = some x) := hx
        have HYY : Hid (m[r]? = some y) := hy
        clear hx hy
        have hgl := (HO.out.lt g rfl).2
        have hal : w.heap.size < wr.heap.size := lt_of_blk HA.out
        have hga : w.heap.size ≠ g := by omega
        have hgx : wr.heap.size ≠ g := by omega
        have fz := blk_of HO.out
        have HO1 : Hid _ := owns_set (k := r * 3 + 2) (owns_set (k := r * 3 + 1) (owns_set (k := r * 3) (owns_set (k := q * 3 + 2) (owns_set (k := q * 3 + 1) (owns_set (k := q * 3) HO.out (.string y.p)) (.string y.d)) (.int .i64 y.v)) (.string x.p)) (.string x.d)) (.int .i64 x.v)
        rw [set_seen m q y (by omega), set_seen (m.set q y) r x (by simp; omega)] at HO1
        have e00 : ¬ (r * 3 = q * 3) := by omega
        have f00 : ¬ (q * 3 = r * 3) := by omega
        have e01 : ¬ (r * 3 = q * 3 + 1) := by omega
        have f01 : ¬ (q * 3 + 1 = r * 3) := by omega
        have e02 : ¬ (r * 3 = q * 3 + 2) := by omega
        have f02 : ¬ (q * 3 + 2 = r * 3) := by omega
        have e10 : ¬ (r * 3 + 1 = q * 3) := by omega
        have f10 : ¬ (q * 3 = r * 3 + 1) := by omega
        have e11 : ¬ (r * 3 + 1 = q * 3 + 1) := by omega
        have f11 : ¬ (q * 3 + 1 = r * 3 + 1) := by omega
        have e12 : ¬ (r * 3 + 1 = q * 3 + 2) := by omega
        have f12 : ¬ (q * 3 + 2 = r * 3 + 1) := by omega
        have e20 : ¬ (r * 3 + 2 = q * 3) := by omega
        have f20 : ¬ (q * 3 = r * 3 + 2) := by omega
        have e21 : ¬ (r * 3 + 2 = q * 3 + 1) := by omega
        have f21 : ¬ (q * 3 + 1 = r * 3 + 2) := by omega
        have e22 : ¬ (r * 3 + 2 = q * 3 + 2) := by omega
        have f22 : ¬ (q * 3 + 2 = r * 3 + 2) := by omega
        have HKP : Hid _ := swap_keep (X := .cells #[.string x.p, .string x.d, .int .i64 x.v] 32) hga hal hgl hqr a3 y0 y1 y2 (.string y.p) (.string y.d) (.int .i64 y.v)
        go_wp2_with fail
        go_region_held3 (fun w' => w'.cell? ⟨w.heap.size, 3, none⟩ = some (.slice (some ⟨g, 0, none⟩) l.length cap) ∧ w'.cell? ⟨g, r * 3, none⟩ = some (.string y.p) ∧ w'.cell? ⟨g, r * 3 + 1, none⟩ = some (.string y.d) ∧ w'.cell? ⟨g, r * 3 + 2, none⟩ = some (.int .i64 y.v)) (first | exact HKP.out | go_keep) (fail)
        go_wp2_with fail
        go_roundw
        case rel =>
          have hc := (((((HG.out.trans (Chg.set _ ⟨g, q * 3, none⟩ (.string y.p))).trans (Chg.set _ ⟨g, q * 3 + 1, none⟩ (.string y.d))).trans (Chg.set _ ⟨g, q * 3 + 2, none⟩ (.int .i64 y.v))).trans (Chg.set _ ⟨g, r * 3, none⟩ (.string x.p))).trans (Chg.set _ ⟨g, r * 3 + 1, none⟩ (.string x.d))).trans (Chg.set _ ⟨g, r * 3 + 2, none⟩ (.int .i64 x.v))
          have hc2 := hc.trans (Chg.alloc _ (.cells #[.string x.p, .string x.d, .int .i64 x.v] 32) _)
          have hga1 : w.heap.size + 1 ≠ g := by omega
          refine ⟨q + 1, (m.set q y).set r x, by go_num, by omega, HSW'.out, ?_, ?_, ?_, ⟨hc2.os, hc2.tape, hc2.output, hc2.size, hc2.block⟩⟩
          · exact World.ownsRow.alloc HO1.out _
          · exact new_old (other_blk (other_blk (other_blk (other_blk (other_blk (other_blk HA.out hga) hga) hga) hga) hga) hga) _
          · exact new_old (other_blk (other_blk (other_blk (other_blk (other_blk (other_blk HC.out hga1) hga1) hga1) hga1) hga1) hga1) _
        case measure => simp [intOf]; omega
      · have hqr' : ¬ (q : Int) < (r : Int) := by omega
        have HSW' : Hid (Sw l (q + 1) m) := HSW.out.stay HRQ.out hqr hlt
        go_wp2_with fail
        go_roundw
        case rel => exact ⟨q + 1, m, by go_num, by omega, HSW'.out, HO.out, HA.out, HC.out, HG.out⟩
        case measure => simp [intOf]; omega
    · obtain rfl : q = l.length := by omega
      have hge : ¬ (l.length : Int) < (l.length : Int) := by omega
      obtain rfl : m = l.reverse := HSW.out.done
      have hsz : w.heap.size + 1 < wr.heap.size := lt_of_blk HC.out
      have HS : Hid (Ss wr (some ⟨g, 0, none⟩) (l.reverse)) := ss_of_owns HO.out
      have HML : Hid (l.length = (l.reverse).length) := by show _ = _; simp
      go_wp2_with (first
        | (at_builtin; refine wpList_app rfl _ _ rfl base (.slice none 0 0) 0 [] rfl (World.ownsRow_nil _ _ _ _) (some ⟨g, 0, none⟩) l.length cap (l.reverse) rfl HML.out HS.out (fun h => by cases h) (by rw [← HML.out]; omega) (by have := (HO.out.lt g rfl); omega) ?_
           intro v1 w1 ho1 hg1
           have hmm : 0 + (l.reverse).length = l.length := by rw [← HML.out]; omega
           rw [hmm, List.nil_append] at ho1
           clear hmm
           obtain ⟨a9, c9, rfl, hn9⟩ := owns_form ho1
           have HO1 : Hid (w1.ownsRow base 32 3 (.slice a9 l.length c9) l.length (seCs (l.reverse))) := ho1
           have HN9 : Hid _ := hn9
           clear hn9
           have HG1 : Hid _ := hg1
           have HA1 : Hid (w1.heap[w.heap.size]? = some (.cells #[.int .i64 st, .string p, .int .i64 k, .slice (some ⟨g, 0, none⟩) l.length cap] 24 (0, 0))) := by show _ = _; rw [hg1.block _ (by omega) (fun h => by cases h)]; exact HA.out
           have HC1 : Hid (w1.heap[w.heap.size + 1]? = some (.cells #[.int .i64 0, .string ⟨#[]⟩, .int .i64 0, .slice none 0 0] 24 (0, 0))) := by show _ = _; rw [hg1.block _ (by omega) (fun h => by cases h)]; exact HC.out
           have c4 := cells_4 HA1.out
           have f4 := free_4 HA1.out
           have r4 := cells_4 HC1.out
           have fr4 := free_4 HC1.out
           clear ho1 hg1)
        | fail)
      have hC1 : Chg w1 (put_4 (w1.setCell ⟨w.heap.size, 3, none⟩ (.slice a9 l.length c9)) (w.heap.size + 1) (.int .i64 st) (.string p) (.int .i64 k) (.slice a9 l.length c9)) (fun j => j = w.heap.size ∨ j = w.heap.size + 1) :=
        (((((Chg.set w1 ⟨w.heap.size, 3, none⟩ _).mono (fun _ _ h => .inl h)).trans ((Chg.set _ ⟨w.heap.size + 1, 0, none⟩ _).mono (fun _ _ h => .inr h))).trans ((Chg.set _ ⟨w.heap.size + 1, 1, none⟩ _).mono (fun _ _ h => .inr h))).trans ((Chg.set _ ⟨w.heap.size + 1, 2, none⟩ _).mono (fun _ _ h => .inr h))).trans ((Chg.set _ ⟨w.heap.size + 1, 3, none⟩ _).mono (fun _ _ h => .inr h))
      have hnot : ∀ (v : Value) (n : Nat) (xs : List Value), w1.ownsRow base 32 3 v n xs → ∀ j, v.ownBlock = some j → ¬ (j = w.heap.size ∨ j = w.heap.size + 1) := fun v n xs hv j hj e => by
        obtain ⟨cur, hc⟩ := owns_kind hv hj
        rcases e with e | e
        · have := HA1.out
          rw [← e, hc] at this
          cases this
        · have := HC1.out
          rw [← e, hc] at this
          cases this
      have hrow1 : w1.ownsRow base 32 3 (.slice (some ⟨g, 0, none⟩) (l.length + 1) cap) (l.length + 1) (seCs (l.reverse) ++ markT.cells) := owns_same HO.out (fun j hj => HG1.out.block j (HO.out.lt j hj).2 (fun h => by cases h))
      have hO9 := owns_same HO1.out (fun j hj => hC1.block j (HO1.out.lt j hj).2 (hnot _ _ _ HO1.out j hj))
      have hOg := owns_same hrow1 (fun j hj => hC1.block j (hrow1.lt j hj).2 (hnot _ _ _ hrow1 j hj))
      refine bodyPost_ret (results_cell_row rfl _ _ (w.heap.size + 1) 24 _ (0, 0) _ rfl (fill_4 (other_blk HC1.out (by omega))) Tryd.underlying24 rfl (by kernel_rfl)) rfl ⟨a9, c9, rfl, ss_of_row hO9, HN9.out, hOg, ?_⟩
      have hgr : Chg wr w1 (fun j => j = g) := (Chg.grown HG1.out).mono (fun j _ h => by cases h)
      refine ⟨?_, ?_, ?_, ?_, fun j hj hn => ?_⟩
      · exact hC1.os.trans (hgr.os.trans HG.out.os)
      · exact hC1.tape.trans (hgr.tape.trans HG.out.tape)
      · exact hC1.output.trans (hgr.output.trans HG.out.output)
      · exact Nat.le_trans HG.out.size (Nat.le_trans hgr.size hC1.size)
      · rw [hC1.block j (by have := hgr.size; omega) (by omega), hgr.block j (by omega) hn, HG.out.block j hj hn]
end Go.Proofs.YtjanlaphfkeejaaDoor
