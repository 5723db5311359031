/-
  note: what each field's row checks, and empties.
-/
import Derived.Test.YtdjfeomdiljaeaaGreatDoorNtRow2
import Derived.Test.YtdjfeomdiljaeaaGreatDoorNtIo
namespace Go.Proofs.YtdjfeomdiljaeaaGreatDoor
open Go.RowKit
set_option linter.unusedVariables false
set_option linter.unusedSimpArgs false

theorem NB.put {w : World} {b i : Nat} {N N' : NoN} {v : Value} (h : NB w b N) (e : N.cl.toArray.setIfInBounds i v = N'.cl.toArray) : NB (w.setCell ⟨b, i, none⟩ v) b N' := same_blk h e
theorem NB.drw {w : World} {b : Nat} {N : NoN} (h : NB w b N) : NB w.drew b N := h
theorem chg_drw {w w1 : World} {S : Nat → Prop} (h : Chg w w1 S) : Chg w w1.drew S := ⟨h.os, h.tape, h.output, h.size, h.block⟩
set_option maxHeartbeats 3200000 in
theorem emp_view (W : World) (b s : Nat) (N : NoN) (hN : NB W b N) (hs : W.cell? ⟨s, 0, none⟩ = some (.func (.func 126) #[] #[])) :
    Calls Tryz.prog 179 #[.pointer (some ⟨b, 0, none⟩), .pointer (some ⟨s, 0, none⟩)] W fun e W' => e = .returned (.tuple #[]) ∧ NB W' b { N with num := 0, pri := 0, bak := 0 } ∧ Chg W W' (fun k => k = b) := by
  obtain ⟨W1, hW1⟩ : ∃ W1, W.alloc (.cells #[.int .i64 0, .int .i64 0, .int .i64 0] 42) = W1 := ⟨_, rfl⟩
  have HB1 : Hid (Below W.heap.size W W1) := by rw [← hW1]; exact (Below.refl _ _).alloc (Nat.le_refl _) _
  have HZ1 : Hid (W1.heap[W.heap.size]? = some (.cells #[.int .i64 0, .int .i64 0, .int .i64 0] 42 (0, 0))) := by show _ = _; rw [← hW1]; exact heap_alloc_new _ _
  have HW1 : Hid (W.alloc (.cells #[.int .i64 0, .int .i64 0, .int .i64 0] 42) = W1) := hW1
  have HN1 : Hid (NB W1 b N) := kept_block HB1.out hN
  have hs1 := below_cell HB1.out hs
  clear hW1 hN hs
  go_enter Tryz.func179, Tryz.ntmps179
  go_upto_region 1 with fail
  rw [HW1.out]
  have c0 := HN1.out.cell (i := 1) (v := .int .i64 N.num) rfl
  have f0 := free_ofN HN1.out 1
  have c1 := HN1.out.cell (i := 2) (v := .int .i64 N.pri) rfl
  have f1 := free_ofN HN1.out 2
  have c2 := HN1.out.cell (i := 3) (v := .int .i64 N.bak) rfl
  have f2 := free_ofN HN1.out 3
  obtain ⟨z0, z1, z2⟩ := cells_3N HZ1.out
  go_region_with (first
    | (go_at_call 126; refine Calls.mono (at_view.says _ b) ?_; rintro e w2 ⟨rfl, hw2⟩; rw [hw2]; clear hw2)
    | fail)
  all_goals
    go_wp2_with fail
    refine bodyPost_end (results_none rfl _ _ _) rfl ⟨rfl, ?_, ?_⟩
    · refine NB.drw ?_
      exact (NB.put (N' := { N with num := 0, pri := 0, bak := 0 }) (i := 3) (v := .int .i64 0) (NB.put (N' := { N with num := 0, pri := 0 }) (i := 2) (v := .int .i64 0) (NB.put (N' := { N with num := 0 }) (i := 1) (v := .int .i64 0) HN1.out rfl) rfl) rfl)
    · exact chg_drw ((Chg.of_below HB1.out _).trans (((Chg.set W1 ⟨b, 1, none⟩ (.int .i64 0)).trans (Chg.set _ ⟨b, 2, none⟩ (.int .i64 0))).trans (Chg.set _ ⟨b, 3, none⟩ (.int .i64 0))))
set_option maxHeartbeats 3200000 in
theorem emp_reply (W : World) (b s : Nat) (N : NoN) (hN : NB W b N) (hs : W.cell? ⟨s, 0, none⟩ = some (.func (.func 131) #[] #[])) :
    Calls Tryz.prog 182 #[.pointer (some ⟨b, 0, none⟩), .pointer (some ⟨s, 0, none⟩)] W fun e W' => e = .returned (.tuple #[]) ∧ NB W' b { N with rst := 0, rcd := 0, rat := 0, resA := none, resC := 0, res := [] } ∧ Chg W W' (fun k => k = b) := by
  obtain ⟨W1, hW1⟩ : ∃ W1, W.alloc (.cells #[.int .i64 0, .int .i64 0, .int .i64 0, .slice none 0 0] 46) = W1 := ⟨_, rfl⟩
  have HB1 : Hid (Below W.heap.size W W1) := by rw [← hW1]; exact (Below.refl _ _).alloc (Nat.le_refl _) _
  have HZ1 : Hid (W1.heap[W.heap.size]? = some (.cells #[.int .i64 0, .int .i64 0, .int .i64 0, .slice none 0 0] 46 (0, 0))) := by show _ = _; rw [← hW1]; exact heap_alloc_new _ _
  have HW1 : Hid (W.alloc (.cells #[.int .i64 0, .int .i64 0, .int .i64 0, .slice none 0 0] 46) = W1) := hW1
  have HN1 : Hid (NB W1 b N) := kept_block HB1.out hN
  have hs1 := below_cell HB1.out hs
  clear hW1 hN hs
  go_enter Tryz.func182, Tryz.ntmps182
  go_upto_region 1 with fail
  rw [HW1.out]
  have c0 := HN1.out.cell (i := 13) (v := .int .i64 N.rst) rfl
  have f0 := free_ofN HN1.out 13
  have c1 := HN1.out.cell (i := 14) (v := .int .i64 N.rcd) rfl
  have f1 := free_ofN HN1.out 14
  have c2 := HN1.out.cell (i := 15) (v := .int .i64 N.rat) rfl
  have f2 := free_ofN HN1.out 15
  have c3 := HN1.out.cell (i := 16) (v := .slice N.resA N.res.length N.resC) rfl
  have f3 := free_ofN HN1.out 16
  obtain ⟨z0, z1, z2, z3⟩ := cells_4N HZ1.out
  go_region_with (first
    | (go_at_call 131; refine Calls.mono (at_rep.says _ b) ?_; rintro e w2 ⟨rfl, hw2⟩; rw [hw2]; clear hw2)
    | fail)
  all_goals
    go_wp2_with fail
    refine bodyPost_end (results_none rfl _ _ _) rfl ⟨rfl, ?_, ?_⟩
    · refine NB.drw ?_
      exact (NB.put (N' := { N with rst := 0, rcd := 0, rat := 0, resA := none, resC := 0, res := [] }) (i := 16) (v := .slice none 0 0) (NB.put (N' := { N with rst := 0, rcd := 0, rat := 0 }) (i := 15) (v := .int .i64 0) (NB.put (N' := { N with rst := 0, rcd := 0 }) (i := 14) (v := .int .i64 0) (NB.put (N' := { N with rst := 0 }) (i := 13) (v := .int .i64 0) HN1.out rfl) rfl) rfl) rfl)
    · exact chg_drw ((Chg.of_below HB1.out _).trans ((((Chg.set W1 ⟨b, 13, none⟩ (.int .i64 0)).trans (Chg.set _ ⟨b, 14, none⟩ (.int .i64 0))).trans (Chg.set _ ⟨b, 15, none⟩ (.int .i64 0))).trans (Chg.set _ ⟨b, 16, none⟩ (.slice none 0 0))))
def WasOk (N : NoN) : Prop := (N.K = 5 ∧ (((0 : Int) ≤ (N.was.length : Int) ∧ (N.was.length : Int) ≤ 4) ∧ ∀ x ∈ N.was, WaN.Ok x)) ∨ (N.K = 6 ∧ (((1 : Int) ≤ (N.was.length : Int) ∧ (N.was.length : Int) ≤ 1) ∧ ∀ x ∈ N.was, WaN.Ok x)) ∨ (N.K = 14 ∧ (((0 : Int) ≤ (N.was.length : Int) ∧ (N.was.length : Int) ≤ 4) ∧ ∀ x ∈ N.was, WnOk x) ∧ Rise (N.was.map fun x => x.i)) ∨ ((¬ N.K = 5 ∧ ¬ N.K = 6 ∧ ¬ N.K = 14) ∧ (((1 : Int) ≤ (N.was.length : Int) ∧ (N.was.length : Int) ≤ 1) ∧ ∀ x ∈ N.was, WnOk x))
theorem Was_ck (b : Nat) (N : NoN) (w : World) (hN : NB w b N) (hA : N.At w) (hg : Ground w) : Calls Tryz.prog 146 #[.pointer (some ⟨b, 0, none⟩)] w (CK (WasOk N) w) := by
  by_cases h5 : N.K = 5
  · exact (Was_ck5 b N w hN hA hg h5).mono fun e w' h => h.congr ⟨fun h => .inl ⟨h5, h⟩, fun h => by
      rcases h with h | h | h | h
      · exact h.2
      · exact absurd h.1 (by omega)
      · exact absurd h.1 (by omega)
      · exact absurd h5 h.1.1⟩
  by_cases h6 : N.K = 6
  · exact (Was_ck6 b N w hN hA hg h6).mono fun e w' h => h.congr ⟨fun h => .inr (.inl ⟨h6, h⟩), fun h => by
      rcases h with h | h | h | h
      · exact absurd h.1 (by omega)
      · exact h.2
      · exact absurd h.1 (by omega)
      · exact absurd h6 h.1.2.1⟩
  by_cases h14 : N.K = 14
  · exact (Was_ck14 b N w hN hA hg h14).mono fun e w' h => h.congr ⟨fun h => .inr (.inr (.inl ⟨h14, h⟩)), fun h => by
      rcases h with h | h | h | h
      · exact absurd h.1 (by omega)
      · exact absurd h.1 (by omega)
      · exact h.2
      · exact absurd h14 h.1.2.2⟩
  exact (Was_cke b N w hN hA hg h5 h6 h14).mono fun e w' h => h.congr ⟨fun h => .inr (.inr (.inr ⟨⟨h5, h6, h14⟩, h⟩)), fun h => by
    rcases h with h | h | h | h
    · exact absurd h.1 h5
    · exact absurd h.1 h6
    · exact absurd h.1 h14
    · exact h.2⟩
def PartsOk (N : NoN) : Prop := (N.cd = 0 ∧ (((1 : Int) ≤ (N.parts.length : Int) ∧ (N.parts.length : Int) ≤ 1) ∧ ∀ x ∈ N.parts, PaN.Ok x)) ∨ (¬ N.cd = 0 ∧ (((1 : Int) ≤ (N.parts.length : Int) ∧ (N.parts.length : Int) ≤ 1) ∧ ∀ x ∈ N.parts, PnOk x))
theorem Parts_ck (b : Nat) (N : NoN) (w : World) (hN : NB w b N) (hA : N.At w) (hg : Ground w) : Calls Tryz.prog 151 #[.pointer (some ⟨b, 0, none⟩)] w (CK (PartsOk N) w) := by
  by_cases h : N.cd = 0
  · exact (Parts_ck0 b N w hN hA hg h).mono fun e w' g => g.congr ⟨fun g => .inl ⟨h, g⟩, fun g => (g.resolve_right (fun k => k.1 h)).2⟩
  · exact (Parts_cke b N w hN hA hg h).mono fun e w' g => g.congr ⟨fun g => .inr ⟨h, g⟩, fun g => (g.resolve_left (fun k => h k.1)).2⟩
theorem RwN.Ck.below {w w' : World} {x : RwN} {P : NoN → Prop} {E : NoN → NoN} (h : x.Ck w P E) (hb : Below w.heap.size w w') : x.Ck w' P E :=
  ⟨h.inC, h.inE, fun W b N k => h.chk W b N (xtransN hb k), fun W b N k hn hl => h.emp W b N (xtransN hb k) hn (Nat.le_trans hb.size hl), fun t ht => (h.wr t ht).below hb, fun e => (h.vw e).below hb⟩
theorem row_num (w : World) : Calls Tryz.prog 115 #[.string ⟨#[78, 117, 109]⟩, .int .i64 1, .func (.func 116) #[] #[]] w fun e w' => ∃ x : RwN, e = .returned (.agg x.cl.toArray) ∧ x.nm = ⟨#[78, 117, 109]⟩ ∧ x.Ck w' (fun N => (1 ≤ N.num ∧ N.num ≤ 2147483647)) (fun N => { N with num := 0 }) ∧ Below w.heap.size w w' := by
  refine (numF_int ⟨#[78, 117, 109]⟩ 1 116 w w.heap.size rfl).mono ?_
  rintro e w' ⟨rfl, k0, k1, k3, k4, k5, hb⟩
  refine ⟨⟨⟨#[78, 117, 109]⟩, 171, #[ptV (w.heap.size + 1), ptV w.heap.size], 240, #[ptV (w.heap.size + 3)], 241, #[ptV (w.heap.size + 3 + 1), ptV (w.heap.size + 3)], 242, #[ptV (w.heap.size + 3 + 2), ptV (w.heap.size + 3)]⟩, rfl, rfl, ⟨fun X W => Tryz.call171 X W, fun X W => Tryz.call240 X W, fun W b N hb' hN hA hg => ?_, fun W b N hb' hN hl => ?_, (fun t h => by cases (show some ((fun N => nmL N.num, fun N => inN N.num) : WrT) = some t from h); exact ⟨fun A W => Tryz.call241 A W, fun W w0 b bw v xs N hb' hbw hN hlt hA hk h hg hl => wrt_num W b _ _ bw v xs N hN (below_cell hb' k3) (below_cell hb' k4) h hlt (Nat.lt_of_lt_of_le (World.block_lt_of_cell? _ _ k3) hbw) (Nat.lt_of_lt_of_le (World.block_lt_of_cell? _ _ k4) hbw) hg hl⟩), (fun e => absurd (congrArg (fun z : ByteArray => z.data.toList) (show (⟨#[78, 117, 109]⟩ : ByteArray) = nmVw from e)) (by decide))⟩, hb⟩
  · exact numck_num 1 W b (w.heap.size + 1) w.heap.size N hN (below_cell hb' k1) (below_cell hb' k0)
  · exact emp_int 116 1 (fun N => { N with num := 0 }) at_num (fun N => ⟨by simp, rfl⟩) W b (w.heap.size + 3) N hN (below_cell hb' k3)
theorem row_se (w : World) : Calls Tryz.prog 115 #[.string ⟨#[83, 101, 115, 115, 105, 111, 110]⟩, .int .i64 1, .func (.func 117) #[] #[]] w fun e w' => ∃ x : RwN, e = .returned (.agg x.cl.toArray) ∧ x.nm = ⟨#[83, 101, 115, 115, 105, 111, 110]⟩ ∧ x.Ck w' (fun N => (1 ≤ N.se ∧ N.se ≤ 2147483647)) (fun N => { N with se := 0 }) ∧ Below w.heap.size w w' := by
  refine (numF_int ⟨#[83, 101, 115, 115, 105, 111, 110]⟩ 1 117 w w.heap.size rfl).mono ?_
  rintro e w' ⟨rfl, k0, k1, k3, k4, k5, hb⟩
  refine ⟨⟨⟨#[83, 101, 115, 115, 105, 111, 110]⟩, 171, #[ptV (w.heap.size + 1), ptV w.heap.size], 240, #[ptV (w.heap.size + 3)], 241, #[ptV (w.heap.size + 3 + 1), ptV (w.heap.size + 3)], 242, #[ptV (w.heap.size + 3 + 2), ptV (w.heap.size + 3)]⟩, rfl, rfl, ⟨fun X W => Tryz.call171 X W, fun X W => Tryz.call240 X W, fun W b N hb' hN hA hg => ?_, fun W b N hb' hN hl => ?_, (fun t h => by cases (show some ((fun N => nmL N.se, fun N => inN N.se) : WrT) = some t from h); exact ⟨fun A W => Tryz.call241 A W, fun W w0 b bw v xs N hb' hbw hN hlt hA hk h hg hl => wrt_se W b _ _ bw v xs N hN (below_cell hb' k3) (below_cell hb' k4) h hlt (Nat.lt_of_lt_of_le (World.block_lt_of_cell? _ _ k3) hbw) (Nat.lt_of_lt_of_le (World.block_lt_of_cell? _ _ k4) hbw) hg hl⟩), (fun e => absurd (congrArg (fun z : ByteArray => z.data.toList) (show (⟨#[83, 101, 115, 115, 105, 111, 110]⟩ : ByteArray) = nmVw from e)) (by decide))⟩, hb⟩
  · exact numck_se 1 W b (w.heap.size + 1) w.heap.size N hN (below_cell hb' k1) (below_cell hb' k0)
  · exact emp_int 117 4 (fun N => { N with se := 0 }) at_se (fun N => ⟨by simp, rfl⟩) W b (w.heap.size + 3) N hN (below_cell hb' k3)
theorem row_cn (w : World) : Calls Tryz.prog 115 #[.string ⟨#[67, 111, 110, 110]⟩, .int .i64 1, .func (.func 118) #[] #[]] w fun e w' => ∃ x : RwN, e = .returned (.agg x.cl.toArray) ∧ x.nm = ⟨#[67, 111, 110, 110]⟩ ∧ x.Ck w' (fun N => (1 ≤ N.cn ∧ N.cn ≤ 2147483647)) (fun N => { N with cn := 0 }) ∧ Below w.heap.size w w' := by
  refine (numF_int ⟨#[67, 111, 110, 110]⟩ 1 118 w w.heap.size rfl).mono ?_
  rintro e w' ⟨rfl, k0, k1, k3, k4, k5, hb⟩
  refine ⟨⟨⟨#[67, 111, 110, 110]⟩, 171, #[ptV (w.heap.size + 1), ptV w.heap.size], 240, #[ptV (w.heap.size + 3)], 241, #[ptV (w.heap.size + 3 + 1), ptV (w.heap.size + 3)], 242, #[ptV (w.heap.size + 3 + 2), ptV (w.heap.size + 3)]⟩, rfl, rfl, ⟨fun X W => Tryz.call171 X W, fun X W => Tryz.call240 X W, fun W b N hb' hN hA hg => ?_, fun W b N hb' hN hl => ?_, (fun t h => by cases (show some ((fun N => nmL N.cn, fun N => inN N.cn) : WrT) = some t from h); exact ⟨fun A W => Tryz.call241 A W, fun W w0 b bw v xs N hb' hbw hN hlt hA hk h hg hl => wrt_cn W b _ _ bw v xs N hN (below_cell hb' k3) (below_cell hb' k4) h hlt (Nat.lt_of_lt_of_le (World.block_lt_of_cell? _ _ k3) hbw) (Nat.lt_of_lt_of_le (World.block_lt_of_cell? _ _ k4) hbw) hg hl⟩), (fun e => absurd (congrArg (fun z : ByteArray => z.data.toList) (show (⟨#[67, 111, 110, 110]⟩ : ByteArray) = nmVw from e)) (by decide))⟩, hb⟩
  · exact numck_cn 1 W b (w.heap.size + 1) w.heap.size N hN (below_cell hb' k1) (below_cell hb' k0)
  · exact emp_int 118 5 (fun N => { N with cn := 0 }) at_cn (fun N => ⟨by simp, rfl⟩) W b (w.heap.size + 3) N hN (below_cell hb' k3)
theorem row_rq (w : World) : Calls Tryz.prog 115 #[.string ⟨#[82, 101, 113, 117, 101, 115, 116]⟩, .int .i64 1, .func (.func 119) #[] #[]] w fun e w' => ∃ x : RwN, e = .returned (.agg x.cl.toArray) ∧ x.nm = ⟨#[82, 101, 113, 117, 101, 115, 116]⟩ ∧ x.Ck w' (fun N => (1 ≤ N.rq ∧ N.rq ≤ 2147483647)) (fun N => { N with rq := 0 }) ∧ Below w.heap.size w w' := by
  refine (numF_int ⟨#[82, 101, 113, 117, 101, 115, 116]⟩ 1 119 w w.heap.size rfl).mono ?_
  rintro e w' ⟨rfl, k0, k1, k3, k4, k5, hb⟩
  refine ⟨⟨⟨#[82, 101, 113, 117, 101, 115, 116]⟩, 171, #[ptV (w.heap.size + 1), ptV w.heap.size], 240, #[ptV (w.heap.size + 3)], 241, #[ptV (w.heap.size + 3 + 1), ptV (w.heap.size + 3)], 242, #[ptV (w.heap.size + 3 + 2), ptV (w.heap.size + 3)]⟩, rfl, rfl, ⟨fun X W => Tryz.call171 X W, fun X W => Tryz.call240 X W, fun W b N hb' hN hA hg => ?_, fun W b N hb' hN hl => ?_, (fun t h => by cases (show some ((fun N => nmL N.rq, fun N => inN N.rq) : WrT) = some t from h); exact ⟨fun A W => Tryz.call241 A W, fun W w0 b bw v xs N hb' hbw hN hlt hA hk h hg hl => wrt_rq W b _ _ bw v xs N hN (below_cell hb' k3) (below_cell hb' k4) h hlt (Nat.lt_of_lt_of_le (World.block_lt_of_cell? _ _ k3) hbw) (Nat.lt_of_lt_of_le (World.block_lt_of_cell? _ _ k4) hbw) hg hl⟩), (fun e => absurd (congrArg (fun z : ByteArray => z.data.toList) (show (⟨#[82, 101, 113, 117, 101, 115, 116]⟩ : ByteArray) = nmVw from e)) (by decide))⟩, hb⟩
  · exact numck_rq 1 W b (w.heap.size + 1) w.heap.size N hN (below_cell hb' k1) (below_cell hb' k0)
  · exact emp_int 119 6 (fun N => { N with rq := 0 }) at_rq (fun N => ⟨by simp, rfl⟩) W b (w.heap.size + 3) N hN (below_cell hb' k3)
theorem row_st (w : World) : Calls Tryz.prog 115 #[.string ⟨#[83, 116, 97, 109, 112]⟩, .int .i64 0, .func (.func 120) #[] #[]] w fun e w' => ∃ x : RwN, e = .returned (.agg x.cl.toArray) ∧ x.nm = ⟨#[83, 116, 97, 109, 112]⟩ ∧ x.Ck w' (fun N => (0 ≤ N.st ∧ N.st ≤ 2147483647)) (fun N => { N with st := 0 }) ∧ Below w.heap.size w w' := by
  refine (numF_int ⟨#[83, 116, 97, 109, 112]⟩ 0 120 w w.heap.size rfl).mono ?_
  rintro e w' ⟨rfl, k0, k1, k3, k4, k5, hb⟩
  refine ⟨⟨⟨#[83, 116, 97, 109, 112]⟩, 171, #[ptV (w.heap.size + 1), ptV w.heap.size], 240, #[ptV (w.heap.size + 3)], 241, #[ptV (w.heap.size + 3 + 1), ptV (w.heap.size + 3)], 242, #[ptV (w.heap.size + 3 + 2), ptV (w.heap.size + 3)]⟩, rfl, rfl, ⟨fun X W => Tryz.call171 X W, fun X W => Tryz.call240 X W, fun W b N hb' hN hA hg => ?_, fun W b N hb' hN hl => ?_, (fun t h => by cases (show some ((fun N => nmL N.st, fun N => inN N.st) : WrT) = some t from h); exact ⟨fun A W => Tryz.call241 A W, fun W w0 b bw v xs N hb' hbw hN hlt hA hk h hg hl => wrt_st W b _ _ bw v xs N hN (below_cell hb' k3) (below_cell hb' k4) h hlt (Nat.lt_of_lt_of_le (World.block_lt_of_cell? _ _ k3) hbw) (Nat.lt_of_lt_of_le (World.block_lt_of_cell? _ _ k4) hbw) hg hl⟩), (fun e => absurd (congrArg (fun z : ByteArray => z.data.toList) (show (⟨#[83, 116, 97, 109, 112]⟩ : ByteArray) = nmVw from e)) (by decide))⟩, hb⟩
  · exact numck_st 0 W b (w.heap.size + 1) w.heap.size N hN (below_cell hb' k1) (below_cell hb' k0)
  · exact emp_int 120 7 (fun N => { N with st := 0 }) at_st (fun N => ⟨by simp, rfl⟩) W b (w.heap.size + 3) N hN (below_cell hb' k3)
theorem row_of (w : World) : Calls Tryz.prog 115 #[.string ⟨#[79, 102]⟩, .int .i64 0, .func (.func 121) #[] #[]] w fun e w' => ∃ x : RwN, e = .returned (.agg x.cl.toArray) ∧ x.nm = ⟨#[79, 102]⟩ ∧ x.Ck w' (fun N => (0 ≤ N.of ∧ N.of ≤ 2147483647)) (fun N => { N with of := 0 }) ∧ Below w.heap.size w w' := by
  refine (numF_int ⟨#[79, 102]⟩ 0 121 w w.heap.size rfl).mono ?_
  rintro e w' ⟨rfl, k0, k1, k3, k4, k5, hb⟩
  refine ⟨⟨⟨#[79, 102]⟩, 171, #[ptV (w.heap.size + 1), ptV w.heap.size], 240, #[ptV (w.heap.size + 3)], 241, #[ptV (w.heap.size + 3 + 1), ptV (w.heap.size + 3)], 242, #[ptV (w.heap.size + 3 + 2), ptV (w.heap.size + 3)]⟩, rfl, rfl, ⟨fun X W => Tryz.call171 X W, fun X W => Tryz.call240 X W, fun W b N hb' hN hA hg => ?_, fun W b N hb' hN hl => ?_, (fun t h => by cases (show some ((fun N => nmL N.of, fun N => inN N.of) : WrT) = some t from h); exact ⟨fun A W => Tryz.call241 A W, fun W w0 b bw v xs N hb' hbw hN hlt hA hk h hg hl => wrt_of W b _ _ bw v xs N hN (below_cell hb' k3) (below_cell hb' k4) h hlt (Nat.lt_of_lt_of_le (World.block_lt_of_cell? _ _ k3) hbw) (Nat.lt_of_lt_of_le (World.block_lt_of_cell? _ _ k4) hbw) hg hl⟩), (fun e => absurd (congrArg (fun z : ByteArray => z.data.toList) (show (⟨#[79, 102]⟩ : ByteArray) = nmVw from e)) (by decide))⟩, hb⟩
  · exact numck_of 0 W b (w.heap.size + 1) w.heap.size N hN (below_cell hb' k1) (below_cell hb' k0)
  · exact emp_int 121 8 (fun N => { N with of := 0 }) at_of (fun N => ⟨by simp, rfl⟩) W b (w.heap.size + 3) N hN (below_cell hb' k3)
theorem row_cm (w : World) : Calls Tryz.prog 115 #[.string ⟨#[67, 111, 109, 109, 105, 116]⟩, .int .i64 0, .func (.func 122) #[] #[]] w fun e w' => ∃ x : RwN, e = .returned (.agg x.cl.toArray) ∧ x.nm = ⟨#[67, 111, 109, 109, 105, 116]⟩ ∧ x.Ck w' (fun N => (0 ≤ N.cm ∧ N.cm ≤ 2147483647)) (fun N => { N with cm := 0 }) ∧ Below w.heap.size w w' := by
  refine (numF_int ⟨#[67, 111, 109, 109, 105, 116]⟩ 0 122 w w.heap.size rfl).mono ?_
  rintro e w' ⟨rfl, k0, k1, k3, k4, k5, hb⟩
  refine ⟨⟨⟨#[67, 111, 109, 109, 105, 116]⟩, 171, #[ptV (w.heap.size + 1), ptV w.heap.size], 240, #[ptV (w.heap.size + 3)], 241, #[ptV (w.heap.size + 3 + 1), ptV (w.heap.size + 3)], 242, #[ptV (w.heap.size + 3 + 2), ptV (w.heap.size + 3)]⟩, rfl, rfl, ⟨fun X W => Tryz.call171 X W, fun X W => Tryz.call240 X W, fun W b N hb' hN hA hg => ?_, fun W b N hb' hN hl => ?_, (fun t h => by cases (show some ((fun N => nmL N.cm, fun N => inN N.cm) : WrT) = some t from h); exact ⟨fun A W => Tryz.call241 A W, fun W w0 b bw v xs N hb' hbw hN hlt hA hk h hg hl => wrt_cm W b _ _ bw v xs N hN (below_cell hb' k3) (below_cell hb' k4) h hlt (Nat.lt_of_lt_of_le (World.block_lt_of_cell? _ _ k3) hbw) (Nat.lt_of_lt_of_le (World.block_lt_of_cell? _ _ k4) hbw) hg hl⟩), (fun e => absurd (congrArg (fun z : ByteArray => z.data.toList) (show (⟨#[67, 111, 109, 109, 105, 116]⟩ : ByteArray) = nmVw from e)) (by decide))⟩, hb⟩
  · exact numck_cm 0 W b (w.heap.size + 1) w.heap.size N hN (below_cell hb' k1) (below_cell hb' k0)
  · exact emp_int 122 9 (fun N => { N with cm := 0 }) at_cm (fun N => ⟨by simp, rfl⟩) W b (w.heap.size + 3) N hN (below_cell hb' k3)
theorem row_cd (w : World) : Calls Tryz.prog 123 #[.string ⟨#[67, 111, 100, 101]⟩, .int .i64 0, .func (.func 124) #[] #[]] w fun e w' => ∃ x : RwN, e = .returned (.agg x.cl.toArray) ∧ x.nm = ⟨#[67, 111, 100, 101]⟩ ∧ x.Ck w' (fun N => (0 ≤ N.cd ∧ N.cd ≤ 2147483647)) (fun N => { N with cd := 0 }) ∧ Below w.heap.size w w' := by
  refine (numF_errno ⟨#[67, 111, 100, 101]⟩ 0 124 w w.heap.size rfl).mono ?_
  rintro e w' ⟨rfl, k0, k1, k3, k4, k5, hb⟩
  refine ⟨⟨⟨#[67, 111, 100, 101]⟩, 175, #[ptV (w.heap.size + 1), ptV w.heap.size], 243, #[ptV (w.heap.size + 3)], 244, #[ptV (w.heap.size + 3 + 1), ptV (w.heap.size + 3)], 245, #[ptV (w.heap.size + 3 + 2), ptV (w.heap.size + 3)]⟩, rfl, rfl, ⟨fun X W => Tryz.call175 X W, fun X W => Tryz.call243 X W, fun W b N hb' hN hA hg => ?_, fun W b N hb' hN hl => ?_, (fun t h => by cases (show (none : Option WrT) = some t from h)), (fun e => absurd (congrArg (fun z : ByteArray => z.data.toList) (show (⟨#[67, 111, 100, 101]⟩ : ByteArray) = nmVw from e)) (by decide))⟩, hb⟩
  · exact numck_cd 0 W b (w.heap.size + 1) w.heap.size N hN (below_cell hb' k1) (below_cell hb' k0)
  · exact emp_errno 124 10 (fun N => { N with cd := 0 }) at_cd (fun N => ⟨by simp, rfl⟩) W b (w.heap.size + 3) N hN (below_cell hb' k3)
theorem row_view (w : World) : Calls Tryz.prog 125 #[.string ⟨#[86, 105, 101, 119]⟩, .func (.func 126) #[] #[], .func (.func 127) #[] #[], .func (.func 128) #[] #[], .func (.func 129) #[] #[]] w fun e w' => ∃ x : RwN, e = .returned (.agg x.cl.toArray) ∧ x.nm = ⟨#[86, 105, 101, 119]⟩ ∧ x.Ck w' (fun N => nums [N.num, N.pri, N.bak]) (fun N => { N with num := 0, pri := 0, bak := 0 }) ∧ Below w.heap.size w w' := by
  refine (fieldOf_view ⟨#[86, 105, 101, 119]⟩ 126 127 128 129 #[] #[] #[] w w.heap.size rfl).mono ?_
  rintro e w' ⟨rfl, k3, k4, k5, hb⟩
  refine ⟨⟨⟨#[86, 105, 101, 119]⟩, 127, #[], 179, #[ptV w.heap.size], 180, #[ptV (w.heap.size + 1), ptV w.heap.size], 181, #[ptV (w.heap.size + 2), ptV w.heap.size]⟩, rfl, rfl, ⟨fun X W => Tryz.call127 X W, fun X W => Tryz.call179 X W, fun W b N hb' hN hA hg => ?_, fun W b N hb' hN hl => ?_, (fun t h => by cases (show (none : Option WrT) = some t from h)), (fun _ => ⟨rfl, rfl, rfl, rfl, rfl, w.heap.size, w.heap.size + 2, rfl, rfl, k3, k5⟩)⟩, hb⟩
  · exact View_ck b N W hN hA hg
  · exact emp_view W b w.heap.size N hN (below_cell hb' k3)
theorem row_rep (w : World) : Calls Tryz.prog 130 #[.string ⟨#[82, 101, 112, 108, 121]⟩, .func (.func 131) #[] #[], .func (.func 132) #[] #[], .func (.func 133) #[] #[], .func (.func 134) #[] #[]] w fun e w' => ∃ x : RwN, e = .returned (.agg x.cl.toArray) ∧ x.nm = ⟨#[82, 101, 112, 108, 121]⟩ ∧ x.Ck w' (fun N => nums [N.rst, N.rcd, N.rat] ∧ (((0 : Int) ≤ (N.res.length : Int) ∧ (N.res.length : Int) ≤ 4) ∧ ∀ x ∈ N.res, RsN.Ok x)) (fun N => { N with rst := 0, rcd := 0, rat := 0, resA := none, resC := 0, res := [] }) ∧ Below w.heap.size w w' := by
  refine (fieldOf_reply ⟨#[82, 101, 112, 108, 121]⟩ 131 132 133 134 #[] #[] #[] w w.heap.size rfl).mono ?_
  rintro e w' ⟨rfl, k3, k4, k5, hb⟩
  refine ⟨⟨⟨#[82, 101, 112, 108, 121]⟩, 132, #[], 182, #[ptV w.heap.size], 183, #[ptV (w.heap.size + 1), ptV w.heap.size], 184, #[ptV (w.heap.size + 2), ptV w.heap.size]⟩, rfl, rfl, ⟨fun X W => Tryz.call132 X W, fun X W => Tryz.call182 X W, fun W b N hb' hN hA hg => ?_, fun W b N hb' hN hl => ?_, (fun t h => by cases (show (none : Option WrT) = some t from h)), (fun e => absurd (congrArg (fun z : ByteArray => z.data.toList) (show (⟨#[82, 101, 112, 108, 121]⟩ : ByteArray) = nmVw from e)) (by decide))⟩, hb⟩
  · exact Reply_ck b N W hN hA hg
  · exact emp_reply W b w.heap.size N hN (below_cell hb' k3)
theorem row_state (w : World) : Calls Tryz.prog 135 #[.string ⟨#[83, 116, 97, 116, 101]⟩, .func (.func 136) #[] #[], .func (.func 137) #[] #[], .func (.func 107) #[] #[], .func (.func 109) #[] #[]] w fun e w' => ∃ x : RwN, e = .returned (.agg x.cl.toArray) ∧ x.nm = ⟨#[83, 116, 97, 116, 101]⟩ ∧ x.Ck w' (fun N => (N.state.size : Int) ≤ 200000) (fun N => { N with state := ⟨#[]⟩ }) ∧ Below w.heap.size w w' := by
  refine (fieldOf_string ⟨#[83, 116, 97, 116, 101]⟩ 136 137 107 109 #[] #[] #[] w w.heap.size rfl).mono ?_
  rintro e w' ⟨rfl, k3, k4, k5, hb⟩
  refine ⟨⟨⟨#[83, 116, 97, 116, 101]⟩, 137, #[], 191, #[ptV w.heap.size], 192, #[ptV (w.heap.size + 1), ptV w.heap.size], 193, #[ptV (w.heap.size + 2), ptV w.heap.size]⟩, rfl, rfl, ⟨fun X W => Tryz.call137 X W, fun X W => Tryz.call191 X W, fun W b N hb' hN hA hg => ?_, fun W b N hb' hN hl => ?_, (fun t h => by cases (show (none : Option WrT) = some t from h)), (fun e => absurd (congrArg (fun z : ByteArray => z.data.toList) (show (⟨#[83, 116, 97, 116, 101]⟩ : ByteArray) = nmVw from e)) (by decide))⟩, hb⟩
  · exact State_ck b N W hN hA hg
  · exact emp_string 136 20 (fun N => { N with state := ⟨#[]⟩ }) at_state (fun N => ⟨by simp, rfl⟩) W b w.heap.size N hN (below_cell hb' k3)
theorem row_ops (w : World) : Calls Tryz.prog 138 #[.string ⟨#[79, 112, 115]⟩, .func (.func 139) #[] #[], .func (.func 140) #[] #[], .func (.func 73) #[] #[], .func (.func 79) #[] #[]] w fun e w' => ∃ x : RwN, e = .returned (.agg x.cl.toArray) ∧ x.nm = ⟨#[79, 112, 115]⟩ ∧ x.Ck w' (fun N => (((0 : Int) ≤ (N.ops.length : Int) ∧ (N.ops.length : Int) ≤ 4) ∧ ∀ x ∈ N.ops, OpN.Ok x)) (fun N => { N with opsA := none, opsC := 0, ops := [] }) ∧ Below w.heap.size w w' := by
  refine (lstF_ops ⟨#[79, 112, 115]⟩ 139 140 73 79 w w.heap.size rfl).mono ?_
  rintro e w' ⟨rfl, k0, k1, k3, k4, k5, hb⟩
  refine ⟨⟨⟨#[79, 112, 115]⟩, 140, #[], 251, #[ptV (w.heap.size + 3)], 252, #[ptV (w.heap.size + 3 + 1), ptV (w.heap.size + 3)], 253, #[ptV (w.heap.size + 3 + 2), ptV (w.heap.size + 3)]⟩, rfl, rfl, ⟨fun X W => Tryz.call140 X W, fun X W => Tryz.call251 X W, fun W b N hb' hN hA hg => ?_, fun W b N hb' hN hl => ?_, (fun t h => by cases (show some ((fun N => lsL opL N.ops, fun N => N.ops.length ≤ 1000000 ∧ ∀ x ∈ N.ops, OpN.Ok x) : WrT) = some t from h); exact ⟨fun A W => Tryz.call252 A W, fun W w0 b bw v xs N hb' hbw hN hlt hA hk h hg hl => wrt_ops W b _ _ _ bw v xs N w0 hN (below_cell hb' k3) (below_cell hb' k4) (below_cell hb' k0) h hk hA.ops hlt (Nat.lt_of_lt_of_le (World.block_lt_of_cell? _ _ k3) hbw) (Nat.lt_of_lt_of_le (World.block_lt_of_cell? _ _ k4) hbw) (Nat.lt_of_lt_of_le (World.block_lt_of_cell? _ _ k0) hbw) hg.1 hg.2 hl⟩), (fun e => absurd (congrArg (fun z : ByteArray => z.data.toList) (show (⟨#[79, 112, 115]⟩ : ByteArray) = nmVw from e)) (by decide))⟩, hb⟩
  · exact Ops_ck b N W hN hA hg
  · exact emp_ops 139 11 (fun N => { N with opsA := none, opsC := 0, ops := [] }) at_ops (fun N => ⟨by simp, rfl⟩) W b (w.heap.size + 3) N hN (below_cell hb' k3)
theorem row_ents (w : World) : Calls Tryz.prog 141 #[.string ⟨#[69, 110, 116, 114, 105, 101, 115]⟩, .func (.func 142) #[] #[], .func (.func 143) #[] #[], .func (.func 26) #[] #[], .func (.func 32) #[] #[]] w fun e w' => ∃ x : RwN, e = .returned (.agg x.cl.toArray) ∧ x.nm = ⟨#[69, 110, 116, 114, 105, 101, 115]⟩ ∧ x.Ck w' (fun N => (((0 : Int) ≤ (N.ents.length : Int) ∧ (N.ents.length : Int) ≤ 16) ∧ ∀ x ∈ N.ents, EnN.Ok x)) (fun N => { N with entsA := none, entsC := 0, ents := [] }) ∧ Below w.heap.size w w' := by
  refine (lstF_ents ⟨#[69, 110, 116, 114, 105, 101, 115]⟩ 142 143 26 32 w w.heap.size rfl).mono ?_
  rintro e w' ⟨rfl, k0, k1, k3, k4, k5, hb⟩
  refine ⟨⟨⟨#[69, 110, 116, 114, 105, 101, 115]⟩, 143, #[], 254, #[ptV (w.heap.size + 3)], 255, #[ptV (w.heap.size + 3 + 1), ptV (w.heap.size + 3)], 256, #[ptV (w.heap.size + 3 + 2), ptV (w.heap.size + 3)]⟩, rfl, rfl, ⟨fun X W => Tryz.call143 X W, fun X W => Tryz.call254 X W, fun W b N hb' hN hA hg => ?_, fun W b N hb' hN hl => ?_, (fun t h => by cases (show (none : Option WrT) = some t from h)), (fun e => absurd (congrArg (fun z : ByteArray => z.data.toList) (show (⟨#[69, 110, 116, 114, 105, 101, 115]⟩ : ByteArray) = nmVw from e)) (by decide))⟩, hb⟩
  · exact Ents_ck b N W hN hA hg
  · exact emp_ents 142 12 (fun N => { N with entsA := none, entsC := 0, ents := [] }) at_ents (fun N => ⟨by simp, rfl⟩) W b (w.heap.size + 3) N hN (below_cell hb' k3)
theorem row_was (w : World) : Calls Tryz.prog 144 #[.string ⟨#[87, 97, 116, 99, 104, 101, 115]⟩, .func (.func 145) #[] #[], .func (.func 146) #[] #[], .func (.func 147) #[] #[], .func (.func 148) #[] #[]] w fun e w' => ∃ x : RwN, e = .returned (.agg x.cl.toArray) ∧ x.nm = ⟨#[87, 97, 116, 99, 104, 101, 115]⟩ ∧ x.Ck w' (WasOk) (fun N => { N with wasA := none, wasC := 0, was := [] }) ∧ Below w.heap.size w w' := by
  refine (lstF_was ⟨#[87, 97, 116, 99, 104, 101, 115]⟩ 145 146 147 148 w w.heap.size rfl).mono ?_
  rintro e w' ⟨rfl, k0, k1, k3, k4, k5, hb⟩
  refine ⟨⟨⟨#[87, 97, 116, 99, 104, 101, 115]⟩, 146, #[], 257, #[ptV (w.heap.size + 3)], 258, #[ptV (w.heap.size + 3 + 1), ptV (w.heap.size + 3)], 259, #[ptV (w.heap.size + 3 + 2), ptV (w.heap.size + 3)]⟩, rfl, rfl, ⟨fun X W => Tryz.call146 X W, fun X W => Tryz.call257 X W, fun W b N hb' hN hA hg => ?_, fun W b N hb' hN hl => ?_, (fun t h => by cases (show (none : Option WrT) = some t from h)), (fun e => absurd (congrArg (fun z : ByteArray => z.data.toList) (show (⟨#[87, 97, 116, 99, 104, 101, 115]⟩ : ByteArray) = nmVw from e)) (by decide))⟩, hb⟩
  · exact Was_ck b N W hN hA hg
  · exact emp_was 145 17 (fun N => { N with wasA := none, wasC := 0, was := [] }) at_was (fun N => ⟨by simp, rfl⟩) W b (w.heap.size + 3) N hN (below_cell hb' k3)
theorem row_parts (w : World) : Calls Tryz.prog 149 #[.string ⟨#[80, 97, 114, 116, 115]⟩, .func (.func 150) #[] #[], .func (.func 151) #[] #[], .func (.func 152) #[] #[], .func (.func 153) #[] #[]] w fun e w' => ∃ x : RwN, e = .returned (.agg x.cl.toArray) ∧ x.nm = ⟨#[80, 97, 114, 116, 115]⟩ ∧ x.Ck w' (PartsOk) (fun N => { N with partsA := none, partsC := 0, parts := [] }) ∧ Below w.heap.size w w' := by
  refine (lstF_parts ⟨#[80, 97, 114, 116, 115]⟩ 150 151 152 153 w w.heap.size rfl).mono ?_
  rintro e w' ⟨rfl, k0, k1, k3, k4, k5, hb⟩
  refine ⟨⟨⟨#[80, 97, 114, 116, 115]⟩, 151, #[], 261, #[ptV (w.heap.size + 3)], 262, #[ptV (w.heap.size + 3 + 1), ptV (w.heap.size + 3)], 263, #[ptV (w.heap.size + 3 + 2), ptV (w.heap.size + 3)]⟩, rfl, rfl, ⟨fun X W => Tryz.call151 X W, fun X W => Tryz.call261 X W, fun W b N hb' hN hA hg => ?_, fun W b N hb' hN hl => ?_, (fun t h => by cases (show (none : Option WrT) = some t from h)), (fun e => absurd (congrArg (fun z : ByteArray => z.data.toList) (show (⟨#[80, 97, 114, 116, 115]⟩ : ByteArray) = nmVw from e)) (by decide))⟩, hb⟩
  · exact Parts_ck b N W hN hA hg
  · exact emp_parts 150 18 (fun N => { N with partsA := none, partsC := 0, parts := [] }) at_parts (fun N => ⟨by simp, rfl⟩) W b (w.heap.size + 3) N hN (below_cell hb' k3)
theorem row_items (w : World) : Calls Tryz.prog 154 #[.string ⟨#[73, 116, 101, 109, 115]⟩, .func (.func 155) #[] #[], .func (.func 156) #[] #[], .func (.func 157) #[] #[], .func (.func 158) #[] #[]] w fun e w' => ∃ x : RwN, e = .returned (.agg x.cl.toArray) ∧ x.nm = ⟨#[73, 116, 101, 109, 115]⟩ ∧ x.Ck w' (fun N => (((1 : Int) ≤ (N.items.length : Int) ∧ (N.items.length : Int) ≤ 8) ∧ ∀ x ∈ N.items, ItN.Ok x) ∧ Rise (N.items.map fun x => x.st) ∧ (∀ (j : Nat) (x : ItN), N.items[j + 1]? = some x → x.m = false)) (fun N => { N with itemsA := none, itemsC := 0, items := [] }) ∧ Below w.heap.size w w' := by
  refine (lstF_items ⟨#[73, 116, 101, 109, 115]⟩ 155 156 157 158 w w.heap.size rfl).mono ?_
  rintro e w' ⟨rfl, k0, k1, k3, k4, k5, hb⟩
  refine ⟨⟨⟨#[73, 116, 101, 109, 115]⟩, 156, #[], 270, #[ptV (w.heap.size + 3)], 271, #[ptV (w.heap.size + 3 + 1), ptV (w.heap.size + 3)], 272, #[ptV (w.heap.size + 3 + 2), ptV (w.heap.size + 3)]⟩, rfl, rfl, ⟨fun X W => Tryz.call156 X W, fun X W => Tryz.call270 X W, fun W b N hb' hN hA hg => ?_, fun W b N hb' hN hl => ?_, (fun t h => by cases (show (none : Option WrT) = some t from h)), (fun e => absurd (congrArg (fun z : ByteArray => z.data.toList) (show (⟨#[73, 116, 101, 109, 115]⟩ : ByteArray) = nmVw from e)) (by decide))⟩, hb⟩
  · exact Items_ck b N W hN hA hg
  · exact emp_items 155 19 (fun N => { N with itemsA := none, itemsC := 0, items := [] }) at_items (fun N => ⟨by simp, rfl⟩) W b (w.heap.size + 3) N hN (below_cell hb' k3)
end Go.Proofs.YtdjfeomdiljaeaaGreatDoor
