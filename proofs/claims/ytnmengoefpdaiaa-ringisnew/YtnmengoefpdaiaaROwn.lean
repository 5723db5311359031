/-
  ring: own.
-/
import Derived.Test.YtnmengoefpdaiaaRCopy
import Derived.Test.YtnmengoefpdaiaaRClone
namespace Go.Proofs.Ytnmengoefpdaiaa
open Go.RowKit
set_option linter.unusedVariables false
set_option linter.unusedSimpArgs false

theorem opCs_len (l : List OpT) : (opCs l).length = l.length * 5 := rowCs_len op_len l
theorem Try.infoOp : (Try.prog.info? 49).map (fun i => (i.zero, i.size, i.bytes)) = some (some (.agg #[.int .i64 0, .string ⟨#[]⟩, .string ⟨#[]⟩, .int .i64 0, .int .i64 0]), 5, 56) := by kernel_rfl
theorem clone_any (s : ByteArray) (w : World) (h : s.size ≤ 281474976710656) : Calls Try.prog 36 #[.string s] w fun e w' => e = .returned (.string s) ∧ Below w.heap.size w w' := by
  have HC : Hid _ := Try.stringslite_Clone s w h
  clear h
  go_enter Try.func36, Try.ntmps36
  go_wp2_with fail
  refine Calls.mono HC.out ?_
  rintro e w1 ⟨rfl, hb⟩
  have HB : Hid (Below w.heap.size w w1) := hb
  clear hb
  go_wp2_with fail
  go_ret
  exact ⟨rfl, HB.out⟩
set_option maxHeartbeats 1600000 in
theorem own_none (e : EnT) (a : Option Addr) (c : Nat) (w : World) (h : e.ops = []) :
    Calls Try.prog 24 #[e.val (.slice a 0 c)] w fun e' w' => e' = .returned (e.val (.slice none 0 0)) ∧ Below w.heap.size w w' := by
  go_enter Try.func24, Try.ntmps24
  go_wp2_with fail
  exact bodyPost_ret (results_cell_row rfl _ _ (w.heap.size + 1) 38 _ (0, 0) _ rfl (heap_new' (by simp)) Try.underlying38 rfl (by kernel_rfl)) rfl ⟨rfl, ((Below.refl _ _).alloc (Nat.le_refl _) _).alloc (by simp) _⟩
/-- make of ops. -/
theorem make_ops (n : Nat) (hn : n * 56 ≤ 140737488355328) : ∃ M : List Value, M.length = n * 5 ∧ ∀ w : World, (Instr.makeSlice 36 (.int .i64 n) (.int .i64 n)).run Try.prog w = .ok (.slice (some ⟨w.heap.size, 0, none⟩) n n) (w.alloc (.cells M.toArray 49)) := by
  obtain ⟨i0, hi, hz0, hz1, hz2⟩ := info_parts Try.infoOp
  refine ⟨(madeCells (Value.cells (.agg #[.int .i64 0, .string ⟨#[]⟩, .string ⟨#[]⟩, .int .i64 0, .int .i64 0])) (n * 5)).toList, ?_, fun w => ?_⟩
  · rw [Array.length_toList, size_madeCells]
  · have h := run_make (P := Try.prog) w 36 49 i0 _ Try.underlying36 hi hz0 .i64 .i64 n n (by omega) (Int.le_refl _) (by rw [hz2]; omega) (by omega)
    rw [hz1] at h
    rw [Array.toArray_toList]
    exact h
theorem szOp : (Try.prog.info? 49).map (·.size) = some 5 := by kernel_rfl
set_option maxHeartbeats 1600000 in
theorem own_some (e : EnT) (a : Option Addr) (c n : Nat) (w : World) (hn : e.ops.length = n) (h0 : 0 < n) (h : Os w a e.ops) (hs : e.Small) :
    Calls Try.prog 24 #[e.val (.slice a n c)] w fun e' w' => ∃ x, e' = .returned (e.val x) ∧ OwnOps w' x e.ops ∧ Below w.heap.size w w' ∧ (∀ k, x.ownBlock = some k → w.heap.size ≤ k) := by
  obtain ⟨M, hM, hmk⟩ := make_ops n (by rw [← hn]; exact hs.len)
  have HM : Hid (M.length = n * 5) := hM
  have HO : Hid (Os w a e.ops) := h
  have HS : Hid (e.Small) := hs
  have HN : Hid (e.ops.length = n) := hn
  have hz : ((n : Int) == 0) = false := by simp; omega
  have hnb : n ≤ 2513169434916 := by have h1 := hs.len; omega
  obtain ⟨s, v, k, se, rq, ops⟩ := e
  clear h hs hn hM
  go_enter Try.func24, Try.ntmps24
  go_wp2_with (first
    | (skip
       refine wpList_copy_s rfl _ _ _ _ rfl 49 5 (by decide) Try.underlying36 szOp _ _ _ _ _ _ rfl rfl (w.heap.size + 1 + 1) 0 M _ (heap_new' (by simp)) (opCs ops) n (by simp) ?_ ?_ ?_ (rowCs_one op_one ops) ?_
       · rw [opCs_len, show ops.length = n from HN.out]
       · intro _
         obtain ⟨ad, rfl⟩ : ∃ ad, a = some ad := by
           rcases HO.out with h | ⟨b, o, h, _⟩
           · have h2 : ops.length = n := HN.out; rw [show ops = [] from h] at h2; simp at h2; omega
           · exact ⟨_, h⟩
         exact ⟨rfl, ad, rfl, ls_news op_len (by decide) (HO.out.below ((((Below.refl _ _).alloc (Nat.le_refl _) _).alloc (by simp) _).alloc (by simp; omega) _))⟩
       · rw [opCs_len, show ops.length = n from HN.out, HM.out]; omega
       intro w1 hg1 hc1
       rw [show splice M 0 (opCs ops) = opCs ops by
         have h1 := HM.out
         have h2 : (opCs ops).length = n * 5 := by rw [opCs_len, show ops.length = n from HN.out]
         simp [splice, h1, h2]] at hg1
       have HG1 : Hid (w1.heap[w.heap.size + 1 + 1]? = some (.cells (opCs ops).toArray 49 (0, 0))) := hg1
       have HA1 : Hid (w1.heap[w.heap.size]? = some (.cells #[.int .i64 s, .int .i64 v, .int .i64 k, .int .i64 se, .int .i64 rq, .slice a n c] 38 (0, 0))) := (hc1.block _ (by simp; omega) (by omega)).trans (new_old (new_old (heap_alloc_new _ _) _) _)
       have HR1 : Hid (w1.heap[w.heap.size + 1]? = some (.cells #[.int .i64 0, .int .i64 0, .int .i64 0, .int .i64 0, .int .i64 0, .slice none 0 0] 38 (0, 0))) := (hc1.block _ (by simp) (by omega)).trans (new_old (heap_new' (by simp)) _)
       have HB1 : Hid (Below w.heap.size w w1) := (((((Below.refl _ _).alloc (Nat.le_refl _) _).alloc (by simp) _).alloc (by simp; omega) _)).trans (hc1.below (by simp; omega) (fun k _ e => by omega))
       clear hg1 hc1)
    | fail)
  have hn1 : (0 : Int) < n := by omega
  go_loopw [21] (fun i wr => ∃ q : Nat, i = .int .i64 q ∧ q ≤ n ∧ Hid (wr.heap[w.heap.size + 1 + 1]? = some (.cells (opCs ops).toArray 49 (0, 0))) ∧ Hid (wr.heap[w.heap.size]? = some (.cells #[.int .i64 s, .int .i64 v, .int .i64 k, .int .i64 se, .int .i64 rq, .slice a n c] 38 (0, 0))) ∧ Hid (wr.heap[w.heap.size + 1]? = some (.cells #[.int .i64 0, .int .i64 0, .int .i64 0, .int .i64 0, .int .i64 0, .slice none 0 0] 38 (0, 0))) ∧ Hid (Below w.heap.size w wr)) (fun i _ => n - (intOf i).toNat)
  case atStart => exact ⟨0, rfl, Nat.zero_le _, HG1, HA1, HR1, HB1⟩
  case round =>
    obtain ⟨q, rfl, hq, HG, HA, HR, HB⟩ := hrel
    by_cases hlt : q < n
    · have hlt' : (q : Int) < (n : Int) := by omega
      obtain ⟨x, hx⟩ : ∃ x, ops[q]? = some x := ⟨ops[q]'(by rw [show ops.length = n from HN.out]; exact hlt), List.getElem?_eq_getElem _⟩
      have c1 : wr.cell? ⟨w.heap.size + 1 + 1, q * 5 + 1, none⟩ = some (.string x.p) := by
        rw [cell_blk HG.out, List.getElem?_toArray]; have := rowCs_at op_len ops q 1 x _ hx rfl []; rw [List.append_nil] at this; exact this
      have c2 : wr.cell? ⟨w.heap.size + 1 + 1, q * 5 + 2, none⟩ = some (.string x.d) := by
        rw [cell_blk HG.out, List.getElem?_toArray]; have := rowCs_at op_len ops q 2 x _ hx rfl []; rw [List.append_nil] at this; exact this
      have f1 : ∀ o, wr.frozen? ⟨w.heap.size + 1 + 1, o, none⟩ = false := fun o => by simp [World.frozen?, HG.out]
      have HC : Hid (∀ w, _) := fun w => clone_any x.p w (HS.out.each x (List.mem_of_getElem? hx)).p
      have HD : Hid (∀ w, _) := fun w => clone_any x.d w (HS.out.each x (List.mem_of_getElem? hx)).d
      go_wp2_with fail
      refine Calls.mono (HC.out _) ?_
      rintro e' w2 ⟨rfl, hb2⟩
      have HG2 : Hid (w2.heap[w.heap.size + 1 + 1]? = some (.cells (opCs ops).toArray 49 (0, 0))) := kept_block hb2 HG.out
      have HA2 : Hid (w2.heap[w.heap.size]? = some (.cells #[.int .i64 s, .int .i64 v, .int .i64 k, .int .i64 se, .int .i64 rq, .slice a n c] 38 (0, 0))) := kept_block hb2 HA.out
      have HR2 : Hid (w2.heap[w.heap.size + 1]? = some (.cells #[.int .i64 0, .int .i64 0, .int .i64 0, .int .i64 0, .int .i64 0, .slice none 0 0] 38 (0, 0))) := kept_block hb2 HR.out
      have HB2 : Hid (Below w.heap.size w w2) := trans2 HB.out hb2
      have c1 : w2.cell? ⟨w.heap.size + 1 + 1, q * 5 + 1, none⟩ = some (.string x.p) := by rw [← c1]; exact hb2.cell (p := ⟨w.heap.size + 1 + 1, q * 5 + 1, none⟩) (lt_of_blk HG.out)
      have c2 : w2.cell? ⟨w.heap.size + 1 + 1, q * 5 + 2, none⟩ = some (.string x.d) := by rw [← c2]; exact hb2.cell (p := ⟨w.heap.size + 1 + 1, q * 5 + 2, none⟩) (lt_of_blk HG.out)
      have f1 := free_blk HG2.out
      have hs1 := setCell_self HG2.out c1
      clear hb2
      go_wp2_with fail
      refine Calls.mono (HD.out _) ?_
      rintro e' w3 ⟨rfl, hb3⟩
      have HG3 : Hid (w3.heap[w.heap.size + 1 + 1]? = some (.cells (opCs ops).toArray 49 (0, 0))) := kept_block hb3 HG2.out
      have HA3 : Hid (w3.heap[w.heap.size]? = some (.cells #[.int .i64 s, .int .i64 v, .int .i64 k, .int .i64 se, .int .i64 rq, .slice a n c] 38 (0, 0))) := kept_block hb3 HA2.out
      have HR3 : Hid (w3.heap[w.heap.size + 1]? = some (.cells #[.int .i64 0, .int .i64 0, .int .i64 0, .int .i64 0, .int .i64 0, .slice none 0 0] 38 (0, 0))) := kept_block hb3 HR2.out
      have HB3 : Hid (Below w.heap.size w w3) := trans2 HB2.out hb3
      have c2 : w3.cell? ⟨w.heap.size + 1 + 1, q * 5 + 2, none⟩ = some (.string x.d) := by rw [← c2]; exact hb3.cell (p := ⟨w.heap.size + 1 + 1, q * 5 + 2, none⟩) (lt_of_blk HG2.out)
      have f1 := free_blk HG3.out
      have hs2 := setCell_self HG3.out c2
      clear hb3 hs1
      go_wp2_with fail
      go_roundw
      case rel => exact ⟨q + 1, by go_num, by omega, HG3, HA3, HR3, HB3⟩
      case measure => simp [intOf]; omega
    · obtain rfl : q = n := by omega
      obtain ⟨q0, q1, q2, q3, q4, q5⟩ := cells_6 HA.out
      obtain ⟨r0, r1, r2, r3, r4, r5⟩ := cells_6 HR.out
      have f0 := free_blk HA.out
      have f1 := free_blk HR.out
      go_wp2_with fail
      have h5 : (wr.setCell ⟨w.heap.size, 5, none⟩ (.slice (some ⟨w.heap.size + 1 + 1, 0, none⟩) q q)).heap[w.heap.size + 1]? = _ := other_blk HR.out (by omega)
      refine bodyPost_ret (results_cell_row rfl _ _ (w.heap.size + 1) 38 _ (0, 0) _ rfl (fill_6 h5) Try.underlying38 rfl (by kernel_rfl)) rfl ⟨_, rfl, ?_, fillB_6 (HB.out.setCell (Nat.le_refl _) _) (by omega), fun k hk => ?_⟩
      · have h6 := HN.out
        have h7 := HS.out.len
        simp only at h6 h7
        show World.ownsRow _ 0 49 5 _ ops.length (opCs ops)
        rw [h6]
        refine owns_of_blk ?_ (by rw [opCs_len, h6]) (by unfold maxLen; omega)
        exact fillO_6 (other_blk HG.out (by omega)) (by omega)
      · simp only [Value.ownBlock, Option.some.injEq] at hk
        omega
theorem own_any (e : EnT) (a : Option Addr) (c n : Nat) (w : World) (hn : e.ops.length = n) (h : Os w a e.ops) (hs : e.Small) :
    Calls Try.prog 24 #[e.val (.slice a n c)] w fun e' w' => ∃ x, e' = .returned (e.val x) ∧ OwnOps w' x e.ops ∧ Below w.heap.size w w' ∧ (∀ k, x.ownBlock = some k → w.heap.size ≤ k) := by
  by_cases h0 : n = 0
  · subst h0
    have hl : e.ops = [] := List.eq_nil_of_length_eq_zero hn
    refine (own_none e a c w hl).mono ?_
    rintro e' w' ⟨rfl, hb⟩
    exact ⟨_, rfl, ⟨by rw [hl]; rfl, .inl ⟨rfl, by rw [hl]; rfl⟩⟩, hb, fun k hk => by cases hk⟩
  · exact own_some e a c n w hn (by omega) h hs
end Go.Proofs.Ytnmengoefpdaiaa
