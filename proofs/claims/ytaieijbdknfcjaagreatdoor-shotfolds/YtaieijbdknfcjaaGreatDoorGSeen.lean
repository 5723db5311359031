/-
  shot: seen, seenBy, copied, mayGo, mayMake.
-/
import Derived.Test.YtaieijbdknfcjaaGreatDoorGDel
import Derived.Test.YtaieijbdknfcjaaGreatDoorGPure
import Derived.Test.YtaieijbdknfcjaaGreatDoorDChange
namespace Go.Proofs.YtaieijbdknfcjaaGreatDoor
open Go.RowKit Classical
set_option linter.unusedVariables false
set_option linter.unusedSimpArgs false

theorem free_3 {W : World} {b : Nat} {t : TypeId} {x0 x1 x2 : Value} (h : W.heap[b]? = some (.cells #[x0, x1, x2] t (0, 0))) (o : Nat) : W.frozen? ⟨b, o, none⟩ = false := by
  simp [World.frozen?, h]
set_option maxHeartbeats 3200000 in
set_option maxRecDepth 100000 in
theorem seen_any (p d : ByteArray) (v : Int) (w : World) (hp : p.size ≤ 1000) (hd : d.size ≤ 1000) :
    Calls Tryz.prog 30 #[.string p, .string d, .int .i64 v] w fun e w' => e = .returned (.agg #[.string p, .string d, .int .i64 v]) ∧ Below w.heap.size w w' := by
  have HP : Hid (∀ w, Calls Tryz.prog 19 #[.string p] w fun e w' => e = .returned (.string p) ∧ Below w.heap.size w w') := sclone_any p (by omega)
  have HD : Hid (∀ w, Calls Tryz.prog 19 #[.string d] w fun e w' => e = .returned (.string d) ∧ Below w.heap.size w w') := sclone_any d (by omega)
  have HR0 : Hid ((w.alloc (.cells #[.string ⟨#[]⟩, .string ⟨#[]⟩, .int .i64 0] 36)).heap[w.heap.size]? = some (.cells #[.string ⟨#[]⟩, .string ⟨#[]⟩, .int .i64 0] 36 (0, 0))) := heap_alloc_new _ _
  have HB0 : Hid (Below w.heap.size w (w.alloc (.cells #[.string ⟨#[]⟩, .string ⟨#[]⟩, .int .i64 0] 36))) := (Below.refl _ _).alloc (Nat.le_refl _) _
  clear hp hd
  go_enter Tryz.func30, Tryz.ntmps30
  go_wp2_with fail
  refine (HP.out _).mono ?_
  rintro e w1 ⟨rfl, hb1⟩
  have HB1 : Hid (Below w.heap.size w w1) := trans2 HB0.out hb1
  have HR1 : Hid _ := kept_block hb1 HR0.out
  clear hb1
  go_wp2_with fail
  refine (HD.out _).mono ?_
  rintro e w2 ⟨rfl, hb2⟩
  have HB2 : Hid (Below w.heap.size w w2) := trans2 HB1.out hb2
  have HR2 : Hid _ := kept_block hb2 HR1.out
  clear hb2
  obtain ⟨r0, r1, r2⟩ := cells_3 HR2.out
  have f3 := free_3 HR2.out
  go_wp2_with fail
  exact bodyPost_ret (results_cell_row rfl _ _ w.heap.size 36 _ (0, 0) _ rfl (fill_3 HR2.out) Tryz.underlying36 rfl (by kernel_rfl)) rfl ⟨rfl, fillB_3 HB2.out (Nat.le_refl _)⟩
set_option maxHeartbeats 3200000 in
set_option maxRecDepth 100000 in
theorem seenBy_any (k : Int) (c : ChT) (w : World) (hp : c.p.size ≤ 1000) (hd : c.d.size ≤ 1000) :
    Calls Tryz.prog 35 #[.int .i64 k, .agg (chA c)] w fun e w' => e = .returned (.agg (seC (seeB k c))) ∧ Below w.heap.size w w' := by
  obtain ⟨ck, p, d, v⟩ := c
  have HR0 : Hid (((w.alloc (.cells #[.int .i64 ck, .string p, .string d, .int .i64 v] 39)).alloc (.cells #[.string ⟨#[]⟩, .string ⟨#[]⟩, .int .i64 0] 36)).heap[w.heap.size + 1]? = some (.cells #[.string ⟨#[]⟩, .string ⟨#[]⟩, .int .i64 0] 36 (0, 0))) := heap_new' (by simp)
  have HC0 : Hid (((w.alloc (.cells #[.int .i64 ck, .string p, .string d, .int .i64 v] 39)).alloc (.cells #[.string ⟨#[]⟩, .string ⟨#[]⟩, .int .i64 0] 36)).heap[w.heap.size]? = some (.cells #[.int .i64 ck, .string p, .string d, .int .i64 v] 39 (0, 0))) := new_old (heap_alloc_new _ _) _
  have HB0 : Hid (Below w.heap.size w ((w.alloc (.cells #[.int .i64 ck, .string p, .string d, .int .i64 v] 39)).alloc (.cells #[.string ⟨#[]⟩, .string ⟨#[]⟩, .int .i64 0] 36))) := ((Below.refl _ _).alloc (Nat.le_refl _) _).alloc (by simp) _
  by_cases hk : k = 2
  · subst hk
    have HS : Hid (∀ w, Calls Tryz.prog 30 #[.string p, .string ⟨#[]⟩, .int .i64 0] w fun e w' => e = .returned (.agg #[.string p, .string ⟨#[]⟩, .int .i64 0]) ∧ Below w.heap.size w w') := fun w => seen_any p ⟨#[]⟩ 0 w hp (by decide)
    clear hp hd
    go_enter Tryz.func35, Tryz.ntmps35
    go_wp2_with fail
    refine (HS.out _).mono ?_
    rintro e w1 ⟨rfl, hb1⟩
    have HB1 : Hid (Below w.heap.size w w1) := trans2 HB0.out hb1
    have HR1 : Hid _ := kept_block hb1 HR0.out
    clear hb1
    obtain ⟨r0, r1, r2⟩ := cells_3 HR1.out
    have f3 := free_3 HR1.out
    go_wp2_with fail
    exact bodyPost_ret (results_cell_row rfl _ _ (w.heap.size + 1) 36 _ (0, 0) _ rfl (fill_3 HR1.out) Tryz.underlying36 rfl (by kernel_rfl)) rfl ⟨rfl, fillB_3 HB1.out (by omega)⟩
  · have HS : Hid (∀ w, Calls Tryz.prog 30 #[.string p, .string d, .int .i64 v] w fun e w' => e = .returned (.agg #[.string p, .string d, .int .i64 v]) ∧ Below w.heap.size w w') := fun w => seen_any p d v w hp hd
    have HE : Hid (seeB k ⟨ck, p, d, v⟩ = ⟨p, d, v⟩) := by show _ = _; unfold seeB; rw [if_neg hk]
    clear hp hd
    obtain ⟨c0, c1, c2, c3⟩ := cells_4 HC0.out
    go_enter Tryz.func35, Tryz.ntmps35
    go_wp2_with fail
    refine (HS.out _).mono ?_
    rintro e w1 ⟨rfl, hb1⟩
    have HB1 : Hid (Below w.heap.size w w1) := trans2 HB0.out hb1
    have HR1 : Hid _ := kept_block hb1 HR0.out
    clear hb1 c0 c1 c2 c3
    obtain ⟨r0, r1, r2⟩ := cells_3 HR1.out
    have f3 := free_3 HR1.out
    go_wp2_with fail
    exact bodyPost_ret (results_cell_row rfl _ _ (w.heap.size + 1) 36 _ (0, 0) _ rfl (fill_3 HR1.out) Tryz.underlying36 rfl (by kernel_rfl)) rfl ⟨by rw [HE.out], fillB_3 HB1.out (by omega)⟩
theorem make_s (n : Nat) (hn : n ≤ 1000000) : ∃ M : List Value, M.length = n * 3 ∧ ∀ w : World, (Instr.makeSlice 22 (.int .i64 n) (.int .i64 n)).run Tryz.prog w = .ok (.slice (some ⟨w.heap.size, 0, none⟩) n n) (w.alloc (.cells M.toArray 36)) := by
  obtain ⟨i0, hi, hz0, hz1, hz2⟩ := info_parts Tryz.infoS
  refine ⟨(madeCells (Value.cells (.agg #[.string ⟨#[]⟩, .string ⟨#[]⟩, .int .i64 0])) (n * 3)).toList, by rw [Array.length_toList, size_madeCells], fun w => ?_⟩
  have h := run_make (P := Tryz.prog) w 22 36 i0 _ Tryz.underlying22 hi hz0 .i64 .i64 n n (by omega) (Int.le_refl _) (by rw [hz2]; omega) (by omega)
  rw [hz1] at h
  simpa using h
theorem set3_take (cs : List Value) (q : Nat) (x0 x1 x2 : Value) (h : (q + 1) * 3 ≤ cs.length) : (((cs.set (q * 3) x0).set (q * 3 + 1) x1).set (q * 3 + 2) x2).take ((q + 1) * 3) = cs.take (q * 3) ++ [x0, x1, x2] := by
  refine List.ext_getElem? fun j => ?_
  rw [List.getElem?_take]
  split
  · rename_i hj
    rcases Nat.lt_or_ge j (q * 3) with h1 | h1
    · rw [List.getElem?_append_left (by simp; omega), List.getElem?_take, if_pos h1, List.getElem?_set_ne (by omega), List.getElem?_set_ne (by omega), List.getElem?_set_ne (by omega)]
    · rw [List.getElem?_append_right (by simp; omega)]
      have hl : (cs.take (q * 3)).length = q * 3 := by simp; omega
      rw [hl]
      rcases (show j = q * 3 ∨ j = q * 3 + 1 ∨ j = q * 3 + 2 by omega) with rfl | rfl | rfl
      · rw [List.getElem?_set_ne (by omega), List.getElem?_set_ne (by omega), List.getElem?_set_self (by omega), Nat.sub_self]; rfl
      · rw [List.getElem?_set_ne (by omega), List.getElem?_set_self (by simp; omega), show q * 3 + 1 - q * 3 = 1 by omega]; rfl
      · rw [List.getElem?_set_self (by simp; omega), show q * 3 + 2 - q * 3 = 2 by omega]; rfl
  · rename_i hj
    rw [List.getElem?_append_right (by simp; omega)]
    have hl : (cs.take (q * 3)).length = q * 3 := by simp; omega
    rw [hl, List.getElem?_eq_none (by simp; omega)]
theorem chg_set3 (w : World) (g o : Nat) (x0 x1 x2 : Value) : Chg w (((w.setCell ⟨g, o, none⟩ x0).setCell ⟨g, o + 1, none⟩ x1).setCell ⟨g, o + 2, none⟩ x2) (fun j => j = g) := ((Chg.set w ⟨g, o, none⟩ x0).trans (Chg.set _ ⟨g, o + 1, none⟩ x1)).trans (Chg.set _ ⟨g, o + 2, none⟩ x2)
set_option maxHeartbeats 3200000 in
set_option maxRecDepth 100000 in
theorem copied_any (a : Option Addr) (c n : Nat) (l : List SeenT) (w : World) (hs : Ss w a l) (hn : l.length = n) (hl : n ≤ 1000) (hok : ∀ x ∈ l, x.p.size ≤ 1000 ∧ x.d.size ≤ 1000) :
    Calls Tryz.prog 20 #[.slice a n c] w fun e w' => ∃ g cap, e = .returned (.slice (some ⟨g, 0, none⟩) n cap) ∧ w'.ownsRow w.heap.size 36 3 (.slice (some ⟨g, 0, none⟩) n cap) n (seCs l) ∧ Below w.heap.size w w' := by
  obtain ⟨M, hM, hmk⟩ := make_s n (by omega)
  have HS : Hid (Ss w a l) := hs
  have HOK : Hid (∀ x ∈ l, x.p.size ≤ 1000 ∧ x.d.size ≤ 1000) := hok
  have HN : Hid (l.length = n) := hn
  have HR0 : Hid ((w.alloc (.cells M.toArray 36)).ownsRow w.heap.size 36 3 (.slice (some ⟨w.heap.size, 0, none⟩) n n) n M) := ⟨hM, .inr ⟨w.heap.size, n, M.toArray, rfl, Nat.le_refl _, heap_alloc_new _ _, Nat.le_refl _, by unfold maxLen; omega, by simpa using hM, by simp [← hM]⟩⟩
  clear hs hok hn hM
  go_enter Tryz.func20, Tryz.ntmps20
  go_wp2_with fail
  go_loopw [11] (fun i wr => ∃ q : Nat, i = .int .i64 q ∧ q ≤ n ∧ Hid (∃ cs, wr.ownsRow w.heap.size 36 3 (.slice (some ⟨w.heap.size, 0, none⟩) n n) n cs ∧ cs.take (q * 3) = seCs (l.take q)) ∧ Hid (Below w.heap.size w wr)) (fun i _ => n - (intOf i).toNat)
  case atStart => exact ⟨0, rfl, Nat.zero_le _, ⟨M, HR0.out, by simp [seCs]⟩, (Below.refl _ _).alloc (Nat.le_refl _) _⟩
  case round =>
    obtain ⟨q, rfl, hq, HO, HB⟩ := hrel
    by_cases hlt : q < n
    · have hlt' : (q : Int) < (n : Int) := by omega
      obtain ⟨x, hx⟩ : ∃ x, l[q]? = some x := ⟨l[q]'(by rw [HN.out]; exact hlt), List.getElem?_eq_getElem _⟩
      obtain ⟨b, o, rfl, hb, x0, x1, x2⟩ := (HS.out.below HB.out).at hx
      have HX : Hid (l[q]? = some x) := hx
      obtain ⟨e1, e2⟩ := HOK.out x (List.mem_of_getElem? hx)
      have HSE : Hid (∀ w, Calls Tryz.prog 30 #[.string x.p, .string x.d, .int .i64 x.v] w fun e w' => e = .returned (.agg #[.string x.p, .string x.d, .int .i64 x.v]) ∧ Below w.heap.size w w') := fun w => seen_any x.p x.d x.v w e1 e2
      have HN1 : Hid ((wr.alloc (.cells (seC x) 36)).heap[wr.heap.size]? = some (.cells (seC x) 36 (0, 0))) := heap_alloc_new _ _
      have HB1 : Hid (Below w.heap.size w (wr.alloc (.cells (seC x) 36))) := HB.out.alloc HB.out.size _
      obtain ⟨cs, hcs, hct⟩ := HO.out
      have HO1 : Hid ((wr.alloc (.cells (seC x) 36)).ownsRow w.heap.size 36 3 (.slice (some ⟨w.heap.size, 0, none⟩) n n) n cs) := World.ownsRow.alloc hcs _
      have HCT : Hid (cs.take (q * 3) = seCs (l.take q)) := hct
      have HCL : Hid (cs.length = n * 3) := hcs.1
      clear hx e1 e2 hcs hct
      obtain ⟨y0, y1, y2⟩ := cells_3 HN1.out
      go_wp2_with fail
      refine (HSE.out _).mono ?_
      rintro e w2 ⟨rfl, hb2⟩
      have HB2 : Hid (Below w.heap.size w w2) := trans2 HB1.out hb2
      have HO2 : Hid (w2.ownsRow w.heap.size 36 3 (.slice (some ⟨w.heap.size, 0, none⟩) n n) n cs) := owns_below HO1.out hb2
      clear hb2 x0 x1 x2 y0 y1 y2
      obtain ⟨z0, hz0⟩ : ∃ z, w2.cell? ⟨w.heap.size, q * 3, none⟩ = some z := ⟨_, (HO2.out.cellAt (q * 3) (by omega)).trans (List.getElem?_eq_getElem (by have := HCL.out; omega))⟩
      obtain ⟨z1, hz1⟩ : ∃ z, w2.cell? ⟨w.heap.size, q * 3 + 1, none⟩ = some z := ⟨_, (HO2.out.cellAt (q * 3 + 1) (by omega)).trans (List.getElem?_eq_getElem (by have := HCL.out; omega))⟩
      obtain ⟨z2, hz2⟩ : ∃ z, w2.cell? ⟨w.heap.size, q * 3 + 2, none⟩ = some z := ⟨_, (HO2.out.cellAt (q * 3 + 2) (by omega)).trans (List.getElem?_eq_getElem (by have := HCL.out; omega))⟩
      have hfz := HO2.out.frozenAt
      go_wp2_with fail
      go_roundw
      case rel =>
        refine ⟨q + 1, by go_num, by omega, ⟨_, owns_set (owns_set (owns_set HO2.out _) _) _, ?_⟩, ?_⟩
        · rw [set3_take cs q _ _ _ (by have := HCL.out; omega), HCT.out, take_snoc HX.out, seCs_append]
          simp [seCs]
        · exact ((HB2.out.setCell (Nat.le_refl _) _).setCell (Nat.le_refl _) _).setCell (Nat.le_refl _) _
      case measure => simp [intOf]; omega
    · obtain rfl : q = n := by omega
      have hge : ¬ (q : Int) < (q : Int) := by omega
      have HO9 : Hid (wr.ownsRow w.heap.size 36 3 (.slice (some ⟨w.heap.size, 0, none⟩) q q) q (seCs l)) := by
        obtain ⟨cs, hcs, hct⟩ := HO.out
        have : cs = seCs l := by
          rw [← HN.out, List.take_length, List.take_of_length_le (by rw [hcs.1, HN.out]; exact Nat.le_refl _)] at hct
          exact hct
        rw [← this]
        exact hcs
      go_wp2_with fail
      go_ret
      exact ⟨_, _, rfl, HO9.out, HB.out⟩
end Go.Proofs.YtaieijbdknfcjaaGreatDoor
