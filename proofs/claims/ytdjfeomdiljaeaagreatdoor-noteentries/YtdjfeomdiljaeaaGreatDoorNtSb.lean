import Derived.Test.YtdjfeomdiljaeaaGreatDoorNtEo
import Derived.Deep.QuietTactic
namespace Go.Proofs.YtdjfeomdiljaeaaGreatDoor
open Go.RowKit
set_option linter.unusedVariables false
set_option linter.unusedSimpArgs false

set_option maxHeartbeats 6400000 in
set_option maxRecDepth 100000 in
theorem ey_entry (w0 : World) (br : Nat) (a : Option Addr) (c : Nat) (xs : List Int) (p : Nat) (b : Bool) (w : World) (hc : RdC w0 br a c xs) (h : EyS w0 w br a c xs p b) :
    Calls Tryz.prog 34 #[.pointer (some ⟨br, 0, none⟩)] w (EyE w0 br a c xs p b enL (fun y => EnG y ∧ y.ops.length ≤ 4) EnN.Eq EnN.val (fun t w' => t.ops.length ≤ 4 ∧ w'.ownsRow w.heap.size 60 5 (.slice t.opsA t.ops.length t.opsC) t.ops.length (opCs t.ops)) w) := by
  obtain ⟨rb, hrb⟩ : ∃ rb, w.heap.size = rb := ⟨_, rfl⟩
  obtain ⟨w1, hw1⟩ : ∃ w1, w.alloc (.cells #[.int .i64 0, .int .i64 0, .int .i64 0, .int .i64 0, .int .i64 0, .slice none 0 0] 24) = w1 := ⟨_, rfl⟩
  have HW1 : Hid (w.alloc (.cells #[.int .i64 0, .int .i64 0, .int .i64 0, .int .i64 0, .int .i64 0, .slice none 0 0] 24) = w1) := hw1
  have HB1 : Hid (Below w.heap.size w w1) := by rw [← hw1]; exact (Below.refl _ _).alloc (Nat.le_refl _) _
  have HS1 : Hid (w1.heap.size = rb + 1) := by show _ = _; rw [← hw1, ← hrb]; simp
  have HX1 : Hid (w1.heap[rb]? = some (.cells #[.int .i64 0, .int .i64 0, .int .i64 0, .int .i64 0, .int .i64 0, .slice none 0 0] 24 (0, 0))) := by show _ = _; rw [← hw1, ← hrb]; exact heap_alloc_new _ _
  obtain ⟨ob, hob⟩ : ∃ ob, w1.heap.size = ob := ⟨_, rfl⟩
  obtain ⟨w2, hw2⟩ : ∃ w2, w1.alloc (.cells #[.int .i64 0, .int .i64 0, .int .i64 0, .int .i64 0, .int .i64 0, .slice none 0 0] 24) = w2 := ⟨_, rfl⟩
  have HW2 : Hid (w1.alloc (.cells #[.int .i64 0, .int .i64 0, .int .i64 0, .int .i64 0, .int .i64 0, .slice none 0 0] 24) = w2) := hw2
  have hb2 : Below w1.heap.size w1 w2 := by rw [← hw2]; exact (Below.refl _ _).alloc (Nat.le_refl _) _
  have HX0 : Hid (w2.heap[ob]? = some (.cells #[.int .i64 0, .int .i64 0, .int .i64 0, .int .i64 0, .int .i64 0, .slice none 0 0] 24 (0, 0))) := by show _ = _; rw [← hw2, ← hob]; exact heap_alloc_new _ _
  have HY0 : Hid (w2.heap[rb]? = some (.cells #[.int .i64 0, .int .i64 0, .int .i64 0, .int .i64 0, .int .i64 0, .slice none 0 0] 24 (0, 0))) := kept_block hb2 HX1.out
  have HE0 : Hid (EyS w0 w2 br a c xs p b) := (h.ext HB1.out).ext hb2
  have HH0 : Hid (Chg w w2 (fun j => j = br)) := Chg.of_below (xtransN HB1.out hb2) _
  have HC : Hid (RdC w0 br a c xs) := hc
  have HGW : Hid (w0.heap.size ≤ w.heap.size) := h.chg.size
  have HOB : Hid (w.heap.size ≤ ob) := by show _ ≤ _; have := HS1.out; omega
  have HGE : Hid (w0.heap.size ≤ ob) := by show _ ≤ _; have := HS1.out; have := HGW.out; omega
  have HNE : Hid (ob ≠ br) := by show _ ≠ _; have := hc.lt; have := HGE.out; omega
  have HNR : Hid (rb ≠ br) := by show _ ≠ _; have := hc.lt; have := HGW.out; omega
  have HRO : Hid (rb ≠ ob) := by show _ ≠ _; have := HS1.out; omega
  have HRB : Hid (w.heap.size = rb) := hrb
  have HOS : Hid (w1.heap.size = ob) := hob
  clear hw1 hw2 hb2 hc h hrb hob
  go_enter Tryz.func34, Tryz.ntmps34
  go_upto_region 1 with fail
  rw [HW1.out]
  go_upto_region 2 with fail
  rw [HW2.out, HRB.out, HOS.out]
  go_wp2_with (first
    | (have hq := HE5; clear hq; go_at_call 81; refine Calls.mono (ey_ops w0 br a c xs q5 b5 _ HC.out HE5.out) ?_
       rintro e w8 ⟨x5, q6, b6, rfl, hs, hch, hx, ht⟩
       have HT6 : Hid _ := ht
       have hxk : w8.heap[ob]? = some (.cells #[.int .i64 x0, .int .i64 x1, .int .i64 x2, .int .i64 x3, .int .i64 x4, .slice none 0 0] 24 (0, 0)) := by rw [hch.block _ (lt_of_blk HX5.out) HNE.out]; exact HX5.out
       have hyk : w8.heap[rb]? = some (.cells #[.int .i64 0, .int .i64 0, .int .i64 0, .int .i64 0, .int .i64 0, .slice none 0 0] 24 (0, 0)) := by rw [hch.block _ (lt_of_blk HY5.out) HNR.out]; exact HY5.out
       have HE6 : Hid (EyS w0 (w8.setCell ⟨ob, 5, none⟩ (.slice x5.1 x5.2.2.length x5.2.1)) br a c xs q6 b6) := hs.low ((Below.refl ob w8).setCell (Nat.le_refl _) _) HGE.out HC.out.lt
       have HH6 : Hid (Chg w (w8.setCell ⟨ob, 5, none⟩ (.slice x5.1 x5.2.2.length x5.2.1)) (fun j => j = br)) := (HH5.out.trans hch).low ((Below.refl ob w8).setCell (Nat.le_refl _) _) HOB.out
       have HX6 : Hid ((w8.setCell ⟨ob, 5, none⟩ (.slice x5.1 x5.2.2.length x5.2.1)).heap[ob]? = some (.cells #[.int .i64 x0, .int .i64 x1, .int .i64 x2, .int .i64 x3, .int .i64 x4, .slice x5.1 x5.2.2.length x5.2.1] 24 (0, 0))) := same_blk hxk rfl
       have HY6 : Hid ((w8.setCell ⟨ob, 5, none⟩ (.slice x5.1 x5.2.2.length x5.2.1)).heap[rb]? = some (.cells #[.int .i64 0, .int .i64 0, .int .i64 0, .int .i64 0, .int .i64 0, .slice none 0 0] 24 (0, 0))) := other_blk hyk HRO.out
       have f6 := free_6 hxk
       obtain ⟨m0, m1, m2, m3, m4, m5⟩ := cells_6N hxk
       have HP : Hid _ := hx
       clear hs hch hx ht hxk hyk)
    | (have hq := HE4; clear hq; go_at_call 80; refine Calls.mono (ey_number w0 br a c xs q4 b4 _ HC.out HE4.out) ?_
       rintro e w7 ⟨x4, q5, b5, rfl, hs, hch, hx, ht⟩
       have HT5 : Hid _ := ht
       have hxk : w7.heap[ob]? = some (.cells #[.int .i64 x0, .int .i64 x1, .int .i64 x2, .int .i64 x3, .int .i64 0, .slice none 0 0] 24 (0, 0)) := by rw [hch.block _ (lt_of_blk HX4.out) HNE.out]; exact HX4.out
       have hyk : w7.heap[rb]? = some (.cells #[.int .i64 0, .int .i64 0, .int .i64 0, .int .i64 0, .int .i64 0, .slice none 0 0] 24 (0, 0)) := by rw [hch.block _ (lt_of_blk HY4.out) HNR.out]; exact HY4.out
       have HE5 : Hid (EyS w0 (w7.setCell ⟨ob, 4, none⟩ (.int .i64 x4)) br a c xs q5 b5) := hs.low ((Below.refl ob w7).setCell (Nat.le_refl _) _) HGE.out HC.out.lt
       have HH5 : Hid (Chg w (w7.setCell ⟨ob, 4, none⟩ (.int .i64 x4)) (fun j => j = br)) := (HH4.out.trans hch).low ((Below.refl ob w7).setCell (Nat.le_refl _) _) HOB.out
       have HX5 : Hid ((w7.setCell ⟨ob, 4, none⟩ (.int .i64 x4)).heap[ob]? = some (.cells #[.int .i64 x0, .int .i64 x1, .int .i64 x2, .int .i64 x3, .int .i64 x4, .slice none 0 0] 24 (0, 0))) := same_blk hxk rfl
       have HY5 : Hid ((w7.setCell ⟨ob, 4, none⟩ (.int .i64 x4)).heap[rb]? = some (.cells #[.int .i64 0, .int .i64 0, .int .i64 0, .int .i64 0, .int .i64 0, .slice none 0 0] 24 (0, 0))) := other_blk hyk HRO.out
       have f6 := free_6 hxk
       obtain ⟨m0, m1, m2, m3, m4, m5⟩ := cells_6N hxk
       clear hs hch hx ht hxk hyk)
    | (have hq := HE3; clear hq; go_at_call 80; refine Calls.mono (ey_number w0 br a c xs q3 b3 _ HC.out HE3.out) ?_
       rintro e w6 ⟨x3, q4, b4, rfl, hs, hch, hx, ht⟩
       have HT4 : Hid _ := ht
       have hxk : w6.heap[ob]? = some (.cells #[.int .i64 x0, .int .i64 x1, .int .i64 x2, .int .i64 0, .int .i64 0, .slice none 0 0] 24 (0, 0)) := by rw [hch.block _ (lt_of_blk HX3.out) HNE.out]; exact HX3.out
       have hyk : w6.heap[rb]? = some (.cells #[.int .i64 0, .int .i64 0, .int .i64 0, .int .i64 0, .int .i64 0, .slice none 0 0] 24 (0, 0)) := by rw [hch.block _ (lt_of_blk HY3.out) HNR.out]; exact HY3.out
       have HE4 : Hid (EyS w0 (w6.setCell ⟨ob, 3, none⟩ (.int .i64 x3)) br a c xs q4 b4) := hs.low ((Below.refl ob w6).setCell (Nat.le_refl _) _) HGE.out HC.out.lt
       have HH4 : Hid (Chg w (w6.setCell ⟨ob, 3, none⟩ (.int .i64 x3)) (fun j => j = br)) := (HH3.out.trans hch).low ((Below.refl ob w6).setCell (Nat.le_refl _) _) HOB.out
       have HX4 : Hid ((w6.setCell ⟨ob, 3, none⟩ (.int .i64 x3)).heap[ob]? = some (.cells #[.int .i64 x0, .int .i64 x1, .int .i64 x2, .int .i64 x3, .int .i64 0, .slice none 0 0] 24 (0, 0))) := same_blk hxk rfl
       have HY4 : Hid ((w6.setCell ⟨ob, 3, none⟩ (.int .i64 x3)).heap[rb]? = some (.cells #[.int .i64 0, .int .i64 0, .int .i64 0, .int .i64 0, .int .i64 0, .slice none 0 0] 24 (0, 0))) := other_blk hyk HRO.out
       have f6 := free_6 hxk
       obtain ⟨m0, m1, m2, m3, m4, m5⟩ := cells_6N hxk
       clear hs hch hx ht hxk hyk)
    | (have hq := HE2; clear hq; go_at_call 80; refine Calls.mono (ey_number w0 br a c xs q2 b2 _ HC.out HE2.out) ?_
       rintro e w5 ⟨x2, q3, b3, rfl, hs, hch, hx, ht⟩
       have HT3 : Hid _ := ht
       have hxk : w5.heap[ob]? = some (.cells #[.int .i64 x0, .int .i64 x1, .int .i64 0, .int .i64 0, .int .i64 0, .slice none 0 0] 24 (0, 0)) := by rw [hch.block _ (lt_of_blk HX2.out) HNE.out]; exact HX2.out
       have hyk : w5.heap[rb]? = some (.cells #[.int .i64 0, .int .i64 0, .int .i64 0, .int .i64 0, .int .i64 0, .slice none 0 0] 24 (0, 0)) := by rw [hch.block _ (lt_of_blk HY2.out) HNR.out]; exact HY2.out
       have HE3 : Hid (EyS w0 (w5.setCell ⟨ob, 2, none⟩ (.int .i64 x2)) br a c xs q3 b3) := hs.low ((Below.refl ob w5).setCell (Nat.le_refl _) _) HGE.out HC.out.lt
       have HH3 : Hid (Chg w (w5.setCell ⟨ob, 2, none⟩ (.int .i64 x2)) (fun j => j = br)) := (HH2.out.trans hch).low ((Below.refl ob w5).setCell (Nat.le_refl _) _) HOB.out
       have HX3 : Hid ((w5.setCell ⟨ob, 2, none⟩ (.int .i64 x2)).heap[ob]? = some (.cells #[.int .i64 x0, .int .i64 x1, .int .i64 x2, .int .i64 0, .int .i64 0, .slice none 0 0] 24 (0, 0))) := same_blk hxk rfl
       have HY3 : Hid ((w5.setCell ⟨ob, 2, none⟩ (.int .i64 x2)).heap[rb]? = some (.cells #[.int .i64 0, .int .i64 0, .int .i64 0, .int .i64 0, .int .i64 0, .slice none 0 0] 24 (0, 0))) := other_blk hyk HRO.out
       have f6 := free_6 hxk
       obtain ⟨m0, m1, m2, m3, m4, m5⟩ := cells_6N hxk
       clear hs hch hx ht hxk hyk)
    | (have hq := HE1; clear hq; go_at_call 80; refine Calls.mono (ey_number w0 br a c xs q1 b1 _ HC.out HE1.out) ?_
       rintro e w4 ⟨x1, q2, b2, rfl, hs, hch, hx, ht⟩
       have HT2 : Hid _ := ht
       have hxk : w4.heap[ob]? = some (.cells #[.int .i64 x0, .int .i64 0, .int .i64 0, .int .i64 0, .int .i64 0, .slice none 0 0] 24 (0, 0)) := by rw [hch.block _ (lt_of_blk HX1.out) HNE.out]; exact HX1.out
       have hyk : w4.heap[rb]? = some (.cells #[.int .i64 0, .int .i64 0, .int .i64 0, .int .i64 0, .int .i64 0, .slice none 0 0] 24 (0, 0)) := by rw [hch.block _ (lt_of_blk HY1.out) HNR.out]; exact HY1.out
       have HE2 : Hid (EyS w0 (w4.setCell ⟨ob, 1, none⟩ (.int .i64 x1)) br a c xs q2 b2) := hs.low ((Below.refl ob w4).setCell (Nat.le_refl _) _) HGE.out HC.out.lt
       have HH2 : Hid (Chg w (w4.setCell ⟨ob, 1, none⟩ (.int .i64 x1)) (fun j => j = br)) := (HH1.out.trans hch).low ((Below.refl ob w4).setCell (Nat.le_refl _) _) HOB.out
       have HX2 : Hid ((w4.setCell ⟨ob, 1, none⟩ (.int .i64 x1)).heap[ob]? = some (.cells #[.int .i64 x0, .int .i64 x1, .int .i64 0, .int .i64 0, .int .i64 0, .slice none 0 0] 24 (0, 0))) := same_blk hxk rfl
       have HY2 : Hid ((w4.setCell ⟨ob, 1, none⟩ (.int .i64 x1)).heap[rb]? = some (.cells #[.int .i64 0, .int .i64 0, .int .i64 0, .int .i64 0, .int .i64 0, .slice none 0 0] 24 (0, 0))) := other_blk hyk HRO.out
       have f6 := free_6 hxk
       obtain ⟨m0, m1, m2, m3, m4, m5⟩ := cells_6N hxk
       clear hs hch hx ht hxk hyk)
    | (have hq := HE0; clear hq; go_at_call 80; refine Calls.mono (ey_number w0 br a c xs p b _ HC.out HE0.out) ?_
       rintro e w3 ⟨x0, q1, b1, rfl, hs, hch, hx, ht⟩
       have HT1 : Hid _ := ht
       have hxk : w3.heap[ob]? = some (.cells #[.int .i64 0, .int .i64 0, .int .i64 0, .int .i64 0, .int .i64 0, .slice none 0 0] 24 (0, 0)) := by rw [hch.block _ (lt_of_blk HX0.out) HNE.out]; exact HX0.out
       have hyk : w3.heap[rb]? = some (.cells #[.int .i64 0, .int .i64 0, .int .i64 0, .int .i64 0, .int .i64 0, .slice none 0 0] 24 (0, 0)) := by rw [hch.block _ (lt_of_blk HY0.out) HNR.out]; exact HY0.out
       have HE1 : Hid (EyS w0 (w3.setCell ⟨ob, 0, none⟩ (.int .i64 x0)) br a c xs q1 b1) := hs.low ((Below.refl ob w3).setCell (Nat.le_refl _) _) HGE.out HC.out.lt
       have HH1 : Hid (Chg w (w3.setCell ⟨ob, 0, none⟩ (.int .i64 x0)) (fun j => j = br)) := (HH0.out.trans hch).low ((Below.refl ob w3).setCell (Nat.le_refl _) _) HOB.out
       have HX1 : Hid ((w3.setCell ⟨ob, 0, none⟩ (.int .i64 x0)).heap[ob]? = some (.cells #[.int .i64 x0, .int .i64 0, .int .i64 0, .int .i64 0, .int .i64 0, .slice none 0 0] 24 (0, 0))) := same_blk hxk rfl
       have HY1 : Hid ((w3.setCell ⟨ob, 0, none⟩ (.int .i64 x0)).heap[rb]? = some (.cells #[.int .i64 0, .int .i64 0, .int .i64 0, .int .i64 0, .int .i64 0, .slice none 0 0] 24 (0, 0))) := other_blk hyk HRO.out
       have f6 := free_6 hxk
       obtain ⟨m0, m1, m2, m3, m4, m5⟩ := cells_6N hxk
       clear hs hch hx ht hxk hyk)
    | (have hq := HE6; clear hq; refine wpList_store_row rfl 24 _ _ rfl rb #[.int .i64 x0, .int .i64 x1, .int .i64 x2, .int .i64 x3, .int .i64 x4, .slice x5.1 x5.2.2.length x5.2.1] rfl rfl 24 _ HY6.out (by kernel_rfl) rfl (by first | kernel_rfl | (simp; rfl)) ?_)
    | fail)
  have hlow : Below rb (w8.setCell ⟨ob, 5, none⟩ (.slice x5.1 x5.2.2.length x5.2.1)) ((w8.setCell ⟨ob, 5, none⟩ (.slice x5.1 x5.2.2.length x5.2.1)).setRow rb #[.int .i64 x0, .int .i64 x1, .int .i64 x2, .int .i64 x3, .int .i64 x4, .slice x5.1 x5.2.2.length x5.2.1]) := (row_chgA HY6.out).below (Nat.le_of_lt (lt_of_blk HY6.out)) (fun k _ e => by omega)
  refine bodyPost_ret (results_cell1 rfl _ _ rb 24 _ (0, 0) _ rfl (row_setA HY6.out) Tryz.underlying24 rfl (by kernel_rfl)) rfl ?_
  refine ⟨⟨x0, x1, x2, x3, x4, x5.1, x5.2.1, x5.2.2⟩, q6, b6, rfl, HE6.out.low hlow (by have := HGW.out; have := HRB.out; omega) HC.out.lt, HH6.out.low hlow (by rw [HRB.out]; exact Nat.le_refl _), ⟨HP.out.1, ?_⟩, fun y r hb hy hd => ?_⟩
  · have h8 := HP.out.2
    have h9 : (w8.setCell ⟨ob, 5, none⟩ (.slice x5.1 x5.2.2.length x5.2.1)).ownsRow w.heap.size 60 5 (.slice x5.1 x5.2.2.length x5.2.1) x5.2.2.length (opCs x5.2.2) := by
      refine owns_mono (row_keep h8 (Chg.set _ _ _) (fun k hk e => ?_)) ?_
      · have e' : k = ob := e
        have h7 := HH5.out.size
        have := lt_of_blk HX5.out
        omega
      · have := HH5.out.size
        omega
    refine owns_same h9 (fun k hk => (row_chgA HY6.out).block k (h9.lt k hk).2 (fun e => ?_))
    have h7 := (h8.lt k hk).1
    have := lt_of_blk HX5.out
    have := HRO.out
    have := HS1.out
    have := HOS.out
    omega
  · obtain ⟨⟨⟨g0, g1, g2, g3, g4⟩, g5⟩, g6⟩ := hy
    rw [enL_is] at hd
    simp only [List.append_assoc] at hd
    obtain ⟨e0, hb0, hd⟩ := HT1.out _ _ hb g0 hd
    obtain ⟨e1, hb1, hd⟩ := HT2.out _ _ hb0 g1 hd
    obtain ⟨e2, hb2, hd⟩ := HT3.out _ _ hb1 g2 hd
    obtain ⟨e3, hb3, hd⟩ := HT4.out _ _ hb2 g3 hd
    obtain ⟨e4, hb4, hd⟩ := HT5.out _ _ hb3 g4 hd
    obtain ⟨e5, hb5, hd⟩ := HT6.out (y.opsA, y.opsC, y.ops) _ hb4 ⟨g6, g5.2⟩ hd
    exact ⟨⟨e0, e1, e2, e3, e4, e5⟩, hb5, hd⟩
end Go.Proofs.YtdjfeomdiljaeaaGreatDoor
namespace Go.Proofs.YtdjfeomdiljaeaaGreatDoor
open Go.RowKit
set_option linter.unusedVariables false
set_option linter.unusedSimpArgs false

theorem sameR (a b : Option Addr) (c d : Nat) (xs ys : List Int) (w : World) (hx : Bys w a xs) (hy : Bys w b ys) (hm : xs.length ≤ maxLen) :
    Calls Tryz.prog 35 #[.slice a xs.length c, .slice b ys.length d] w fun e w' => e = .returned (.bool (decide (xs = ys))) ∧ ∃ m, w' = w.drewN m := by
  unfold maxLen at hm
  by_cases hl : xs.length = ys.length
  · rcases hx with rfl | ⟨b1, o1, rfl, h1, hs1⟩
    · have : ys = [] := List.eq_nil_of_length_eq_zero hl.symm
      subst this
      go_enter Tryz.func35, Tryz.ntmps35
      go_wp2
      refine wp_loop_rounds 1 ?_
      rw [rounds_succ]
      go_wp2
      go_ret
      exact ⟨rfl, 0, rfl⟩
    · rcases hy with rfl | ⟨b2, o2, rfl, h2, hs2⟩
      · have : xs = [] := List.eq_nil_of_length_eq_zero hl
        subst this
        go_enter Tryz.func35, Tryz.ntmps35
        go_wp2
        refine wp_loop_rounds 1 ?_
        rw [rounds_succ]
        go_wp2
        go_ret
        exact ⟨rfl, 0, rfl⟩
      · obtain ⟨r, hr⟩ : ∃ r, decide (xs = ys) = r := ⟨_, rfl⟩
        rw [hr]
        have HR : Hid _ := hr
        have HS1 : Hid _ := hs1
        have HS2 : Hid _ := hs2
        clear hs1 hs2 h1 h2 hr
        go_enter Tryz.func35, Tryz.ntmps35
        go_wp2
        go_loopw [5] (fun i wr => ∃ k m : Nat, i = .int .i64 k ∧ wr = w.drewN m ∧ k ≤ xs.length ∧ xs.take k = ys.take k) (fun i _ => xs.length - (intOf i).toNat)
        case atStart => exact ⟨0, 0, rfl, rfl, by omega, rfl⟩
        case round =>
          obtain ⟨k, m, rfl, rfl, hk, ha⟩ := hrel
          have HA : Hid _ := ha
          clear ha
          by_cases hlt : k < xs.length
          · obtain ⟨x, hx⟩ : ∃ x, xs[k]? = some x := ⟨xs[k], List.getElem?_eq_getElem hlt⟩
            obtain ⟨y, hy⟩ : ∃ y, ys[k]? = some y := ⟨ys[k]'(by omega), List.getElem?_eq_getElem (by omega)⟩
            have hc1 := HS1.out k x hx
            have hc2 := HS2.out k y hy
            have HX : Hid (xs[k]? = some x) := hx
            have HY : Hid (ys[k]? = some y) := hy
            clear hx hy
            have hlt' : (k : Int) < (xs.length : Int) := by omega
            have hlt2 : (k : Int) < (ys.length : Int) := by omega
            by_cases he : x = y
            · subst he
              go_wp2
              go_quiet (fail)
              go_wp2
              go_roundw
              case rel => exact ⟨k + 1, m + nq, by go_num, rfl, by omega, same_step HX.out HY.out HA.out⟩
              case measure => simp [intOf]; omega
            · have he' : (x != y) = true := by simpa using he
              go_wp2
              go_quiet (fail)
              go_wp2
              go_ret
              refine ⟨?_, m + nq, by simp⟩
              rw [← HR.out, decide_eq_false (same_part HX.out HY.out he)]
              rfl
          · obtain rfl : k = xs.length := by omega
            have e : r = true := by
              have := HA.out
              rw [List.take_length, hl, List.take_length] at this
              rw [← HR.out, decide_eq_true this]
            subst e
            clear HR HS1 HS2 HA
            go_wp2
            go_ret
            exact ⟨rfl, m, rfl⟩
  · have hne : decide (xs = ys) = false := decide_eq_false (fun e => hl (by rw [e]))
    rw [hne]
    clear hx hy hne
    have hl' : ((xs.length : Int) != (ys.length : Int)) = true := by simp; omega
    go_enter Tryz.func35, Tryz.ntmps35
    go_wp2
    go_ret
    exact ⟨rfl, 0, rfl⟩
theorem sameL (a b : Option Addr) (c d : Nat) (xs ys : List Int) (w : World) (hx : Bys w a xs) (hy : Bys w b ys) (hm : xs.length ≤ maxLen) :
    Calls Tryz.prog 10 #[.slice a xs.length c, .slice b ys.length d] w fun e w' => e = .returned (.bool (decide (xs = ys))) ∧ ∃ m, w' = w.drewN m := by
  unfold maxLen at hm
  by_cases hl : xs.length = ys.length
  · rcases hx with rfl | ⟨b1, o1, rfl, h1, hs1⟩
    · have : ys = [] := List.eq_nil_of_length_eq_zero hl.symm
      subst this
      go_enter Tryz.func10, Tryz.ntmps10
      go_wp2
      refine wp_loop_rounds 1 ?_
      rw [rounds_succ]
      go_wp2
      go_ret
      exact ⟨rfl, 0, rfl⟩
    · rcases hy with rfl | ⟨b2, o2, rfl, h2, hs2⟩
      · have : xs = [] := List.eq_nil_of_length_eq_zero hl
        subst this
        go_enter Tryz.func10, Tryz.ntmps10
        go_wp2
        refine wp_loop_rounds 1 ?_
        rw [rounds_succ]
        go_wp2
        go_ret
        exact ⟨rfl, 0, rfl⟩
      · obtain ⟨r, hr⟩ : ∃ r, decide (xs = ys) = r := ⟨_, rfl⟩
        rw [hr]
        have HR : Hid _ := hr
        have HS1 : Hid _ := hs1
        have HS2 : Hid _ := hs2
        clear hs1 hs2 h1 h2 hr
        go_enter Tryz.func10, Tryz.ntmps10
        go_wp2
        go_loopw [5] (fun i wr => ∃ k m : Nat, i = .int .i64 k ∧ wr = w.drewN m ∧ k ≤ xs.length ∧ xs.take k = ys.take k) (fun i _ => xs.length - (intOf i).toNat)
        case atStart => exact ⟨0, 0, rfl, rfl, by omega, rfl⟩
        case round =>
          obtain ⟨k, m, rfl, rfl, hk, ha⟩ := hrel
          have HA : Hid _ := ha
          clear ha
          by_cases hlt : k < xs.length
          · obtain ⟨x, hx⟩ : ∃ x, xs[k]? = some x := ⟨xs[k], List.getElem?_eq_getElem hlt⟩
            obtain ⟨y, hy⟩ : ∃ y, ys[k]? = some y := ⟨ys[k]'(by omega), List.getElem?_eq_getElem (by omega)⟩
            have hc1 := HS1.out k x hx
            have hc2 := HS2.out k y hy
            have HX : Hid (xs[k]? = some x) := hx
            have HY : Hid (ys[k]? = some y) := hy
            clear hx hy
            have hlt' : (k : Int) < (xs.length : Int) := by omega
            have hlt2 : (k : Int) < (ys.length : Int) := by omega
            by_cases he : x = y
            · subst he
              go_wp2
              go_quiet (fail)
              go_wp2
              go_roundw
              case rel => exact ⟨k + 1, m + nq, by go_num, rfl, by omega, same_step HX.out HY.out HA.out⟩
              case measure => simp [intOf]; omega
            · have he' : (x != y) = true := by simpa using he
              go_wp2
              go_quiet (fail)
              go_wp2
              go_ret
              refine ⟨?_, m + nq, by simp⟩
              rw [← HR.out, decide_eq_false (same_part HX.out HY.out he)]
              rfl
          · obtain rfl : k = xs.length := by omega
            have e : r = true := by
              have := HA.out
              rw [List.take_length, hl, List.take_length] at this
              rw [← HR.out, decide_eq_true this]
            subst e
            clear HR HS1 HS2 HA
            go_wp2
            go_ret
            exact ⟨rfl, m, rfl⟩
  · have hne : decide (xs = ys) = false := decide_eq_false (fun e => hl (by rw [e]))
    rw [hne]
    clear hx hy hne
    have hl' : ((xs.length : Int) != (ys.length : Int)) = true := by simp; omega
    go_enter Tryz.func10, Tryz.ntmps10
    go_wp2
    go_ret
    exact ⟨rfl, 0, rfl⟩
end Go.Proofs.YtdjfeomdiljaeaaGreatDoor
