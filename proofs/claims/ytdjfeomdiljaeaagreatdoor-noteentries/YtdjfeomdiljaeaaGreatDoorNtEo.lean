/-
  note: an op's list and an entry, by the document's eye.
-/
import Derived.Test.YtdjfeomdiljaeaaGreatDoorNtEy
namespace Go.Proofs.YtdjfeomdiljaeaaGreatDoor
open Go.RowKit
set_option linter.unusedVariables false
set_option linter.unusedSimpArgs false

theorem HOXt {x0 : Int} {x1 x2 : ByteArray} {v x4 : Int} : True := trivial
set_option maxHeartbeats 6400000 in
set_option maxRecDepth 100000 in
theorem ey_ops (w0 : World) (br : Nat) (a : Option Addr) (c : Nat) (xs : List Int) (p : Nat) (b : Bool) (w : World) (hc : RdC w0 br a c xs) (h : EyS w0 w br a c xs p b) :
    Calls Tryz.prog 81 #[.pointer (some ⟨br, 0, none⟩)] w (EyE w0 br a c xs p b (lsEnc opL) (fun y => y.2.2.length ≤ 4 ∧ ∀ x ∈ y.2.2, OpG x) (fun x y => x.2.2 = y.2.2) lsV (fun t w' => t.2.2.length ≤ 4 ∧ w'.ownsRow w.heap.size 60 5 (lsV t) t.2.2.length (opCs t.2.2)) w) := by
  have HN : Hid _ := ey_many 4 (by decide) w0 br a c xs p b w hc h
  have HC : Hid (RdC w0 br a c xs) := hc
  have HGW : Hid (w0.heap.size ≤ w.heap.size) := h.chg.size
  have HLT : Hid (br < w.heap.size) := by show _ < _; have := hc.lt; have := h.chg.size; omega
  clear hc h
  go_enter Tryz.func81, Tryz.ntmps81
  go_upto_region 3 with (first
    | (go_at_call 112; refine Calls.mono HN.out ?_
       rintro e w1 ⟨x, q1, b1, rfl, hs, hch, ⟨hx, hx4⟩, ht⟩
       obtain ⟨k, rfl⟩ := Int.eq_ofNat_of_zero_le hx.1
       have HE1 : Hid (EyS w0 w1 br a c xs q1 b1) := hs
       have HCH1 : Hid (Chg w w1 (fun j => j = br)) := hch
       have HK4 : Hid ((k : Int) ≤ 4) := hx4
       have HTM : Hid (∀ (y : Int) r, b = false → (inN y ∧ y ≤ 4) → xs.drop p = nmL y ++ r → (k : Int) = y ∧ b1 = false ∧ xs.drop q1 = r) := ht
       clear hs hch hx hx4 ht)
    | fail)
  have hk4 := HK4.out
  go_upto_region 4 with fail
  go_loopw [3, 5] (fun v iv wr => ∃ (q : Nat) (L : List OpN) (ps : Nat) (bq : Bool), iv = .int .i64 q ∧ q ≤ k ∧ L.length = q ∧ Hid (wr.ownsRow w.heap.size 60 5 v L.length (opCs L)) ∧ Hid (EyS w0 wr br a c xs ps bq) ∧ Hid (Chg w wr (fun j => j = br)) ∧ Hid (∀ (M : List OpN) r, b1 = false → M.length = k → (∀ x ∈ M, OpG x) → xs.drop q1 = M.flatMap opL ++ r → L = M.take q ∧ bq = false ∧ xs.drop ps = (M.drop q).flatMap opL ++ r)) (fun _ iv _ => k - (intOf iv).toNat)
  case atStart => exact ⟨0, [], q1, b1, rfl, Nat.zero_le _, rfl, World.ownsRow_nil _ _ _ _, HE1.out, HCH1.out, fun M r hb hl hM hd => ⟨by simp, hb, by rw [List.drop_zero]; exact hd⟩⟩
  case round =>
    obtain ⟨q, L, ps, bq, rfl, hqk, hLq, HOr, HEr, HCr, HTr⟩ := hrel
    have hend : ∀ V, wr.ownsRow w.heap.size 60 5 V L.length (opCs L) → (q = k ∨ bq = true) → EyE w0 br a c xs p b (lsEnc opL) (fun y => y.2.2.length ≤ 4 ∧ ∀ x ∈ y.2.2, OpG x) (fun x y => x.2.2 = y.2.2) lsV (fun t w' => t.2.2.length ≤ 4 ∧ w'.ownsRow w.heap.size 60 5 (lsV t) t.2.2.length (opCs t.2.2)) w (.returned V) wr := fun V hV hqb => by
      obtain ⟨sa, sc, rfl, _⟩ := owns_sl hV
      refine ⟨(sa, sc, L), ps, bq, rfl, HEr.out, HCr.out, ⟨by show L.length ≤ 4; omega, hV⟩, fun y r hb hy hd => ?_⟩
      have hd' : xs.drop p = lsL opL y.2.2 ++ r := hd
      unfold lsL at hd'
      rw [List.append_assoc] at hd'
      obtain ⟨e1, e2, e3⟩ := HTM.out _ _ hb ⟨⟨by omega, by have := hy.1; omega⟩, by have := hy.1; omega⟩ hd'
      obtain ⟨f1, f2, f3⟩ := HTr.out y.2.2 r e2 (by omega) hy.2 e3
      have hqk2 : q = k := hqb.resolve_right (fun e => by rw [f2] at e; cases e)
      refine ⟨?_, f2, ?_⟩
      · show L = y.2.2
        rw [f1, List.take_of_length_le (by omega)]
      · rw [f3, List.drop_of_length_le (by omega)]
        rfl
    have HEND : Hid _ := hend
    clear hend
    by_cases hlt : q < k
    · have hlt' : (q : Int) < (k : Int) := by omega
      obtain ⟨c0, c1, c2⟩ := cells_3E HEr.out.box
      cases bq with
      | true =>
        go_wp2_with fail
        go_ret
        exact HEND.out _ HOr.out (by simp)
      | false =>
      clear HEND
      go_upto_region 7 with fail
      clear c0 c1 c2
      obtain ⟨ob, hob⟩ : ∃ ob, wr.heap.size = ob := ⟨_, rfl⟩
      obtain ⟨w2, hw2⟩ : ∃ w2, wr.alloc (.cells #[.int .i64 0, .string ⟨#[]⟩, .string ⟨#[]⟩, .int .i64 (-1), .int .i64 0] 60) = w2 := ⟨_, rfl⟩
      have hb2 : Below wr.heap.size wr w2 := by rw [← hw2]; exact (Below.refl _ _).alloc (Nat.le_refl _) _
      have HE0 : Hid (EyS w0 w2 br a c xs ps false) := HEr.out.ext hb2
      have HH0 : Hid (Chg wr w2 (fun j => j = br)) := Chg.of_below hb2 _
      have HX0 : Hid (w2.heap[ob]? = some (.cells #[.int .i64 0, .string ⟨#[]⟩, .string ⟨#[]⟩, .int .i64 (-1), .int .i64 0] 60 (0, 0))) := by show _ = _; rw [← hw2, ← hob]; exact heap_alloc_new _ _
      have HOB : Hid (wr.heap.size ≤ ob) := by show _ ≤ _; omega
      have HGE : Hid (w0.heap.size ≤ ob) := by show _ ≤ _; have := HEr.out.chg.size; omega
      have HNE : Hid (ob ≠ br) := by show _ ≠ _; have := HLT.out; have := HCr.out.size; omega
      rw [hw2, hob]
      clear hw2 hb2 hob
      go_wp2_with (first
    | (have hq := HEz; clear hq; at_builtin; refine wpList_appOp rfl _ _ rfl w.heap.size _ L rfl (owns_below (row_keep HOr.out HHf.out (fun k hk e => by have := HLT.out; omega)) ((Below.refl _ _).alloc (Nat.le_refl _) _)) w9.heap.size (OpN.mk x0 x1 x2 (-1) x4) rfl (heap_new' (by simp)) (by omega) (by have := HHf.out.size; have := HCr.out.size; rw [World.size_alloc]; omega) ?_
       intro v3 w10 ho3 hb3
       have HO3 : Hid (w10.ownsRow w.heap.size 60 5 v3 (L ++ [(OpN.mk x0 x1 x2 (-1) x4)]).length (opCs (L ++ [(OpN.mk x0 x1 x2 (-1) x4)]))) := ho3
       have HB3 : Hid (Below w.heap.size _ w10) := ((Below.refl _ _).alloc (Nat.le_trans HCr.out.size HHf.out.size) _).trans hb3
       have HE10 : Hid (EyS w0 w10 br a c xs qf bf) := HEf.out.low HB3.out HGW.out HC.out.lt
       have HH10 : Hid (Chg w w10 (fun j => j = br)) := (HCr.out.trans HHf.out).low HB3.out (Nat.le_refl _)
       clear ho3 hb3)
    | (have hq := HEv; clear hq; at_builtin; refine wpList_appOp rfl _ _ rfl w.heap.size _ L rfl (owns_below (row_keep HOr.out HHf.out (fun k hk e => by have := HLT.out; omega)) ((Below.refl _ _).alloc (Nat.le_refl _) _)) w9.heap.size (OpN.mk x0 x1 x2 (x5) x4) rfl (heap_new' (by simp)) (by omega) (by have := HHf.out.size; have := HCr.out.size; rw [World.size_alloc]; omega) ?_
       intro v3 w10 ho3 hb3
       have HO3 : Hid (w10.ownsRow w.heap.size 60 5 v3 (L ++ [(OpN.mk x0 x1 x2 (x5) x4)]).length (opCs (L ++ [(OpN.mk x0 x1 x2 (x5) x4)]))) := ho3
       have HB3 : Hid (Below w.heap.size _ w10) := ((Below.refl _ _).alloc (Nat.le_trans HCr.out.size HHf.out.size) _).trans hb3
       have HE10 : Hid (EyS w0 w10 br a c xs qf bf) := HEf.out.low HB3.out HGW.out HC.out.lt
       have HH10 : Hid (Chg w w10 (fun j => j = br)) := (HCr.out.trans HHf.out).low HB3.out (Nat.le_refl _)
       clear ho3 hb3)
    | (have hq := HEv; clear hq; go_at_call 80; refine Calls.mono (ey_number w0 br a c xs qv bv _ HC.out HEv.out) ?_
       rintro e w9 ⟨x4, qf, bf, rfl, hs, hch, hx, ht⟩
       have HTf : Hid _ := ht
       have hxk : w9.heap[ob]? = some (.cells #[.int .i64 x0, .string x1, .string x2, .int .i64 x5, .int .i64 0] 60 (0, 0)) := by rw [hch.block _ (lt_of_blk HXv.out) HNE.out]; exact HXv.out
       have HEf : Hid (EyS w0 (w9.setCell ⟨ob, 4, none⟩ (.int .i64 x4)) br a c xs qf bf) := hs.low ((Below.refl ob w9).setCell (Nat.le_refl _) _) HGE.out HC.out.lt
       have HHf : Hid (Chg wr (w9.setCell ⟨ob, 4, none⟩ (.int .i64 x4)) (fun j => j = br)) := (HHv.out.trans hch).low ((Below.refl ob w9).setCell (Nat.le_refl _) _) HOB.out
       have HXf : Hid ((w9.setCell ⟨ob, 4, none⟩ (.int .i64 x4)).heap[ob]? = some (.cells #[.int .i64 x0, .string x1, .string x2, .int .i64 x5, .int .i64 x4] 60 (0, 0))) := same_blk hxk rfl
       have f5 := free_5 hxk
       obtain ⟨m0, m1, m2, m3, m4⟩ := cells_5 hxk
       clear hs hch hx ht hxk
       have HTO : Hid (∀ y r, OpG y → xs.drop ps = opL y ++ r → (⟨x0, x1, x2, x5, x4⟩ : OpN) = y ∧ bf = false ∧ xs.drop qf = r) := fun y r hy hd => by
         obtain ⟨g0, g1, g2, g3, g4⟩ := hy
         unfold opL at hd
         simp only [List.append_assoc] at hd
         obtain ⟨e0, hb0, hd⟩ := HT1.out _ _ (by simp) g0 hd
         obtain ⟨e1, hb1, hd⟩ := HT2.out _ _ hb0 g1 hd
         obtain ⟨e2, hb2, hd⟩ := HT3.out _ _ hb1 g2 hd
         unfold vrL at hd
         by_cases hv : y.v = -1
         · rw [if_pos hv] at hd
           obtain ⟨e3, hb3, hd⟩ := HT4.out 0 _ hb2 (by decide) hd
           exact absurd (show x3 = 0 from e3) hz
         · rw [if_neg hv, List.append_assoc] at hd
           obtain ⟨e3, hb3, hd⟩ := HT4.out 1 _ hb2 (by decide) hd
           obtain ⟨e5, hb5, hd⟩ := HTv.out _ _ hb3 (g3.resolve_left hv) hd
           obtain ⟨e4, hb4, hdf⟩ := HTf.out _ _ hb5 g4 hd
           obtain ⟨K, p, d, v, fl⟩ := y
           simp only at e0 e1 e2 e5 e4
           subst e0; subst e1; subst e2; subst e5; subst e4
           exact ⟨rfl, hb4, hdf⟩
       clear HT1 HT2 HT3 HT4 HTv HTf)
    | (have hq := HEn; clear hq; go_at_call 80; refine Calls.mono (ey_number w0 br a c xs q4 b4 _ HC.out HEn.out) ?_
       rintro e w8 ⟨x5, qv, bv, rfl, hs, hch, hx, ht⟩
       have HTv : Hid _ := ht
       have hxk : w8.heap[ob]? = some (.cells #[.int .i64 x0, .string x1, .string x2, .int .i64 (-1), .int .i64 0] 60 (0, 0)) := by rw [hch.block _ (lt_of_blk HX4.out) HNE.out]; exact HX4.out
       have HEv : Hid (EyS w0 (w8.setCell ⟨ob, 3, none⟩ (.int .i64 x5)) br a c xs qv bv) := hs.low ((Below.refl ob w8).setCell (Nat.le_refl _) _) HGE.out HC.out.lt
       have HHv : Hid (Chg wr (w8.setCell ⟨ob, 3, none⟩ (.int .i64 x5)) (fun j => j = br)) := (HH4.out.trans hch).low ((Below.refl ob w8).setCell (Nat.le_refl _) _) HOB.out
       have HXv : Hid ((w8.setCell ⟨ob, 3, none⟩ (.int .i64 x5)).heap[ob]? = some (.cells #[.int .i64 x0, .string x1, .string x2, .int .i64 x5, .int .i64 0] 60 (0, 0))) := same_blk hxk rfl
       have f5 := free_5 hxk
       obtain ⟨m0, m1, m2, m3, m4⟩ := cells_5 hxk
       clear hs hch hx ht hxk)
    | (have hq := HEz; clear hq; go_at_call 80; refine Calls.mono (ey_number w0 br a c xs q4 b4 _ HC.out HEz.out) ?_
       rintro e w9 ⟨x4, qf, bf, rfl, hs, hch, hx, ht⟩
       have HTf : Hid _ := ht
       have hxk : w9.heap[ob]? = some (.cells #[.int .i64 x0, .string x1, .string x2, .int .i64 (-1), .int .i64 0] 60 (0, 0)) := by rw [hch.block _ (lt_of_blk HX4.out) HNE.out]; exact HX4.out
       have HEf : Hid (EyS w0 (w9.setCell ⟨ob, 4, none⟩ (.int .i64 x4)) br a c xs qf bf) := hs.low ((Below.refl ob w9).setCell (Nat.le_refl _) _) HGE.out HC.out.lt
       have HHf : Hid (Chg wr (w9.setCell ⟨ob, 4, none⟩ (.int .i64 x4)) (fun j => j = br)) := (HH4.out.trans hch).low ((Below.refl ob w9).setCell (Nat.le_refl _) _) HOB.out
       have HXf : Hid ((w9.setCell ⟨ob, 4, none⟩ (.int .i64 x4)).heap[ob]? = some (.cells #[.int .i64 x0, .string x1, .string x2, .int .i64 (-1), .int .i64 x4] 60 (0, 0))) := same_blk hxk rfl
       have f5 := free_5 hxk
       obtain ⟨m0, m1, m2, m3, m4⟩ := cells_5 hxk
       clear hs hch hx ht hxk
       have HTO : Hid (∀ y r, OpG y → xs.drop ps = opL y ++ r → (⟨x0, x1, x2, -1, x4⟩ : OpN) = y ∧ bf = false ∧ xs.drop qf = r) := fun y r hy hd => by
         obtain ⟨g0, g1, g2, g3, g4⟩ := hy
         unfold opL at hd
         simp only [List.append_assoc] at hd
         obtain ⟨e0, hb0, hd⟩ := HT1.out _ _ (by simp) g0 hd
         obtain ⟨e1, hb1, hd⟩ := HT2.out _ _ hb0 g1 hd
         obtain ⟨e2, hb2, hd⟩ := HT3.out _ _ hb1 g2 hd
         unfold vrL at hd
         by_cases hv : y.v = -1
         · rw [if_pos hv] at hd
           obtain ⟨e3, hb3, hd⟩ := HT4.out 0 _ hb2 (by decide) hd
           obtain ⟨e4, hb4, hdf⟩ := HTf.out _ _ hb3 g4 hd
           obtain ⟨K, p, d, v, fl⟩ := y
           simp only at e0 e1 e2 hv e4
           subst e0; subst e1; subst e2; subst hv; subst e4
           exact ⟨rfl, hb4, hdf⟩
         · rw [if_neg hv, List.append_assoc] at hd
           obtain ⟨e3, hb3, hd⟩ := HT4.out 1 _ hb2 (by decide) hd
           exact absurd (show x3 = 1 from e3) (by omega)
       clear HT1 HT2 HT3 HT4 HTf)
    | (have hq := HE3; clear hq; go_at_call 80; refine Calls.mono (ey_number w0 br a c xs q3 b3 _ HC.out HE3.out) ?_
       rintro e w7 ⟨x3, q4, b4, rfl, hs, hch, hx, ht⟩
       have HT4 : Hid _ := ht
       have hxk : w7.heap[ob]? = some (.cells #[.int .i64 x0, .string x1, .string x2, .int .i64 (-1), .int .i64 0] 60 (0, 0)) := by rw [hch.block _ (lt_of_blk HX3.out) HNE.out]; exact HX3.out
       have HE4 : Hid (EyS w0 w7 br a c xs q4 b4) := hs
       have HH4 : Hid (Chg wr w7 (fun j => j = br)) := HH3.out.trans hch
       have HX4 : Hid (w7.heap[ob]? = some (.cells #[.int .i64 x0, .string x1, .string x2, .int .i64 (-1), .int .i64 0] 60 (0, 0))) := hxk
       clear hs hch hx ht hxk
       have hsp : (x3 = 0 ∧ (x3 != 0) = false ∧ Hid (EyS w0 w7 br a c xs q4 b4)) ∨ (¬ x3 = 0 ∧ (x3 != 0) = true ∧ Hid (EyS w0 w7 br a c xs q4 b4)) := by
         by_cases hz : x3 = 0
         · exact .inl ⟨hz, by simpa using hz, HE4.out⟩
         · exact .inr ⟨hz, by simpa using hz, HE4.out⟩
       rcases hsp with ⟨hz, hz', HEz⟩ | ⟨hz, hz', HEn⟩)
    | (have hq := HE2; clear hq; go_at_call 113; refine Calls.mono (ey_text w0 br a c xs q2 b2 _ HC.out HE2.out) ?_
       rintro e w6 ⟨x2, q3, b3, rfl, hs, hch, hx, ht⟩
       have HT3 : Hid _ := ht
       have hxk : w6.heap[ob]? = some (.cells #[.int .i64 x0, .string x1, .string ⟨#[]⟩, .int .i64 (-1), .int .i64 0] 60 (0, 0)) := by rw [hch.block _ (lt_of_blk HX2.out) HNE.out]; exact HX2.out
       have HE3 : Hid (EyS w0 (w6.setCell ⟨ob, 2, none⟩ (.string x2)) br a c xs q3 b3) := hs.low ((Below.refl ob w6).setCell (Nat.le_refl _) _) HGE.out HC.out.lt
       have HH3 : Hid (Chg wr (w6.setCell ⟨ob, 2, none⟩ (.string x2)) (fun j => j = br)) := (HH2.out.trans hch).low ((Below.refl ob w6).setCell (Nat.le_refl _) _) HOB.out
       have HX3 : Hid ((w6.setCell ⟨ob, 2, none⟩ (.string x2)).heap[ob]? = some (.cells #[.int .i64 x0, .string x1, .string x2, .int .i64 (-1), .int .i64 0] 60 (0, 0))) := same_blk hxk rfl
       have f5 := free_5 hxk
       obtain ⟨m0, m1, m2, m3, m4⟩ := cells_5 hxk
       clear hs hch hx ht hxk)
    | (have hq := HE1; clear hq; go_at_call 113; refine Calls.mono (ey_text w0 br a c xs q1 b1 _ HC.out HE1.out) ?_
       rintro e w5 ⟨x1, q2, b2, rfl, hs, hch, hx, ht⟩
       have HT2 : Hid _ := ht
       have hxk : w5.heap[ob]? = some (.cells #[.int .i64 x0, .string ⟨#[]⟩, .string ⟨#[]⟩, .int .i64 (-1), .int .i64 0] 60 (0, 0)) := by rw [hch.block _ (lt_of_blk HX1.out) HNE.out]; exact HX1.out
       have HE2 : Hid (EyS w0 (w5.setCell ⟨ob, 1, none⟩ (.string x1)) br a c xs q2 b2) := hs.low ((Below.refl ob w5).setCell (Nat.le_refl _) _) HGE.out HC.out.lt
       have HH2 : Hid (Chg wr (w5.setCell ⟨ob, 1, none⟩ (.string x1)) (fun j => j = br)) := (HH1.out.trans hch).low ((Below.refl ob w5).setCell (Nat.le_refl _) _) HOB.out
       have HX2 : Hid ((w5.setCell ⟨ob, 1, none⟩ (.string x1)).heap[ob]? = some (.cells #[.int .i64 x0, .string x1, .string ⟨#[]⟩, .int .i64 (-1), .int .i64 0] 60 (0, 0))) := same_blk hxk rfl
       have f5 := free_5 hxk
       obtain ⟨m0, m1, m2, m3, m4⟩ := cells_5 hxk
       clear hs hch hx ht hxk)
    | (have hq := HE0; clear hq; go_at_call 80; refine Calls.mono (ey_number w0 br a c xs ps false _ HC.out HE0.out) ?_
       rintro e w4 ⟨x0, q1, b1, rfl, hs, hch, hx, ht⟩
       have HT1 : Hid _ := ht
       have hxk : w4.heap[ob]? = some (.cells #[.int .i64 0, .string ⟨#[]⟩, .string ⟨#[]⟩, .int .i64 (-1), .int .i64 0] 60 (0, 0)) := by rw [hch.block _ (lt_of_blk HX0.out) HNE.out]; exact HX0.out
       have HE1 : Hid (EyS w0 (w4.setCell ⟨ob, 0, none⟩ (.int .i64 x0)) br a c xs q1 b1) := hs.low ((Below.refl ob w4).setCell (Nat.le_refl _) _) HGE.out HC.out.lt
       have HH1 : Hid (Chg wr (w4.setCell ⟨ob, 0, none⟩ (.int .i64 x0)) (fun j => j = br)) := (HH0.out.trans hch).low ((Below.refl ob w4).setCell (Nat.le_refl _) _) HOB.out
       have HX1 : Hid ((w4.setCell ⟨ob, 0, none⟩ (.int .i64 x0)).heap[ob]? = some (.cells #[.int .i64 x0, .string ⟨#[]⟩, .string ⟨#[]⟩, .int .i64 (-1), .int .i64 0] 60 (0, 0))) := same_blk hxk rfl
       have f5 := free_5 hxk
       obtain ⟨m0, m1, m2, m3, m4⟩ := cells_5 hxk
       clear hs hch hx ht hxk)
    | fail)
      · go_roundw
        case rel =>
          refine ⟨q + 1, L ++ [⟨x0, x1, x2, -1, x4⟩], qf, bf, by go_num, by omega, by rw [List.length_append, hLq]; rfl, HO3, HE10, HH10, fun M r hb hl hM hd => ?_⟩
          obtain ⟨f1, f2, f3⟩ := HTr.out M r hb hl hM hd
          have hqM : q < M.length := by omega
          have e : M.drop q = M[q] :: M.drop (q + 1) := List.drop_eq_getElem_cons hqM
          rw [e, List.flatMap_cons, List.append_assoc] at f3
          obtain ⟨g1, g2, g3⟩ := HTO.out M[q] _ (hM _ (List.getElem_mem _)) f3
          refine ⟨?_, g2, g3⟩
          rw [f1, g1, List.take_add_one, List.getElem?_eq_getElem hqM]
          rfl
        case measure => simp [intOf]; omega
      · go_roundw
        case rel =>
          refine ⟨q + 1, L ++ [⟨x0, x1, x2, x5, x4⟩], qf, bf, by go_num, by omega, by rw [List.length_append, hLq]; rfl, HO3, HE10, HH10, fun M r hb hl hM hd => ?_⟩
          obtain ⟨f1, f2, f3⟩ := HTr.out M r hb hl hM hd
          have hqM : q < M.length := by omega
          have e : M.drop q = M[q] :: M.drop (q + 1) := List.drop_eq_getElem_cons hqM
          rw [e, List.flatMap_cons, List.append_assoc] at f3
          obtain ⟨g1, g2, g3⟩ := HTO.out M[q] _ (hM _ (List.getElem_mem _)) f3
          refine ⟨?_, g2, g3⟩
          rw [f1, g1, List.take_add_one, List.getElem?_eq_getElem hqM]
          rfl
        case measure => simp [intOf]; omega
    · obtain rfl : q = k := by omega
      have hlt' : ¬ (q : Int) < (q : Int) := by omega
      go_wp2_with fail
      go_ret
      exact HEND.out _ HOr.out (by simp)
end Go.Proofs.YtdjfeomdiljaeaaGreatDoor
