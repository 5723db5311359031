/-
  ViewIsNew: the walk.
-/
import Derived.Test.YtlbhnlpdijhmlaaVNewP
import Derived.Test.YtlbhnlpdijhmlaaVSame
import Derived.Test.YtlbhnlpdijhmlaaVScript
import Derived.Deep.CutRange
namespace Go.Proofs.Ytlbhnlpdijhmlaa
open Go.RowKit
set_option linter.unusedVariables false
set_option linter.unusedSimpArgs false
set_option maxHeartbeats 12800000 in
set_option maxRecDepth 100000 in
theorem ViewIsNew_walk (nodes : Int) (v : Value) (l : List WhT) (w : World) (h : ActsAt w (fun b => b < w.heap.size) v l) (hl : l.length ≤ maxLen) :
    Calls Try.prog 7 #[.int .i64 nodes, v] w fun e w' => e = .returned (.bool true) ∧ Below w.heap.size w w' := by
  unfold maxLen at hl
  obtain ⟨a, c, rfl, hc⟩ := RowAt.form h
  obtain ⟨m, hm⟩ : ∃ m, l.length = m := ⟨_, rfl⟩
  rw [hm] at h hl ⊢
  have HM : Hid (l.length = m) := hm
  have HLS : Hid (ActsAt w (fun b => b < w.heap.size) (.slice a m c) l) := h
  have HBE : Hid (∀ w, _) := fun w => begins_any serves w
  clear h hm hc
  by_cases hno : nodes < 1 ∨ 5 < nodes
  · have HN : Hid (∀ w, _) := fun w => serves.new_no w nodes hno
    clear hno
    go_enter Try.func7, Try.ntmps7
    go_wp2_with fail
    refine Calls.mono (HBE.out _) ?_
    rintro e w1 ⟨rfl, hb1⟩
    have HB1 : Hid _ := hb1
    clear hb1
    go_wp2_with fail
    refine Calls.mono (HN.out _) ?_
    rintro e w2 ⟨rfl, hb2⟩
    have HB2 : Hid _ := trans2 HB1.out hb2
    clear hb2
    go_wp2_with fail
    go_ret
    exact ⟨rfl, HB2.out⟩
  have h15 : 1 ≤ nodes ∧ nodes ≤ 5 := by omega
  have HN : Hid (∀ w, _) := fun w => serves.new_ok w nodes h15.1 h15.2
  have HN1 : Hid (1 ≤ nodes) := h15.1
  clear hno h15
  go_enter Try.func7, Try.ntmps7
  go_wp2_with fail
  refine Calls.mono (HBE.out _) ?_
  rintro e w1 ⟨rfl, hb1⟩
  have HB1 : Hid (Below w.heap.size w w1) := hb1
  clear hb1
  go_wp2_with fail
  refine Calls.mono (HN.out _) ?_
  rintro e w2 ⟨sb, K, rfl, h1, h2, h3⟩
  obtain ⟨p, hp⟩ : ∃ p, Value.pointer (some ⟨sb, 0, none⟩) = p := ⟨_, rfl⟩
  have H2 : Hid (Nw AtV w w2 K (newV nodes) p) := ⟨by rw [← hp]; exact h1, trans2 HB1.out h2, fun j hj => Nat.le_trans HB1.out.size (h3 j hj)⟩
  rw [hp]
  clear h1 h2 h3 hp
  go_wp2_with fail
  obtain ⟨B, hB⟩ : ∃ B, w2.heap.size = B := ⟨_, rfl⟩
  obtain ⟨w3, hw3⟩ : ∃ w3, w2.alloc (.cells #[.slice none 0 0, .slice none 0 0, .slice none 0 0, .slice none 0 0] 60) = w3 := ⟨_, rfl⟩
  rw [hw3, hB]
  have H3 : Hid (Qs w w3 B (.slice none 0 0) (.slice none 0 0) p K (newV nodes) []) := by
    rw [← hw3, ← hB]
    exact Qs.start H2.out (by have := HN1.out; show nodes ≠ 0; omega)
  obtain ⟨i0, hi, hz0, hz1, hz2⟩ := info_parts Try.info_vw
  obtain ⟨i1, hi1, hy0, hy1, hy2⟩ := info_parts Try.info_vws
  obtain ⟨i3, hi3, hv0, hv1, hv2⟩ := info_parts Try.info_nos
  clear hw3 hB H2
  go_loopw [9, 10, 11] (fun vv pv i wr => ∃ (q : Nat) (K : Nat → Prop) (V : SvT) (Vs : List (List VwT)), i = .int .i64 q ∧ q ≤ m + 1 ∧ q ≤ 161 ∧ Hid (Qs w wr B vv pv p K V Vs) ∧ Hid (Vs.length = 2 * q) ∧ Hid (∀ k, k < Vs.length → Vs[k]? = Vs[k / 2 * 2]?) ∧ Hid (∀ l ∈ Vs, l.length ≤ 401) ∧ Hid (m < q ∨ 160 < q → Vs.getLast? = some V.l)) (fun _ _ i _ => m + 1 - (intOf i).toNat)
  case atStart => exact ⟨0, K, _, [], rfl, by omega, by omega, H3, rfl, (fun k hk => by simp at hk), (fun l hl => by simp at hl), (fun h => by omega)⟩
  case round =>
    clear H3
    obtain ⟨q, K, V, Vs, rfl, hq, hq1, HQ, HVL, HVP, HV4, HVE⟩ := hrel
    by_cases hlt : q ≤ m ∧ q ≤ 160
    · obtain ⟨hlt, h160⟩ := hlt
      have hqi : (q : Int) ≤ (m : Int) := by omega
      have h160' : (q : Int) ≤ 160 := by omega
      have HQ0 : Hid (Qs w wr B u9 u10 p K V (Vs ++ List.replicate 0 V.l)) := by rw [List.replicate_zero, List.append_nil]; exact HQ
      clear HQ
      go_wp2_with fail
      go_loopw [9, 10, 12] (fun vv pv k wr => ∃ (d : Nat) (K : Nat → Prop), k = .int .i64 d ∧ d ≤ 2 ∧ Hid (Qs w wr B vv pv p K V (Vs ++ List.replicate d V.l))) (fun _ _ k _ => 2 - (intOf k).toNat)
      case atStart => exact ⟨0, K, rfl, by omega, HQ0⟩
      case round =>
        clear HQ0
        obtain ⟨d, K, rfl, hd, HQ⟩ := hrel
        by_cases hd2 : d < 2
        · have hdi : (d : Int) < 2 := by omega
          obtain ⟨Ws, hWs⟩ : ∃ Ws, Vs ++ List.replicate d V.l = Ws := ⟨_, rfl⟩
          rw [hWs] at HQ
          have HWS : Hid (Vs ++ List.replicate d V.l = Ws) := hWs
          clear hWs
          obtain ⟨⟨hv, hn, us, ms, xs, ha⟩, hnw, hv0⟩ := HQ.out
          have HA : Hid (Ak wr B hv hn us ms (VL Ws) (NL Ws) u9 u10 xs (VL Ws) (PL Ws) K w.heap.size) := ha
          have HNW : Hid (Nw AtV w wr K V p) := hnw
          have HV0 : Hid (V.nodes ≠ 0) := hv0
          have HNO : Hid (NoAt [.int .i64 21, .int .i64 0, .int .i64 0, .int .i64 0, .int .i64 0, .int .i64 0, .int .i64 0, .int .i64 0, .int .i64 0, .int .i64 0, .int .i64 0, .slice none 0 0, .slice none 0 0, .int .i64 0, .int .i64 0, .int .i64 0, .slice none 0 0, .slice none 0 0, .slice none 0 0, .slice none 0 0, .string ⟨#[]⟩] 21 0) := ⟨rfl, rfl, rfl, by simp [Value.oneCell']⟩
          obtain ⟨nl, hnl⟩ : ∃ nl, (V.l.map elV).length = nl := ⟨_, rfl⟩
          have HNL : Hid ((V.l.map elV).length = nl) := hnl
          have HNP : Hid (0 < nl ∧ nl ≤ 401) := by
            have h1 := List.length_pos_iff.2 (AtV.ne hnw.at' hv0)
            have h2 := (serves.ok hnw.at').len
            rw [← hnl, List.length_map]
            exact ⟨h1, h2⟩
          obtain ⟨lv, hlv⟩ : ∃ lv, lastV V.l = lv := ⟨_, rfl⟩
          have HLV : Hid (lastV V.l = lv) := hlv
          obtain ⟨pl, hpl⟩ : ∃ pl, (PL Ws).length = pl := ⟨_, rfl⟩
          have HPL : Hid ((PL Ws).length = pl) := hpl
          have HWL : Hid (Ws.length ≤ 400) := by
            have h2 : Ws.length = 2 * q + d := by rw [← HWS.out, List.length_append, List.length_replicate, HVL.out]
            show Ws.length ≤ 400
            omega
          have HML : Hid (ms.length ≤ 400) := by
            have h1 := ha.bo.fm.len
            rw [List.length_map] at h1
            have := HWL.out
            show ms.length ≤ 400
            omega
          have HUL : Hid (us.length ≤ 400) := by
            have h1 := ha.bo.fu.len
            rw [List.length_map] at h1
            have := HWL.out
            show us.length ≤ 400
            omega
          have HXL : Hid (xs.length ≤ 400) := by
            have h1 := ha.cp.cf.len
            rw [List.length_map] at h1
            have := HWL.out
            show xs.length ≤ 400
            omega
          have HPB : Hid (pl ≤ 400) := by
            have := HWL.out
            rw [List.length_map] at hpl
            show pl ≤ 400
            omega
          clear ha hnw hv0 HQ hnl hlv hpl
          go_wp2_with (first
            | (refine wpList_append_any _ rfl _ _ 31 rfl 0 28 i0 (.agg #[.int .i64 0, .int .i64 0, .int .i64 0]) 3 24 Try.underlying31 hi hz0 hz1 hz2 rfl (by decide) u10 pl (fl (PL Ws)) rfl HG12.out ⟨w12.heap.size, 0, none⟩ 1 1 [.int .i64 lv.n, .int .i64 lv.p, .int .i64 lv.b] rfl rfl (fun j v hj => by rw [addr_add, Nat.zero_add, cell_blkD (heap_alloc_new _ _)]; exact (by simpa using hj)) (by simp [Value.oneCell']) (by decide) (by unfold maxLen; have := HPB.out; omega) (by have := HPB.out; omega) (Nat.zero_le _) ?_
               intro g7 c7 w13 h3 hal
               have hk := H12.out.kept (x := elV lv) ((Below.refl _ _).alloc (Nat.le_refl _) _) (fun j hj => serves.lt HN12.out.at' j hj) (by rw [HPL.out]; exact h3) (by rw [HPL.out]; exact hal)
               rw [HPL.out] at hk
               have H13 : Hid _ := hk.1
               have HN13 : Hid (Nw AtV w w13 K' V p) := HN12.out.chg hk.2 H12.out.ck H12.out.nc
               clear hk h3 hal)
            | (go_at_call 11; refine Calls.mono (serves.now w11 K V p HN11.out.at') ?_; rintro e w12 ⟨rfl, K', hat, hc, hk⟩
               rw [HLV.out]
               have H12 : Hid _ := H11.out.called hc hk
               have HN12 : Hid (Nw AtV w w12 K' V p) := HN11.out.called hat hc hk
               have HG12 : Hid ((w12.alloc (.cells #[.int .i64 lv.n, .int .i64 lv.p, .int .i64 lv.b] 28)).ownsRow 0 28 3 u10 pl (fl (PL Ws))) := by
                 have h9 := H12.out.cp.pr
                 rw [HPL.out] at h9
                 exact owns_below h9 ((Below.refl _ _).alloc (Nat.le_refl _) _)
               clear hat hc hk)
            | (refine wpList_append_any _ rfl _ _ 57 rfl 0 31 i1 (.slice none 0 0) 1 24 Try.underlying57 hi1 hy0 hy1 hy2 rfl (by decide) u9 xs.length xs rfl HG10.out ⟨w10.heap.size, 0, none⟩ 1 1 [.slice (some ⟨g5, 0, none⟩) nl c5] rfl rfl (fun j v hj => by rw [addr_add, Nat.zero_add, cell_blkD (heap_alloc_new _ _)]; exact (by simpa using hj)) (by simp [Value.oneCell']) (by decide) (by unfold maxLen; have := HXL.out; omega) (by have := HXL.out; omega) (Nat.zero_le _) ?_
               intro g6 c6 w11 h3 hal
               have hk := H10.out.copied (l := V.l.map elV) (by rw [HNL.out]; exact HR10.out) HNE10.out ((Below.refl _ _).alloc (Nat.le_refl _) _) (fun j hj => serves.lt HN10.out.at' j hj) h3 hal
               have H11 : Hid _ := hk.1
               have HN11 : Hid (Nw AtV w w11 K V p) := HN10.out.chg hk.2 H10.out.ck H10.out.nc
               clear hk h3 hal)
            | (refine wpList_append_any _ rfl _ _ 31 rfl 0 28 i0 (.agg #[.int .i64 0, .int .i64 0, .int .i64 0]) 3 24 Try.underlying31 hi hz0 hz1 hz2 rfl (by decide) (.slice (some ⟨w8.heap.size, 0, none⟩) 0 0) 0 [] rfl HG9.out ⟨ug, 0, none⟩ nl uc (fl (V.l.map elV)) rfl HFL.out HS9.out (fl_one _) HNP.out.1 (by unfold maxLen; have := HNP.out; omega) (by have := HNP.out; omega) (Nat.zero_le _) ?_
               intro g5 c5 w10 h3 hal
               simp only [Nat.zero_add, List.nil_append] at h3 ⊢
               obtain ⟨h10, hn10, hne10⟩ := copy1 nl H9.out HN9.out (by simp only [World.size_setCell]) hal
               have H10 : Hid _ := h10
               have HN10 : Hid (Nw AtV w w10 K V p) := hn10
               have HNE10 : Hid _ := hne10
               have HR10 : Hid (w10.ownsRow 0 28 3 (.slice (some ⟨g5, 0, none⟩) nl c5) nl (fl (V.l.map elV))) := h3
               have HG10 : Hid ((w10.alloc (.cells #[.slice (some ⟨g5, 0, none⟩) nl c5] 31)).ownsRow 0 31 1 u9 xs.length xs) := owns_below H10.out.cp.cv ((Below.refl _ _).alloc (Nat.le_refl _) _)
               clear h3 hal h10 hn10 hne10)
            | (refine wpList_append_any _ rfl _ _ 58 rfl 0 52 i3 (.slice none 0 0) 1 24 Try.underlying58 hi3 hv0 hv1 hv2 rfl (by decide) hn ms.length ms rfl HG7.out ⟨w6.heap.size, 0, none⟩ 1 1 [.slice (some ⟨mg, 0, none⟩) 1 mc] rfl rfl HCL7.out (by simp [Value.oneCell']) (by decide) (by unfold maxLen; have := HML.out; omega) (by have := HML.out; omega) (Nat.zero_le _) ?_
               intro g4 c4 w8 h3 hal
               have hp := H7.out.pushN (l := [elN (lastV V.l)]) HR57.out HNE7.out ((Below.refl _ _).alloc (Nat.le_refl _) _) (fun j hj => serves.lt HN7.out.at' j hj) h3 hal
               have H9 : Hid _ := hp.1
               have HN9 : Hid (Nw AtV w (w8.setCell ⟨B, 2, none⟩ (.slice (some ⟨g4, 0, none⟩) (ms.length + 1) c4)) K V p) := HN7.out.chg hp.2 H7.out.bk H7.out.nb
               have hB8 : w8.heap[B]? = some (.cells #[.slice (some ⟨g3, 0, none⟩) (us.length + 1) c3, .slice none 0 0, hn, .slice none 0 0] 60 (0, 0)) := by
                 have h9 := new_old H7.out.bo.box (.cells #[.slice (some ⟨mg, 0, none⟩) 1 mc] 52)
                 rcases hal with ⟨e, hg3⟩ | ⟨_, hg3⟩
                 · rw [hg3.block B (lt_of_blk h9) (fun e' => by cases e'; exact kind_box H7.out.bo.nr (by rw [e]; rfl) H7.out.bo.box (by decide) rfl)]
                   exact h9
                 · rw [hg3.block B (lt_of_blk h9) (fun e' => by cases e')]
                   exact h9
               clear c0 c1 c2 c3' fb d0 d1 d2 d3
               obtain ⟨c0, c1, c2, c3'⟩ := cells_4 hB8
               have fb : ∀ o, w8.frozen? ⟨B, o, none⟩ = false := free_of hB8
               have HRL9 : Hid ((w8.setCell ⟨B, 2, none⟩ (.slice (some ⟨g4, 0, none⟩) (ms.length + 1) c4)).ownsRow 0 28 3 (.slice (some ⟨ug, 0, none⟩) nl uc) nl (fl (V.l.map elV))) := by
                 have h9 := H9.out.bo.fu.row us.length _ _ (snoc_at us _) (snoc_len _ (by have := H7.out.bo.fu.len; simp at this ⊢; omega))
                 rw [HNL.out] at h9
                 exact h9
               have HG9 : Hid (((w8.setCell ⟨B, 2, none⟩ (.slice (some ⟨g4, 0, none⟩) (ms.length + 1) c4)).alloc (.cells #[] 28)).ownsRow 0 28 3 (.slice (some ⟨w8.heap.size, 0, none⟩) 0 0) 0 []) := owns_empty 3 (by simp only [World.size_setCell])
               have HS9 : Hid (∀ j u, (fl (V.l.map elV))[j]? = some u → ((w8.setCell ⟨B, 2, none⟩ (.slice (some ⟨g4, 0, none⟩) (ms.length + 1) c4)).alloc (.cells #[] 28)).cell? (Addr.add ⟨ug, 0, none⟩ j) = some u) := row_news (owns_below HRL9.out ((Below.refl _ _).alloc (Nat.le_refl _) _))
               have HFL : Hid ((fl (V.l.map elV)).length = nl * 3) := by
                 have h9 := fl_len (V.l.map elV)
                 rw [HNL.out] at h9
                 exact h9
               clear hp h3 hal hB8)
            | (refine wpList_append_any _ rfl _ _ 57 rfl 0 31 i1 (.slice none 0 0) 1 24 Try.underlying57 hi1 hy0 hy1 hy2 rfl (by decide) hv us.length us rfl HG5.out ⟨w5.heap.size, 0, none⟩ 1 1 [.slice (some ⟨ug, 0, none⟩) nl uc] rfl rfl (fun j v hj => by rw [addr_add, Nat.zero_add, cell_blkD (heap_alloc_new _ _)]; exact (by simpa using hj)) (by simp [Value.oneCell']) (by decide) (by unfold maxLen; have := HUL.out; omega) (by have := HUL.out; omega) (Nat.zero_le _) ?_
               intro g3 c3 w6 h3 hal
               clear b0 b1 b2 b3
               have hp := H5.out.pushV (l := V.l.map elV) (by rw [HNL.out]; exact HR45.out) HNE5.out ((Below.refl _ _).alloc (Nat.le_refl _) _) (fun j hj => serves.lt HN5.out.at' j hj) h3 hal
               have H7 : Hid _ := hp.1
               have HN7 : Hid (Nw AtV w (w6.setCell ⟨B, 0, none⟩ (.slice (some ⟨g3, 0, none⟩) (us.length + 1) c3)) K V p) := HN5.out.chg hp.2 H5.out.bk H5.out.nb
               have HC7 : Hid _ := hp.2
               have hB6 : w6.heap[B]? = some (.cells #[hv, .slice none 0 0, hn, .slice none 0 0] 60 (0, 0)) := by
                 have h9 := new_old H5.out.bo.box (.cells #[.slice (some ⟨ug, 0, none⟩) nl uc] 31)
                 rcases hal with ⟨e, hg3⟩ | ⟨_, hg3⟩
                 · rw [hg3.block B (lt_of_blk h9) (fun e' => by cases e'; exact kind_box H5.out.bo.hr (by rw [e]; rfl) H5.out.bo.box (by decide) rfl)]
                   exact h9
                 · rw [hg3.block B (lt_of_blk h9) (fun e' => by cases e')]
                   exact h9
               obtain ⟨c0, c1, c2, c3'⟩ := cells_4 hB6
               have fb : ∀ o, w6.frozen? ⟨B, o, none⟩ = false := free_of hB6
               obtain ⟨d0, d1, d2, d3⟩ := cells_4 H7.out.bo.box
               have HG7 : Hid (((w6.setCell ⟨B, 0, none⟩ (.slice (some ⟨g3, 0, none⟩) (us.length + 1) c3)).alloc (.cells #[.slice (some ⟨mg, 0, none⟩) 1 mc] 52)).ownsRow 0 52 1 hn ms.length ms) := owns_below H7.out.bo.nr ((Below.refl _ _).alloc (Nat.le_refl _) _)
               have HR57 : Hid ((w6.setCell ⟨B, 0, none⟩ (.slice (some ⟨g3, 0, none⟩) (us.length + 1) c3)).ownsRow 0 47 21 (.slice (some ⟨mg, 0, none⟩) 1 mc) [elN (lastV V.l)].length (fl [elN (lastV V.l)])) := owns_same HR5.out.1 (fun b hb => HC7.out.block b (row_block HR5.out.1 b hb).2 (fun e' => by have h1 := (HR5.out.2 b hb).1; have h2 := H4.out.bo.lt b e'; omega))
               have HNE7 : Hid (∀ b, (Value.slice (some ⟨mg, 0, none⟩) 1 mc).ownBlock = some b → ¬ FamB ms b ∧ ¬ CpB u9 u10 xs b ∧ ¬ K b ∧ w.heap.size ≤ b) := fun b hb => by
                 have h1 := HR5.out.2 b hb
                 exact ⟨fun e => by have := H4.out.bo.fm.lt e; omega, fun e => by have := H4.out.cp.lt b e; omega, h1.2, Nat.le_trans HN4.out.below.size h1.1⟩
               have HCL7 : Hid (∀ j v, ([.slice (some ⟨mg, 0, none⟩) 1 mc] : List Value)[j]? = some v → ((w6.setCell ⟨B, 0, none⟩ (.slice (some ⟨g3, 0, none⟩) (us.length + 1) c3)).alloc (.cells #[.slice (some ⟨mg, 0, none⟩) 1 mc] 52)).cell? (Addr.add ⟨w6.heap.size, 0, none⟩ j) = some v) := fun j v hj => by
                 have hsz : w6.heap.size = (w6.setCell ⟨B, 0, none⟩ (.slice (some ⟨g3, 0, none⟩) (us.length + 1) c3)).heap.size := by simp only [World.size_setCell]
                 rw [addr_add, Nat.zero_add, hsz, cell_blkD (heap_alloc_new _ _)]
                 exact (by simpa using hj)
               clear hp h3 hal hB6)
            | (go_at_call 14; refine Calls.mono (all_new wr K V p HNW.out.at' HV0.out) ?_; rintro e w4 ⟨u, rfl, hr, hnew, hat, hc⟩
               have H4 : Hid (Ak w4 B hv hn us ms (VL Ws) (NL Ws) u9 u10 xs (VL Ws) (PL Ws) K w.heap.size) := HA.out.called hc (fun j h => .inl h)
               have HN4 : Hid (Nw AtV w w4 K V p) := HNW.out.asked hat hc
               rw [HNL.out] at hr
               have HR4 : Hid (w4.ownsRow 0 28 3 u nl (fl (V.l.map elV)) ∧ ∀ j, u.ownBlock = some j → wr.heap.size ≤ j ∧ ¬ K j) := ⟨hr, hnew⟩
               obtain ⟨ug, uc, rfl, _⟩ := hr.form HNP.out.1
               clear hr hnew hat hc)
            | (go_at_call 17; refine Calls.mono (ask_new w4 K V p q 0 _ HN4.out.at' HV0.out HNO.out) ?_; rintro e w5 ⟨mm, rfl, hr, hnew, hat, hc⟩
               have H5 : Hid (Ak w5 B hv hn us ms (VL Ws) (NL Ws) u9 u10 xs (VL Ws) (PL Ws) K w.heap.size) := H4.out.called hc (fun j h => .inl h)
               have HN5 : Hid (Nw AtV w w5 K V p) := HN4.out.asked hat hc
               have H45 : Hid (Chg w4 w5 K) := hc
               have HNE5 : Hid (∀ b, (Value.slice (some ⟨ug, 0, none⟩) nl uc).ownBlock = some b → ¬ FamB us b ∧ ¬ CpB u9 u10 xs b ∧ ¬ K b ∧ w.heap.size ≤ b) := fun b hb => by
                 have h1 := (HR4.out.2 b hb)
                 exact ⟨fun e => by have := HA.out.bo.fu.lt e; omega, fun e => by have := HA.out.cp.lt b e; omega, h1.2, Nat.le_trans HNW.out.below.size h1.1⟩
               have HR5 : Hid (w5.ownsRow 0 47 21 mm [elN (lastV V.l)].length (fl [elN (lastV V.l)]) ∧ ∀ j, mm.ownBlock = some j → w4.heap.size ≤ j ∧ ¬ K j) := ⟨hr, hnew⟩
               obtain ⟨mg, mc, rfl, _⟩ := hr.form (by simp)
               clear hr hnew hat hc
               have HG5 : Hid ((w5.alloc (.cells #[.slice (some ⟨ug, 0, none⟩) nl uc] 31)).ownsRow 0 31 1 hv us.length us) := owns_below H5.out.bo.hr ((Below.refl _ _).alloc (Nat.le_refl _) _)
               have HR45 : Hid (w5.ownsRow 0 28 3 (.slice (some ⟨ug, 0, none⟩) nl uc) nl (fl (V.l.map elV))) := owns_same HR4.out.1 (fun b hb => H45.out.block b (row_block HR4.out.1 b hb).2 (HR4.out.2 b hb).2)
               obtain ⟨b0, b1, b2, b3⟩ := cells_4 H5.out.bo.box)
            | fail)
          go_roundw
          case rel =>
            refine ⟨d + 1, K', by go_num, by omega, ?_⟩
            have e : Vs ++ List.replicate (d + 1) V.l = Ws ++ [V.l] := by rw [← HWS.out, List.replicate_succ', List.append_assoc]
            rw [e]
            have h9 := H13.out
            rw [← HLV.out] at h9
            exact Qs.one h9 HN13.out HV0.out
          case measure => simp [intOf]; omega
        · obtain rfl : d = 2 := by omega
          have HQ2 : Hid (Qs w wr B u9 u10 p K V (Vs ++ List.replicate 2 V.l)) := HQ
          have hvl : V.l.length ≤ 401 := (serves.ok HQ.out.2.1.at').len
          have HNX : Hid _ := vs_next HVL.out HVP.out HV4.out hvl
          clear HQ hvl
          by_cases hdid : q < m ∧ q < 160
          · obtain ⟨hqm, hq160⟩ := hdid
            have hqmi : (q : Int) < (m : Int) := by omega
            have hq160i : (q : Int) < 160 := by omega
            obtain ⟨y, hy⟩ : ∃ y, l[q]? = some y := ⟨l[q]'(by rw [HM.out]; exact hqm), List.getElem?_eq_getElem _⟩
            obtain ⟨b, o, rfl, _, hb, cs, hat, hr⟩ := RowAt.get HLS.out hy
            have HR : Hid (w.rangeAt b (o + q * 24) cs ∧ y.At cs ∧ b < w.heap.size) := ⟨hr, hat, hb⟩
            clear hy hb hat hr
            have HR4 : Hid (wr.rangeAt b (o + q * 24) cs) := fun j u hu => by
              rw [HQ2.out.2.1.below.cell (p := ⟨b, o + q * 24 + j, none⟩) HR.out.2.2]
              exact HR.out.1 j u hu
            go_wp2_with (first
              | (refine wpList_load_mid rfl 49 _ rfl b (o + q * 24) rfl cs _ HR4.out Try.underlying49 rfl (by rw [HR.out.2.1.len]; exact Try.infoAct) ?_)
              | fail)
            refine Calls.mono (did_any serves wr K V p y cs HQ2.out.2.1.at' HR.out.2.1) ?_
            rintro e w6 ⟨rfl, K6, h1, h2, h3⟩
            have HQ6 : Hid (Qs w w6 B u9 u10 p K6 (V.does (wholeT (lastV V.l) y)) (Vs ++ List.replicate 2 V.l)) := HQ2.out.did h1 h2 h3 (does_nodesN _ _)
            clear h1 h2 h3
            go_wp2_with fail
            go_roundw
            case rel => exact ⟨q + 1, K6, _, _, by go_num, by omega, by omega, HQ6, HNX.out.1, HNX.out.2.1, HNX.out.2.2.1, fun h => by omega⟩
            case measure => simp [intOf]; omega
          · have hexit : ((q : Int) < (m : Int) ∧ ¬ (q : Int) < 160) ∨ ¬ (q : Int) < (m : Int) := by omega
            rcases hexit with ⟨h1', h2'⟩ | h1'
            all_goals (
              go_wp2_with fail
              go_roundw
              case rel => exact ⟨q + 1, K, V, _, by go_num, by omega, by omega, HQ2, HNX.out.1, HNX.out.2.1, HNX.out.2.2.1, fun _ => HNX.out.2.2.2⟩
              case measure => simp [intOf]; omega)
    · have HVL2 : Hid (Vs.getLast? = some V.l) := HVE.out (by omega)
      have HQ1 : Hid (1 ≤ q) := by show 1 ≤ q; omega
      have hexit : ((q : Int) ≤ (m : Int) ∧ ¬ (q : Int) ≤ 160) ∨ ¬ (q : Int) ≤ (m : Int) := by omega
      clear hlt HVE
      go_upto_region 11 with fail
      go_cut [40] from 33 to 97 (fun s40 wc => s40 = .bool false ∧ wc = wr)
      case first =>
        rcases hexit with ⟨h1', h2'⟩ | h1'
        all_goals (
          go_wp2_with fail
          go_meet
          case rel => exact ⟨rfl, rfl⟩)
      case rest =>
        obtain ⟨rfl, hwc⟩ := hcut
        rw [hwc]
        clear hexit hwc
        obtain ⟨⟨hv, hn, us, ms, xs, ha⟩, hnw, hv0⟩ := HQ.out
        obtain ⟨N, hN⟩ : ∃ N, Vs.length = N := ⟨_, rfl⟩
        have hN1 : 1 ≤ N ∧ N ≤ 400 := by have h1 := HVL.out; have h2 := HQ1.out; constructor <;> omega
        obtain ⟨gv, cv, gx, cx, gn, cn, gp, cp, rfl, rfl, rfl, rfl, hrn⟩ := ha.rn hN hN1.1
        have HRN : Hid (Rn wr B gv cv gx cx gn cn gp cp N us ms xs Vs) := hrn
        have HA : Hid _ := ha
        have HNW : Hid (Nw AtV w wr K V p) := hnw
        have HV0 : Hid (V.nodes ≠ 0) := hv0
        have HNN : Hid (Vs.length = N ∧ 1 ≤ N ∧ N ≤ 400) := ⟨hN, hN1⟩
        clear ha hnw hv0 hrn hN hN1 HQ hq hq1
        obtain ⟨wo, hwo⟩ : ∃ x, x = wr := ⟨wr, rfl⟩
        subst hwo
        obtain ⟨Kq, hKq⟩ : ∃ x, x = K := ⟨K, rfl⟩
        subst hKq
        go_wp2_with fail
        go_loopw [15] (fun i wk => ∃ j : Nat, i = .int .i64 j ∧ j ≤ N ∧ Hid (Below wo.heap.size wo wk)) (fun i _ => N - (intOf i).toNat)
        case atStart => exact ⟨0, rfl, Nat.zero_le _, Below.refl _ _⟩
        case round =>
          obtain ⟨j, rfl, hj, HB⟩ := hrel
          by_cases hltj : j < N
          · have hji : (j : Int) < (N : Int) := by omega
            obtain ⟨uj, xj, xe, mg, mc, lj, lj2, hu, hx, hxe, hlj, hlj2, hS⟩ := HRN.out.at hltj
            obtain rfl : lj2 = lj := by
              have h9 := HVP.out j (by rw [HNN.out.1]; exact hltj)
              rw [hlj, hlj2] at h9
              simpa using h9.symm
            have HL4 : Hid (lj2.length ≤ 401) := HV4.out _ (List.mem_of_getElem? hlj)
            have HUX : Hid (∀ w', Below wo.heap.size wo w' → VwsAt w' (fun _ => True) uj lj2 ∧ VwsAt w' (fun _ => True) xj lj2 ∧ VwsAt w' (fun _ => True) xe lj2) := fun w' hb => ⟨(HRN.out.on hb).fu.vws hu hlj, (HRN.out.on hb).cf.vws hx hlj, (HRN.out.on hb).cf.vws hxe hlj2⟩
            obtain ⟨t, ht⟩ : ∃ t, lastV lj2 = t := ⟨_, rfl⟩
            rw [ht] at hS
            obtain ⟨j2, hj2⟩ : ∃ j2, j / 2 * 2 = j2 := ⟨_, rfl⟩
            rw [hj2] at hS
            have HSS : Hid (∀ w', Below wo.heap.size wo w' → RnS B gv cv gn cn gx j j2 N uj xj xe mg mc gp t w') := hS
            have hj2N : (j2 : Int) < (N : Int) := by omega
            have hj400 : j ≤ 400 := by have h4 := HNN.out.2.2; omega
            have hjw : IntKind.i64.wrap (IntKind.i64.wrap ((j : Int) / 2) * 2) = (j2 : Int) := wrap_half hj2 hj400
            clear hu hx hxe hlj hlj2 ht hS hj2
            obtain ⟨uja, ujn, ujc, rfl⟩ : ∃ a n c, uj = .slice a n c := by obtain ⟨a, c, e, _⟩ := RowAt.form (HUX.out wo (Below.refl _ _)).1; exact ⟨_, _, _, e⟩
            obtain ⟨xja, xjn, xjc, rfl⟩ : ∃ a n c, xj = .slice a n c := by obtain ⟨a, c, e, _⟩ := RowAt.form (HUX.out wo (Below.refl _ _)).2.1; exact ⟨_, _, _, e⟩
            obtain ⟨xea, xen, xec, rfl⟩ : ∃ a n c, xe = .slice a n c := by obtain ⟨a, c, e, _⟩ := RowAt.form (HUX.out wo (Below.refl _ _)).2.2; exact ⟨_, _, _, e⟩
            go_wp2_with fail
            obtain ⟨w7, hw7⟩ : ∃ w7, wr.drew = w7 := ⟨_, rfl⟩
            have HB7 : Hid (Below wo.heap.size wo w7) := by rw [← hw7]; exact below_drew HB.out
            have HS7 : Hid (RnS B gv cv gn cn gx j j2 N (.slice uja ujn ujc) (.slice xja xjn xjc) (.slice xea xen xec) mg mc gp t w7) := HSS.out w7 HB7.out
            unfold RnS at HSS HS7
            refine wp_region_held_drew (S := (fun w' => w'.rangeAt mg 0 (tellCs t) ∧ w'.rangeAt gp (j * 3) (vwCs t) ∧ w'.cell? ⟨B, 0, none⟩ = some (.slice (some ⟨gv, 0, none⟩) N cv) ∧ w'.cell? ⟨B, 2, none⟩ = some (.slice (some ⟨gn, 0, none⟩) N cn) ∧ w'.cell? ⟨gv, j, none⟩ = some (.slice uja ujn ujc) ∧ w'.cell? ⟨gx, j, none⟩ = some (.slice xja xjn xjc) ∧ w'.cell? ⟨gx, j2, none⟩ = some (.slice xea xen xec) ∧ w'.cell? ⟨gn, j, none⟩ = some (.slice (some ⟨mg, 0, none⟩) 1 mc))) (by kernel_rfl) (by rw [hw7]; exact HS7.out) (fun hHeld => ?_)
            rw [hw7] at hHeld ⊢
            clear hw7
            refine wpAnyH_take (i := 0) (v := ?_) rfl (by kernel_rfl) (by kernel_rfl) (by kernel_rfl) (fun _ _ _ h => h) ?_ hHeld ?_
            rotate_left
            · refine Or.inl ⟨by rfl, ?_⟩; intro w hSw; obtain ⟨hh0, hh1, hh2, hh3, hh4, hh5, hh6, hh7⟩ := hSw; clear hh0 hh1; go_simp <;> with_reducible rfl
            try simp only [List.getElem_toArray, List.getElem_cons_succ, List.getElem_cons_zero, Act.put, List.setIfInBounds_toArray, List.set_cons_zero, List.set_cons_succ]
            refine wpAnyH_take (i := 1) (v := ?_) rfl (by kernel_rfl) (by kernel_rfl) (by kernel_rfl) (fun _ _ _ h => h) ?_ hHeld ?_
            rotate_left
            · refine Or.inl ⟨by rfl, ?_⟩; intro w hSw; obtain ⟨hh0, hh1, hh2, hh3, hh4, hh5, hh6, hh7⟩ := hSw; clear hh0 hh1; go_simp <;> with_reducible rfl
            try simp only [List.getElem_toArray, List.getElem_cons_succ, List.getElem_cons_zero, Act.put, List.setIfInBounds_toArray, List.set_cons_zero, List.set_cons_succ]
            refine wpAnyH_take (i := 2) (v := ?_) rfl (by kernel_rfl) (by kernel_rfl) (by kernel_rfl) (fun _ _ _ h => h) ?_ hHeld ?_
            rotate_left
            · refine Or.inl ⟨by rfl, ?_⟩; intro w hSw; obtain ⟨hh0, hh1, hh2, hh3, hh4, hh5, hh6, hh7⟩ := hSw; clear hh0 hh1; go_simp <;> with_reducible rfl
            try simp only [List.getElem_toArray, List.getElem_cons_succ, List.getElem_cons_zero, Act.put, List.setIfInBounds_toArray, List.set_cons_zero, List.set_cons_succ]
            refine wpAnyH_take (i := 3) (v := ?_) rfl (by kernel_rfl) (by kernel_rfl) (by kernel_rfl) (fun _ _ _ h => h) ?_ hHeld ?_
            rotate_left
            · refine Or.inl ⟨by rfl, ?_⟩; intro w hSw; obtain ⟨hh0, hh1, hh2, hh3, hh4, hh5, hh6, hh7⟩ := hSw; clear hh0 hh1; go_simp <;> with_reducible rfl
            try simp only [List.getElem_toArray, List.getElem_cons_succ, List.getElem_cons_zero, Act.put, List.setIfInBounds_toArray, List.set_cons_zero, List.set_cons_succ]
            refine wpAnyH_take (i := 4) (v := ?_) rfl (by kernel_rfl) (by kernel_rfl) (by kernel_rfl) (fun _ _ _ h => h) ?_ hHeld ?_
            rotate_left
            · refine Or.inl ⟨by rfl, ?_⟩; intro w hSw; obtain ⟨hh0, hh1, hh2, hh3, hh4, hh5, hh6, hh7⟩ := hSw; clear hh0 hh1; go_simp <;> with_reducible rfl
            try simp only [List.getElem_toArray, List.getElem_cons_succ, List.getElem_cons_zero, Act.put, List.setIfInBounds_toArray, List.set_cons_zero, List.set_cons_succ]
            refine wpAnyH_take (i := 5) (v := ?_) rfl (by kernel_rfl) (by kernel_rfl) (by kernel_rfl) (fun _ _ _ h => h) ?_ hHeld ?_
            rotate_left
            · refine Or.inl ⟨by rfl, ?_⟩; intro w hSw; obtain ⟨hh0, hh1, hh2, hh3, hh4, hh5, hh6, hh7⟩ := hSw; clear hh0 hh1; go_simp <;> with_reducible rfl
            try simp only [List.getElem_toArray, List.getElem_cons_succ, List.getElem_cons_zero, Act.put, List.setIfInBounds_toArray, List.set_cons_zero, List.set_cons_succ]
            refine wpAnyH_take (i := 6) (v := ?_) rfl (by kernel_rfl) (by kernel_rfl) (by kernel_rfl) (fun _ _ _ h => h) ?_ hHeld ?_
            rotate_left
            · refine Or.inl ⟨by rfl, ?_⟩; intro w hSw; obtain ⟨hh0, hh1, hh2, hh3, hh4, hh5, hh6, hh7⟩ := hSw; clear hh0 hh1; go_simp <;> with_reducible rfl
            try simp only [List.getElem_toArray, List.getElem_cons_succ, List.getElem_cons_zero, Act.put, List.setIfInBounds_toArray, List.set_cons_zero, List.set_cons_succ]
            refine wpAnyH_take (i := 7) (v := ?_) rfl (by kernel_rfl) (by kernel_rfl) (by kernel_rfl) (fun _ _ _ h => h) ?_ hHeld ?_
            rotate_left
            · refine Or.inl ⟨by rfl, ?_⟩; intro w hSw; obtain ⟨hh0, hh1, hh2, hh3, hh4, hh5, hh6, hh7⟩ := hSw; clear hh0 hh1; go_simp <;> with_reducible rfl
            try simp only [List.getElem_toArray, List.getElem_cons_succ, List.getElem_cons_zero, Act.put, List.setIfInBounds_toArray, List.set_cons_zero, List.set_cons_succ]
            refine wpAnyH_take (i := 8) (v := ?_) rfl (by kernel_rfl) (by kernel_rfl) (by kernel_rfl) (fun _ _ _ h => h) ?_ hHeld ?_
            rotate_left
            · refine Or.inl ⟨by rfl, ?_⟩; intro w hSw; obtain ⟨hh0, hh1, hh2, hh3, hh4, hh5, hh6, hh7⟩ := hSw; clear hh0 hh1; go_simp <;> with_reducible rfl
            try simp only [List.getElem_toArray, List.getElem_cons_succ, List.getElem_cons_zero, Act.put, List.setIfInBounds_toArray, List.set_cons_zero, List.set_cons_succ]
            refine wpAnyH_take (i := 9) (v := ?_) rfl (by kernel_rfl) (by kernel_rfl) (by kernel_rfl) (fun _ _ _ h => h) ?_ hHeld ?_
            rotate_left
            · refine Or.inl ⟨by rfl, ?_⟩; intro w hSw; obtain ⟨hh0, hh1, hh2, hh3, hh4, hh5, hh6, hh7⟩ := hSw; clear hh0 hh1; go_simp <;> with_reducible rfl
            try simp only [List.getElem_toArray, List.getElem_cons_succ, List.getElem_cons_zero, Act.put, List.setIfInBounds_toArray, List.set_cons_zero, List.set_cons_succ]
            refine wpAnyH_take (i := 10) (v := ?_) rfl (by kernel_rfl) (by kernel_rfl) (by kernel_rfl) (fun _ _ _ h => h) ?_ hHeld ?_
            rotate_left
            · refine Or.inl ⟨by rfl, ?_⟩; intro w hSw; obtain ⟨hh0, hh1, hh2, hh3, hh4, hh5, hh6, hh7⟩ := hSw; clear hh0 hh1; go_simp <;> with_reducible rfl
            try simp only [List.getElem_toArray, List.getElem_cons_succ, List.getElem_cons_zero, Act.put, List.setIfInBounds_toArray, List.set_cons_zero, List.set_cons_succ]
            refine wpAnyH_ready (rs := [11]) (by kernel_rfl) (by simp) ?_
            refine AllReadyH.cons rfl (fun K hK => ?_) AllReadyH.nil
            refine step_callx (by rfl) 19 _ _ (by rfl) (fun _ _ => by rfl) [.slice uja ujn ujc, .slice xja xjn xjc] (by rfl) (views_same _ _ lj2 w7 _ _ (HUX.out w7 HB7.out).1 (HUX.out w7 HB7.out).2.1 HL4.out) ?_
            rintro e w8 ⟨rfl, hb8⟩
            have HB8 : Hid (Below wo.heap.size wo w8) := trans2 HB7.out hb8
            clear hb8
            refine ⟨_, rfl, hK.out _ _ (HSS.out w8 HB8.out) (fun hHeld => ?_)⟩
            clear hK K
            try simp only [List.getElem_toArray, List.getElem_cons_succ, List.getElem_cons_zero, Act.put, List.setIfInBounds_toArray, List.set_cons_zero, List.set_cons_succ]
            refine wpAnyH_take (i := 12) (v := ?_) rfl (by kernel_rfl) (by kernel_rfl) (by kernel_rfl) (fun _ _ _ h => h) ?_ hHeld ?_
            rotate_left
            · refine Or.inl ⟨by rfl, ?_⟩; intro w hSw; obtain ⟨hh0, hh1, hh2, hh3, hh4, hh5, hh6, hh7⟩ := hSw; clear hh0 hh1; go_simp <;> with_reducible rfl
            try simp only [List.getElem_toArray, List.getElem_cons_succ, List.getElem_cons_zero, Act.put, List.setIfInBounds_toArray, List.set_cons_zero, List.set_cons_succ]
            refine wpAnyH_take (i := 13) (v := ?_) rfl (by kernel_rfl) (by kernel_rfl) (by kernel_rfl) (fun _ _ _ h => h) ?_ hHeld ?_
            rotate_left
            · refine Or.inl ⟨by rfl, ?_⟩; intro w hSw; obtain ⟨hh0, hh1, hh2, hh3, hh4, hh5, hh6, hh7⟩ := hSw; clear hh0 hh1; go_simp <;> with_reducible rfl
            try simp only [List.getElem_toArray, List.getElem_cons_succ, List.getElem_cons_zero, Act.put, List.setIfInBounds_toArray, List.set_cons_zero, List.set_cons_succ]
            refine wpAnyH_take (i := 14) (v := ?_) rfl (by kernel_rfl) (by kernel_rfl) (by kernel_rfl) (fun _ _ _ h => h) ?_ hHeld ?_
            rotate_left
            · refine Or.inl ⟨by rfl, ?_⟩; intro w hSw; obtain ⟨hh0, hh1, hh2, hh3, hh4, hh5, hh6, hh7⟩ := hSw; clear hh0 hh1; go_simp <;> with_reducible rfl
            try simp only [List.getElem_toArray, List.getElem_cons_succ, List.getElem_cons_zero, Act.put, List.setIfInBounds_toArray, List.set_cons_zero, List.set_cons_succ]
            refine wpAnyH_take (i := 15) (v := ?_) rfl (by kernel_rfl) (by kernel_rfl) (by kernel_rfl) (fun _ _ _ h => h) ?_ hHeld ?_
            rotate_left
            · refine Or.inl ⟨by rfl, ?_⟩; intro w hSw; obtain ⟨hh0, hh1, hh2, hh3, hh4, hh5, hh6, hh7⟩ := hSw; clear hh0 hh1; go_simp <;> with_reducible rfl
            try simp only [List.getElem_toArray, List.getElem_cons_succ, List.getElem_cons_zero, Act.put, List.setIfInBounds_toArray, List.set_cons_zero, List.set_cons_succ]
            refine wpAnyH_take (i := 16) (v := ?_) rfl (by kernel_rfl) (by kernel_rfl) (by kernel_rfl) (fun _ _ _ h => h) ?_ hHeld ?_
            rotate_left
            · refine Or.inl ⟨by rfl, ?_⟩; intro w hSw; obtain ⟨hh0, hh1, hh2, hh3, hh4, hh5, hh6, hh7⟩ := hSw; clear hh0 hh1; go_simp <;> with_reducible rfl
            try simp only [List.getElem_toArray, List.getElem_cons_succ, List.getElem_cons_zero, Act.put, List.setIfInBounds_toArray, List.set_cons_zero, List.set_cons_succ]
            refine wpAnyH_take (i := 17) (v := ?_) rfl (by kernel_rfl) (by kernel_rfl) (by kernel_rfl) (fun _ _ _ h => h) ?_ hHeld ?_
            rotate_left
            · refine Or.inl ⟨by rfl, ?_⟩; intro w hSw; obtain ⟨hh0, hh1, hh2, hh3, hh4, hh5, hh6, hh7⟩ := hSw; clear hh0 hh1; go_simp <;> with_reducible rfl
            try simp only [List.getElem_toArray, List.getElem_cons_succ, List.getElem_cons_zero, Act.put, List.setIfInBounds_toArray, List.set_cons_zero, List.set_cons_succ]
            refine wpAnyH_take (i := 18) (v := ?_) rfl (by kernel_rfl) (by kernel_rfl) (by kernel_rfl) (fun _ _ _ h => h) ?_ hHeld ?_
            rotate_left
            · refine Or.inl ⟨by rfl, ?_⟩; intro w hSw; obtain ⟨hh0, hh1, hh2, hh3, hh4, hh5, hh6, hh7⟩ := hSw; clear hh0 hh1; go_simp <;> with_reducible rfl
            try simp only [List.getElem_toArray, List.getElem_cons_succ, List.getElem_cons_zero, Act.put, List.setIfInBounds_toArray, List.set_cons_zero, List.set_cons_succ]
            refine wpAnyH_take (i := 19) (v := ?_) rfl (by kernel_rfl) (by kernel_rfl) (by kernel_rfl) (fun _ _ _ h => h) ?_ hHeld ?_
            rotate_left
            · refine Or.inl ⟨by rfl, ?_⟩; intro w hSw; obtain ⟨hh0, hh1, hh2, hh3, hh4, hh5, hh6, hh7⟩ := hSw; clear hh0 hh1; go_simp <;> with_reducible rfl
            try simp only [List.getElem_toArray, List.getElem_cons_succ, List.getElem_cons_zero, Act.put, List.setIfInBounds_toArray, List.set_cons_zero, List.set_cons_succ]
            refine wpAnyH_take (i := 20) (v := ?_) rfl (by kernel_rfl) (by kernel_rfl) (by kernel_rfl) (fun _ _ _ h => h) ?_ hHeld ?_
            rotate_left
            · refine Or.inl ⟨by rfl, ?_⟩; intro w hSw; obtain ⟨hh0, hh1, hh2, hh3, hh4, hh5, hh6, hh7⟩ := hSw; clear hh0 hh1; go_simp <;> with_reducible rfl
            try simp only [List.getElem_toArray, List.getElem_cons_succ, List.getElem_cons_zero, Act.put, List.setIfInBounds_toArray, List.set_cons_zero, List.set_cons_succ]
            refine wpAnyH_take (i := 21) (v := ?_) rfl (by kernel_rfl) (by kernel_rfl) (by kernel_rfl) (fun _ _ _ h => h) ?_ hHeld ?_
            rotate_left
            · refine Or.inl ⟨by rfl, ?_⟩; intro w hSw; obtain ⟨hh0, hh1, hh2, hh3, hh4, hh5, hh6, hh7⟩ := hSw; clear hh0 hh1; go_simp <;> with_reducible rfl
            try simp only [List.getElem_toArray, List.getElem_cons_succ, List.getElem_cons_zero, Act.put, List.setIfInBounds_toArray, List.set_cons_zero, List.set_cons_succ]
            refine wpAnyH_take (i := 22) (v := ?_) rfl (by kernel_rfl) (by kernel_rfl) (by kernel_rfl) (fun _ _ _ h => h) ?_ hHeld ?_
            rotate_left
            · refine Or.inl ⟨by rfl, ?_⟩; intro w hSw; obtain ⟨hh0, hh1, hh2, hh3, hh4, hh5, hh6, hh7⟩ := hSw; clear hh0 hh1; go_simp <;> with_reducible rfl
            try simp only [List.getElem_toArray, List.getElem_cons_succ, List.getElem_cons_zero, Act.put, List.setIfInBounds_toArray, List.set_cons_zero, List.set_cons_succ]
            refine wpAnyH_take (i := 23) (v := ?_) rfl (by kernel_rfl) (by kernel_rfl) (by kernel_rfl) (fun _ _ _ h => h) ?_ hHeld ?_
            rotate_left
            · refine Or.inl ⟨by rfl, ?_⟩; intro w hSw; obtain ⟨hh0, hh1, hh2, hh3, hh4, hh5, hh6, hh7⟩ := hSw; clear hh0 hh1; go_simp <;> with_reducible rfl
            try simp only [List.getElem_toArray, List.getElem_cons_succ, List.getElem_cons_zero, Act.put, List.setIfInBounds_toArray, List.set_cons_zero, List.set_cons_succ]
            refine wpAnyH_ready (rs := [24]) (by kernel_rfl) (by simp) ?_
            refine AllReadyH.cons rfl (fun K hK => ?_) AllReadyH.nil
            refine step_callx (by rfl) 19 _ _ (by rfl) (fun _ _ => by rfl) [.slice xja xjn xjc, .slice xea xen xec] (by rfl) (views_same _ _ lj2 w8 _ _ (HUX.out w8 HB8.out).2.1 (HUX.out w8 HB8.out).2.2 HL4.out) ?_
            rintro e w9 ⟨rfl, hb9⟩
            have HB9 : Hid (Below wo.heap.size wo w9) := trans2 HB8.out hb9
            clear hb9
            refine ⟨_, rfl, hK.out _ _ (HSS.out w9 HB9.out) (fun hHeld => ?_)⟩
            clear hK K
            try simp only [List.getElem_toArray, List.getElem_cons_succ, List.getElem_cons_zero, Act.put, List.setIfInBounds_toArray, List.set_cons_zero, List.set_cons_succ]
            refine wpAnyH_take (i := 25) (v := ?_) rfl (by kernel_rfl) (by kernel_rfl) (by kernel_rfl) (fun _ _ _ h => h) ?_ hHeld ?_
            rotate_left
            · refine Or.inl ⟨by rfl, ?_⟩; intro w hSw; obtain ⟨hh0, hh1, hh2, hh3, hh4, hh5, hh6, hh7⟩ := hSw; clear hh0 hh1; go_simp <;> with_reducible rfl
            try simp only [List.getElem_toArray, List.getElem_cons_succ, List.getElem_cons_zero, Act.put, List.setIfInBounds_toArray, List.set_cons_zero, List.set_cons_succ]
            refine wpAnyH_take (i := 26) (v := ?_) rfl (by kernel_rfl) (by kernel_rfl) (by kernel_rfl) (fun _ _ _ h => h) ?_ hHeld ?_
            rotate_left
            · refine Or.inl ⟨by rfl, ?_⟩; intro w hSw; obtain ⟨hh0, hh1, hh2, hh3, hh4, hh5, hh6, hh7⟩ := hSw; clear hh0 hh1; go_simp <;> with_reducible rfl
            try simp only [List.getElem_toArray, List.getElem_cons_succ, List.getElem_cons_zero, Act.put, List.setIfInBounds_toArray, List.set_cons_zero, List.set_cons_succ]
            refine wpAnyH_take (i := 27) (v := ?_) rfl (by kernel_rfl) (by kernel_rfl) (by kernel_rfl) (fun _ _ _ h => h) ?_ hHeld ?_
            rotate_left
            · refine Or.inl ⟨by rfl, ?_⟩; intro w hSw; obtain ⟨hh0, hh1, hh2, hh3, hh4, hh5, hh6, hh7⟩ := hSw; clear hh0 hh1; go_simp <;> with_reducible rfl
            try simp only [List.getElem_toArray, List.getElem_cons_succ, List.getElem_cons_zero, Act.put, List.setIfInBounds_toArray, List.set_cons_zero, List.set_cons_succ]
            refine wpAnyH_take (i := 28) (v := ?_) rfl (by kernel_rfl) (by kernel_rfl) (by kernel_rfl) (fun _ _ _ h => h) ?_ hHeld ?_
            rotate_left
            · refine Or.inl ⟨by rfl, ?_⟩; intro w hSw; obtain ⟨hh0, hh1, hh2, hh3, hh4, hh5, hh6, hh7⟩ := hSw; clear hh0 hh1; go_simp <;> with_reducible rfl
            try simp only [List.getElem_toArray, List.getElem_cons_succ, List.getElem_cons_zero, Act.put, List.setIfInBounds_toArray, List.set_cons_zero, List.set_cons_succ]
            refine wpAnyH_take (i := 29) (v := ?_) rfl (by kernel_rfl) (by kernel_rfl) (by kernel_rfl) (fun _ _ _ h => h) ?_ hHeld ?_
            rotate_left
            · refine Or.inl ⟨by rfl, ?_⟩; intro w hSw; obtain ⟨hh0, hh1, hh2, hh3, hh4, hh5, hh6, hh7⟩ := hSw; clear hh0 hh1; go_simp <;> with_reducible rfl
            try simp only [List.getElem_toArray, List.getElem_cons_succ, List.getElem_cons_zero, Act.put, List.setIfInBounds_toArray, List.set_cons_zero, List.set_cons_succ]
            refine wpAnyH_take (i := 30) (v := ?_) rfl (by kernel_rfl) (by kernel_rfl) (by kernel_rfl) (fun _ _ _ h => h) ?_ hHeld ?_
            rotate_left
            · refine Or.inl ⟨by rfl, ?_⟩; intro w hSw; obtain ⟨hh0, hh1, hh2, hh3, hh4, hh5, hh6, hh7⟩ := hSw; clear hh0 hh1; go_simp <;> with_reducible rfl
            try simp only [List.getElem_toArray, List.getElem_cons_succ, List.getElem_cons_zero, Act.put, List.setIfInBounds_toArray, List.set_cons_zero, List.set_cons_succ]
            refine wpAnyH_take (i := 31) (v := ?_) rfl (by kernel_rfl) (by kernel_rfl) (by kernel_rfl) (fun _ _ _ h => h) ?_ hHeld ?_
            rotate_left
            · refine Or.inl ⟨by rfl, ?_⟩; intro w hSw; obtain ⟨hh0, hh1, hh2, hh3, hh4, hh5, hh6, hh7⟩ := hSw; clear hh0 hh1; go_simp <;> with_reducible rfl
            try simp only [List.getElem_toArray, List.getElem_cons_succ, List.getElem_cons_zero, Act.put, List.setIfInBounds_toArray, List.set_cons_zero, List.set_cons_succ]
            refine wpAnyH_take (i := 32) (v := ?_) rfl (by kernel_rfl) (by kernel_rfl) (by kernel_rfl) (fun _ _ _ h => h) ?_ hHeld ?_
            rotate_left
            · refine Or.inl ⟨by rfl, ?_⟩; intro w hSw; obtain ⟨hh0, hh1, hh2, hh3, hh4, hh5, hh6, hh7⟩ := hSw; clear hh0 hh1; go_simp <;> with_reducible rfl
            try simp only [List.getElem_toArray, List.getElem_cons_succ, List.getElem_cons_zero, Act.put, List.setIfInBounds_toArray, List.set_cons_zero, List.set_cons_succ]
            refine wpAnyH_take (i := 33) (v := ?_) rfl (by kernel_rfl) (by kernel_rfl) (by kernel_rfl) (fun _ _ _ h => h) ?_ hHeld ?_
            rotate_left
            · refine Or.inl ⟨by rfl, ?_⟩; intro w hSw; obtain ⟨hh0, hh1, hh2, hh3, hh4, hh5, hh6, hh7⟩ := hSw; clear hh0 hh1; go_simp <;> with_reducible rfl
            try simp only [List.getElem_toArray, List.getElem_cons_succ, List.getElem_cons_zero, Act.put, List.setIfInBounds_toArray, List.set_cons_zero, List.set_cons_succ]
            refine wpAnyH_take (i := 34) (v := ?_) rfl (by kernel_rfl) (by kernel_rfl) (by kernel_rfl) (fun _ _ _ h => h) ?_ hHeld ?_
            rotate_left
            · refine Or.inl ⟨by rfl, ?_⟩; intro w hSw; obtain ⟨hh0, hh1, hh2, hh3, hh4, hh5, hh6, hh7⟩ := hSw; clear hh0 hh1; go_simp <;> with_reducible rfl
            try simp only [List.getElem_toArray, List.getElem_cons_succ, List.getElem_cons_zero, Act.put, List.setIfInBounds_toArray, List.set_cons_zero, List.set_cons_succ]
            refine wpAnyH_take (i := 35) (v := ?_) rfl (by kernel_rfl) (by kernel_rfl) (by kernel_rfl) (fun _ _ _ h => h) ?_ hHeld ?_
            rotate_left
            · refine Or.inl ⟨by rfl, ?_⟩; intro w hSw; obtain ⟨hh0, hh1, hh2, hh3, hh4, hh5, hh6, hh7⟩ := hSw; clear hh0 hh1; go_simp <;> with_reducible rfl
            try simp only [List.getElem_toArray, List.getElem_cons_succ, List.getElem_cons_zero, Act.put, List.setIfInBounds_toArray, List.set_cons_zero, List.set_cons_succ]
            refine wpAnyH_take (i := 36) (v := ?_) rfl (by kernel_rfl) (by kernel_rfl) (by kernel_rfl) (fun _ _ _ h => h) ?_ hHeld ?_
            rotate_left
            · refine Or.inl ⟨by rfl, ?_⟩; intro w hSw; obtain ⟨hh0, hh1, hh2, hh3, hh4, hh5, hh6, hh7⟩ := hSw; clear hh0 hh1; go_simp <;> with_reducible rfl
            try simp only [List.getElem_toArray, List.getElem_cons_succ, List.getElem_cons_zero, Act.put, List.setIfInBounds_toArray, List.set_cons_zero, List.set_cons_succ]
            refine wpAnyH_take (i := 37) (v := ?_) rfl (by kernel_rfl) (by kernel_rfl) (by kernel_rfl) (fun _ _ _ h => h) ?_ hHeld ?_
            rotate_left
            · refine Or.inl ⟨by rfl, ?_⟩; intro w hSw; obtain ⟨hh0, hh1, hh2, hh3, hh4, hh5, hh6, hh7⟩ := hSw; clear hh0 hh1; go_simp <;> with_reducible rfl
            try simp only [List.getElem_toArray, List.getElem_cons_succ, List.getElem_cons_zero, Act.put, List.setIfInBounds_toArray, List.set_cons_zero, List.set_cons_succ]
            refine wpAnyH_take (i := 38) (v := ?_) rfl (by kernel_rfl) (by kernel_rfl) (by kernel_rfl) (fun _ _ _ h => h) ?_ hHeld ?_
            rotate_left
            · refine Or.inl ⟨by rfl, ?_⟩; intro w hSw; obtain ⟨hh0, hh1, hh2, hh3, hh4, hh5, hh6, hh7⟩ := hSw; clear hh0 hh1; go_simp <;> with_reducible rfl
            try simp only [List.getElem_toArray, List.getElem_cons_succ, List.getElem_cons_zero, Act.put, List.setIfInBounds_toArray, List.set_cons_zero, List.set_cons_succ]
            refine wpAnyH_take (i := 39) (v := ?_) rfl (by kernel_rfl) (by kernel_rfl) (by kernel_rfl) (fun _ _ _ h => h) ?_ hHeld ?_
            rotate_left
            · refine Or.inl ⟨by rfl, ?_⟩; intro w hSw; obtain ⟨hh0, hh1, hh2, hh3, hh4, hh5, hh6, hh7⟩ := hSw; clear hh0 hh1; go_simp <;> with_reducible rfl
            try simp only [List.getElem_toArray, List.getElem_cons_succ, List.getElem_cons_zero, Act.put, List.setIfInBounds_toArray, List.set_cons_zero, List.set_cons_succ]
            refine wpAnyH_take (i := 40) (v := ?_) rfl (by kernel_rfl) (by kernel_rfl) (by kernel_rfl) (fun _ _ _ h => h) ?_ hHeld ?_
            rotate_left
            · refine Or.inl ⟨by rfl, ?_⟩; intro w hSw; obtain ⟨hh0, hh1, hh2, hh3, hh4, hh5, hh6, hh7⟩ := hSw; clear hh0 hh1; go_simp <;> with_reducible rfl
            try simp only [List.getElem_toArray, List.getElem_cons_succ, List.getElem_cons_zero, Act.put, List.setIfInBounds_toArray, List.set_cons_zero, List.set_cons_succ]
            refine wpAnyH_take (i := 41) (v := ?_) rfl (by kernel_rfl) (by kernel_rfl) (by kernel_rfl) (fun _ _ _ h => h) ?_ hHeld ?_
            rotate_left
            · refine Or.inl ⟨by rfl, ?_⟩; intro w hSw; obtain ⟨hh0, hh1, hh2, hh3, hh4, hh5, hh6, hh7⟩ := hSw; clear hh0 hh1; go_simp <;> with_reducible rfl
            try simp only [List.getElem_toArray, List.getElem_cons_succ, List.getElem_cons_zero, Act.put, List.setIfInBounds_toArray, List.set_cons_zero, List.set_cons_succ]
            refine wpAnyH_take (i := 42) (v := ?_) rfl (by kernel_rfl) (by kernel_rfl) (by kernel_rfl) (fun _ _ _ h => h) ?_ hHeld ?_
            rotate_left
            · refine Or.inl ⟨by rfl, ?_⟩; intro w hSw; obtain ⟨hh0, hh1, hh2, hh3, hh4, hh5, hh6, hh7⟩ := hSw; clear hh0 hh1; go_simp <;> with_reducible rfl
            try simp only [List.getElem_toArray, List.getElem_cons_succ, List.getElem_cons_zero, Act.put, List.setIfInBounds_toArray, List.set_cons_zero, List.set_cons_succ]
            refine wpAnyH_take (i := 43) (v := ?_) rfl (by kernel_rfl) (by kernel_rfl) (by kernel_rfl) (fun _ _ _ h => h) ?_ hHeld ?_
            rotate_left
            · refine Or.inl ⟨by rfl, ?_⟩; intro w hSw; obtain ⟨hh0, hh1, hh2, hh3, hh4, hh5, hh6, hh7⟩ := hSw; clear hh0 hh1; go_simp <;> with_reducible rfl
            try simp only [List.getElem_toArray, List.getElem_cons_succ, List.getElem_cons_zero, Act.put, List.setIfInBounds_toArray, List.set_cons_zero, List.set_cons_succ]
            refine wpAnyH_take (i := 44) (v := ?_) rfl (by kernel_rfl) (by kernel_rfl) (by kernel_rfl) (fun _ _ _ h => h) ?_ hHeld ?_
            rotate_left
            · refine Or.inl ⟨by rfl, ?_⟩; intro w hSw; obtain ⟨hh0, hh1, hh2, hh3, hh4, hh5, hh6, hh7⟩ := hSw; clear hh0 hh1; go_simp <;> with_reducible rfl
            try simp only [List.getElem_toArray, List.getElem_cons_succ, List.getElem_cons_zero, Act.put, List.setIfInBounds_toArray, List.set_cons_zero, List.set_cons_succ]
            refine wpAnyH_take (i := 45) (v := ?_) rfl (by kernel_rfl) (by kernel_rfl) (by kernel_rfl) (fun _ _ _ h => h) ?_ hHeld ?_
            rotate_left
            · refine Or.inl ⟨by rfl, ?_⟩; intro w hSw; obtain ⟨hh0, hh1, hh2, hh3, hh4, hh5, hh6, hh7⟩ := hSw; clear hh0 hh1; go_simp <;> with_reducible rfl
            try simp only [List.getElem_toArray, List.getElem_cons_succ, List.getElem_cons_zero, Act.put, List.setIfInBounds_toArray, List.set_cons_zero, List.set_cons_succ]
            refine wpAnyH_take (i := 46) (v := ?_) rfl (by kernel_rfl) (by kernel_rfl) (by kernel_rfl) (fun _ _ _ h => h) ?_ hHeld ?_
            rotate_left
            · refine Or.inl ⟨by rfl, ?_⟩; intro w hSw; obtain ⟨hh0, hh1, hh2, hh3, hh4, hh5, hh6, hh7⟩ := hSw; clear hh0 hh1; go_simp <;> with_reducible rfl
            try simp only [List.getElem_toArray, List.getElem_cons_succ, List.getElem_cons_zero, Act.put, List.setIfInBounds_toArray, List.set_cons_zero, List.set_cons_succ]
            refine wpAnyH_take (i := 47) rfl (by kernel_rfl) (by kernel_rfl) (by kernel_rfl) (fun _ _ _ h => h) (yieldsIf_load_mid (by rfl) 47 _ rfl mg 0 (by rfl) (tellCs t) _ (fun w hSw => hSw.1) Try.underlying47 rfl Try.infoNote) hHeld ?_
            try simp only [List.getElem_toArray, List.getElem_cons_succ, List.getElem_cons_zero, Act.put, List.setIfInBounds_toArray, List.set_cons_zero, List.set_cons_succ]
            refine wpAnyH_take (i := 48) (v := ?_) rfl (by kernel_rfl) (by kernel_rfl) (by kernel_rfl) (fun _ _ _ h => h) ?_ hHeld ?_
            rotate_left
            · refine Or.inl ⟨by rfl, ?_⟩; intro w hSw; obtain ⟨hh0, hh1, hh2, hh3, hh4, hh5, hh6, hh7⟩ := hSw; clear hh0 hh1; go_simp <;> with_reducible rfl
            try simp only [List.getElem_toArray, List.getElem_cons_succ, List.getElem_cons_zero, Act.put, List.setIfInBounds_toArray, List.set_cons_zero, List.set_cons_succ]
            refine wpAnyH_take (i := 49) (v := ?_) rfl (by kernel_rfl) (by kernel_rfl) (by kernel_rfl) (fun _ _ _ h => h) ?_ hHeld ?_
            rotate_left
            · refine Or.inl ⟨by rfl, ?_⟩; intro w hSw; obtain ⟨hh0, hh1, hh2, hh3, hh4, hh5, hh6, hh7⟩ := hSw; clear hh0 hh1; go_simp <;> with_reducible rfl
            try simp only [List.getElem_toArray, List.getElem_cons_succ, List.getElem_cons_zero, Act.put, List.setIfInBounds_toArray, List.set_cons_zero, List.set_cons_succ]
            refine wpAnyH_take (i := 50) (v := ?_) rfl (by kernel_rfl) (by kernel_rfl) (by kernel_rfl) (fun _ _ _ h => h) ?_ hHeld ?_
            rotate_left
            · refine Or.inl ⟨by rfl, ?_⟩; intro w hSw; obtain ⟨hh0, hh1, hh2, hh3, hh4, hh5, hh6, hh7⟩ := hSw; clear hh0 hh1; go_simp <;> with_reducible rfl
            try simp only [List.getElem_toArray, List.getElem_cons_succ, List.getElem_cons_zero, Act.put, List.setIfInBounds_toArray, List.set_cons_zero, List.set_cons_succ]
            refine wpAnyH_take (i := 51) rfl (by kernel_rfl) (by kernel_rfl) (by kernel_rfl) (fun _ _ _ h => h) (yieldsIf_load_mid (by rfl) 28 _ rfl gp (j * 3) (by rfl) (vwCs t) _ (fun w hSw => hSw.2.1) Try.underlying28 rfl Try.infoVw3) hHeld ?_
            try simp only [List.getElem_toArray, List.getElem_cons_succ, List.getElem_cons_zero, Act.put, List.setIfInBounds_toArray, List.set_cons_zero, List.set_cons_succ]
            refine wpAnyH_ready (rs := [52]) (by kernel_rfl) (by simp) ?_
            refine AllReadyH.cons rfl (fun K hK => ?_) AllReadyH.nil
            refine step_callx (by rfl) 18 _ _ (by rfl) (fun _ _ => by rfl) [.agg (tellCs t).toArray, .int .i64 22, vwV t] (by rfl) (bare_tell t w9) ?_
            rintro e wa ⟨rfl, hba⟩
            have HBa : Hid (Below wo.heap.size wo wa) := trans2 HB9.out hba
            clear hba
            refine ⟨_, rfl, hK.out _ _ (HSS.out wa HBa.out) (fun hHeld => ?_)⟩
            clear hK K
            try simp only [List.getElem_toArray, List.getElem_cons_succ, List.getElem_cons_zero, Act.put, List.setIfInBounds_toArray, List.set_cons_zero, List.set_cons_succ]
            refine wpAnyH_take (i := 53) (v := ?_) rfl (by kernel_rfl) (by kernel_rfl) (by kernel_rfl) (fun _ _ _ h => h) ?_ hHeld ?_
            rotate_left
            · refine Or.inl ⟨by rfl, ?_⟩; intro w hSw; obtain ⟨hh0, hh1, hh2, hh3, hh4, hh5, hh6, hh7⟩ := hSw; clear hh0 hh1; go_simp <;> with_reducible rfl
            try simp only [List.getElem_toArray, List.getElem_cons_succ, List.getElem_cons_zero, Act.put, List.setIfInBounds_toArray, List.set_cons_zero, List.set_cons_succ]
            refine wpAnyH_take (i := 54) (v := ?_) rfl (by kernel_rfl) (by kernel_rfl) (by kernel_rfl) (fun _ _ _ h => h) ?_ hHeld ?_
            rotate_left
            · refine Or.inl ⟨by rfl, ?_⟩; intro w hSw; obtain ⟨hh0, hh1, hh2, hh3, hh4, hh5, hh6, hh7⟩ := hSw; clear hh0 hh1; go_simp <;> with_reducible rfl
            try simp only [List.getElem_toArray, List.getElem_cons_succ, List.getElem_cons_zero, Act.put, List.setIfInBounds_toArray, List.set_cons_zero, List.set_cons_succ]
            refine wpAnyH_done (by kernel_rfl) ?_ _
            go_wp2_with fail
            go_roundw
            case rel => exact ⟨j + 1, by go_num, by omega, HBa⟩
            case measure => simp [intOf]; omega
          · obtain rfl : j = N := by omega
            have hge : ¬ (j : Int) < (j : Int) := by omega
            obtain ⟨N1, rfl⟩ : ∃ N1, j = N1 + 1 := ⟨j - 1, by have := HNN.out.2.1; omega⟩
            obtain ⟨xl, hxl⟩ : ∃ u, xs[N1]? = some u := ⟨xs[N1]'(by have := HRN.out.len.2.2.1; omega), List.getElem?_eq_getElem _⟩
            have hvl : Vs[N1]? = some V.l := by
              have h9 := HVL2.out
              rw [List.getLast?_eq_getElem?, HNN.out.1] at h9
              exact h9
            have HXW : Hid (∀ w', Cp w' (.slice (some ⟨gx, 0, none⟩) (N1 + 1) cx) (.slice (some ⟨gp, 0, none⟩) (N1 + 1) cp) xs (VL Vs) (PL Vs) → w'.cell? ⟨gx, N1, none⟩ = some xl ∧ VwsAt w' (fun _ => True) xl V.l) := fun w' hcp => by
              refine ⟨?_, hcp.cf.vws hxl hvl⟩
              have h9 := hcp.cv
              rw [HRN.out.len.2.2.1] at h9
              exact cell_n h9 hxl
            obtain ⟨xla, xln, xlc, rfl⟩ : ∃ a n c, xl = .slice a n c := by obtain ⟨a, c, e, _⟩ := RowAt.form (HXW.out wo HA.out.cp).2; exact ⟨_, _, _, e⟩
            have HAr : Hid _ := HA.out.called (K' := Kq) (Chg.of_below HB.out _) (fun _ h => .inl h)
            have HNr : Hid (Nw AtV w wr Kq V p) := HNW.out.on serves HB.out
            have HLN : Hid (us.length ≤ 1000 ∧ ms.length ≤ 1000) := by have h1 := HRN.out.len; have h2 := HNN.out.2.2; constructor <;> omega
            have HLV1 : Hid (∀ l ∈ VL Vs, l.length ≤ 1000) := fun l hl => by
              obtain ⟨x, hx, rfl⟩ := List.mem_map.1 hl
              rw [List.length_map]
              exact Nat.le_trans (HV4.out x hx) (by decide)
            have HLV2 : Hid (∀ l ∈ NL Vs, l.length ≤ 1000) := fun l hl => by
              obtain ⟨x, hx, rfl⟩ := List.mem_map.1 hl
              show 1 ≤ 1000
              omega
            have hN0 : ((N1 + 1 : Nat) : Int) = (N1 : Int) + 1 := by omega
            have hNs : (N1 : Int) + 1 - 1 = (N1 : Int) := by omega
            have hNw : IntKind.i64.wrap (N1 : Int) = (N1 : Int) := by have h4 := HNN.out.2.2; rw [IntKind.wrap_i64]; omega
            have hNl : (N1 : Int) < (N1 : Int) + 1 := by omega
            have HN4 : Hid (N1 + 1 ≤ 400) := HNN.out.2.2
            have hN9 : N1 ≤ 399 := by have := HN4.out; omega
            clear hltj hj hxl hvl HNN
            go_wp2_with fail
            refine Calls.mono (apart_any B _ _ us ms (VL Vs) (NL Vs) wr HAr.out.bo HLN.out.1 HLN.out.2 HLV1.out HLV2.out) ?_
            rintro e w5 ⟨rfl, gv5, gn5, gs, gm, ls', ns', L1, L2, hgd, hc5, hn1, hn2⟩
            have hbk : ∀ b, (b = B ∨ FamB us b ∨ FamB ms b) → BkB B (.slice (some ⟨gv, 0, none⟩) (N1 + 1) cv) (.slice (some ⟨gn, 0, none⟩) (N1 + 1) cn) us ms b := by
              rintro b (h | h | h)
              · exact .inl h
              · exact .inr (.inr (.inr (.inl h)))
              · exact .inr (.inr (.inr (.inr h)))
            have HN5 : Hid (Nw AtV w w5 Kq V p) := HNr.out.chg hc5 (fun j h => HAr.out.bk j (hbk j h)) (fun j h => HAr.out.nb j (hbk j h))
            have HC5 : Hid _ := HAr.out.cp.keep (Kp.of_chg hc5 (fun b _ hb e => HAr.out.bc b (hbk b e) hb))
            have HG5 : Hid _ := hgd
            have HGK : Hid (∀ b, GdB B (.slice (some ⟨gv, 0, none⟩) (N1 + 1) cv) (.slice (some ⟨gn, 0, none⟩) (N1 + 1) cn) gv5 gn5 us ms gs gm b → ¬ Kq b) := fun b hb hk => by
              have hlt := serves.lt HNr.out.at' b hk
              rcases hb with h | h | h | h | h | h | h
              · exact HAr.out.bk b (.inl h) hk
              · exact HAr.out.bk b (.inr (.inl h)) hk
              · exact HAr.out.bk b (.inr (.inr (.inl h))) hk
              · exact HAr.out.bk b (.inr (.inr (.inr (.inl h)))) hk
              · exact HAr.out.bk b (.inr (.inr (.inr (.inr h)))) hk
              · rcases hn1 b h with h | h
                · exact HAr.out.bk b (.inr (.inr (.inr (.inl h)))) hk
                · omega
              · rcases hn2 b h with h | h
                · exact HAr.out.bk b (.inr (.inr (.inr (.inr h)))) hk
                · omega
            have HCK : Hid (∀ b, CpB (.slice (some ⟨gx, 0, none⟩) (N1 + 1) cx) (.slice (some ⟨gp, 0, none⟩) (N1 + 1) cp) xs b → ¬ Kq b) := HAr.out.ck
            clear hgd hc5 hn1 hn2 hbk
            go_wp2_with fail
            refine Calls.mono (all_new w5 Kq V p HN5.out.at' HV0.out) ?_
            rintro e w6 ⟨u, rfl, hr6, hnew6, hat6, hc6⟩
            have HN6 : Hid (Nw AtV w w6 Kq V p) := HN5.out.asked hat6 hc6
            have HC6 : Hid _ := HC5.out.keep (Kp.of_chg hc6 (fun b _ hb e => HCK.out b hb e))
            have HG6 : Hid _ := HG5.out.keep (Kp.of_chg hc6 (fun b _ hb e => HGK.out b hb e))
            have HU6 : Hid (w6.ownsRow 0 28 3 u (V.l.map elV).length (fl (V.l.map elV)) ∧ ∀ j, u.ownBlock = some j → w5.heap.size ≤ j ∧ ¬ Kq j) := ⟨hr6, hnew6⟩
            obtain ⟨ua, un, uc, rfl⟩ : ∃ a n c, u = .slice a n c := by
              rcases hr6.2 with ⟨rfl, _⟩ | ⟨g, cap, cur, rfl, _⟩
              · exact ⟨_, _, _, rfl⟩
              · exact ⟨_, _, _, rfl⟩
            clear hr6 hnew6 hat6 hc6
            have HNO : Hid (NoAt [.int .i64 21, .int .i64 0, .int .i64 0, .int .i64 0, .int .i64 0, .int .i64 0, .int .i64 0, .int .i64 0, .int .i64 0, .int .i64 0, .int .i64 0, .slice none 0 0, .slice none 0 0, .int .i64 0, .int .i64 0, .int .i64 0, .slice none 0 0, .slice none 0 0, .slice none 0 0, .slice none 0 0, .string ⟨#[]⟩] 21 0) := ⟨rfl, rfl, rfl, by simp [Value.oneCell']⟩
            go_wp2_with fail
            refine Calls.mono (ask_new w6 Kq V p 1 0 _ HN6.out.at' HV0.out HNO.out) ?_
            rintro e w7 ⟨mm, rfl, hr7, hnew7, hat7, hc7⟩
            have HN7 : Hid (Nw AtV w w7 Kq V p) := HN6.out.asked hat7 hc7
            have HC7 : Hid _ := HC6.out.keep (Kp.of_chg hc7 (fun b _ hb e => HCK.out b hb e))
            have HG7 : Hid _ := HG6.out.keep (Kp.of_chg hc7 (fun b _ hb e => HGK.out b hb e))
            have HU7 : Hid (w7.ownsRow 0 28 3 (.slice ua un uc) (V.l.map elV).length (fl (V.l.map elV))) := owns_same HU6.out.1 (fun b hb => hc7.block b (row_block HU6.out.1 b hb).2 (HU6.out.2 b hb).2)
            have HM7 : Hid (w7.ownsRow 0 47 21 mm [elN (lastV V.l)].length (fl [elN (lastV V.l)]) ∧ ∀ j, mm.ownBlock = some j → w6.heap.size ≤ j ∧ ¬ Kq j) := ⟨hr7, hnew7⟩
            obtain ⟨mg, mc, rfl, _⟩ := hr7.form (by simp)
            obtain ⟨t, ht⟩ : ∃ t, lastV V.l = t := ⟨_, rfl⟩
            have HT : Hid (lastV V.l = t) := ht
            clear hr7 hnew7 hat7 hc7 ht
            have HL4 : Hid (V.l.length ≤ 401) := (serves.ok HN7.out.at').len
            have HUV : Hid (VwsAt w7 (fun _ => True) (.slice ua un uc) V.l) := by
              have h9 := HU7.out
              rw [fl_elV, List.length_map] at h9
              exact vws_row h9 (fun _ _ => trivial)
            have HS7 : Hid (w7.rangeAt mg 0 (tellCs t) ∧ w7.cell? ⟨gx, N1, none⟩ = some (.slice xla xln xlc)) := by
              refine ⟨fun i v hv => ?_, (HXW.out w7 HC7.out).1⟩
              rw [Nat.zero_add]
              refine cell_n HM7.out.1 ?_
              rw [← HT.out] at hv
              simpa [fl, elN] using hv
            go_wp2_with fail
            obtain ⟨w8, hw8⟩ : ∃ w8, w7.drew = w8 := ⟨_, rfl⟩
            have HB8 : Hid (Below w7.heap.size w7 w8) := by rw [← hw8]; exact below_drew (Below.refl _ _)
            have HS8 : Hid (∀ w', Chg w7 w' Kq → w'.rangeAt mg 0 (tellCs t) ∧ w'.cell? ⟨gx, N1, none⟩ = some (.slice xla xln xlc)) := fun w' hc => by
              refine ⟨range_keep HS7.out.1 hc (row_block HM7.out.1 mg rfl).2 (HM7.out.2 mg rfl).2, ?_⟩
              exact (HXW.out w' (HC7.out.keep (Kp.of_chg hc (fun b _ hb e => HCK.out b hb e)))).1
            refine wp_region_held_drew (S := (fun w' => w'.rangeAt mg 0 (tellCs t) ∧ w'.cell? ⟨gx, N1, none⟩ = some (.slice xla xln xlc))) (by kernel_rfl) (by rw [hw8]; exact HS8.out w8 (Chg.of_below HB8.out _)) (fun hHeld => ?_)
            rw [hw8] at hHeld ⊢
            clear hw8
            refine wpAnyH_take (i := 0) (v := ?_) rfl (by kernel_rfl) (by kernel_rfl) (by kernel_rfl) (fun _ _ _ h => h) ?_ hHeld ?_
            rotate_left
            · refine Or.inl ⟨by rfl, ?_⟩; intro w hSw; obtain ⟨hh0, hh1⟩ := hSw; clear hh0; go_simp <;> with_reducible rfl
            try simp only [List.getElem_toArray, List.getElem_cons_succ, List.getElem_cons_zero, Act.put, List.setIfInBounds_toArray, List.set_cons_zero, List.set_cons_succ]
            refine wpAnyH_take (i := 1) (v := ?_) rfl (by kernel_rfl) (by kernel_rfl) (by kernel_rfl) (fun _ _ _ h => h) ?_ hHeld ?_
            rotate_left
            · refine Or.inl ⟨by rfl, ?_⟩; intro w hSw; obtain ⟨hh0, hh1⟩ := hSw; clear hh0; go_simp <;> with_reducible rfl
            try simp only [List.getElem_toArray, List.getElem_cons_succ, List.getElem_cons_zero, Act.put, List.setIfInBounds_toArray, List.set_cons_zero, List.set_cons_succ]
            refine wpAnyH_take (i := 2) (v := ?_) rfl (by kernel_rfl) (by kernel_rfl) (by kernel_rfl) (fun _ _ _ h => h) ?_ hHeld ?_
            rotate_left
            · refine Or.inl ⟨by rfl, ?_⟩; intro w hSw; obtain ⟨hh0, hh1⟩ := hSw; clear hh0; go_simp <;> with_reducible rfl
            try simp only [List.getElem_toArray, List.getElem_cons_succ, List.getElem_cons_zero, Act.put, List.setIfInBounds_toArray, List.set_cons_zero, List.set_cons_succ]
            refine wpAnyH_take (i := 3) (v := ?_) rfl (by kernel_rfl) (by kernel_rfl) (by kernel_rfl) (fun _ _ _ h => h) ?_ hHeld ?_
            rotate_left
            · refine Or.inl ⟨by rfl, ?_⟩; intro w hSw; obtain ⟨hh0, hh1⟩ := hSw; clear hh0; go_simp <;> with_reducible rfl
            try simp only [List.getElem_toArray, List.getElem_cons_succ, List.getElem_cons_zero, Act.put, List.setIfInBounds_toArray, List.set_cons_zero, List.set_cons_succ]
            refine wpAnyH_take (i := 4) (v := ?_) rfl (by kernel_rfl) (by kernel_rfl) (by kernel_rfl) (fun _ _ _ h => h) ?_ hHeld ?_
            rotate_left
            · refine Or.inl ⟨by rfl, ?_⟩; intro w hSw; obtain ⟨hh0, hh1⟩ := hSw; clear hh0; go_simp <;> with_reducible rfl
            try simp only [List.getElem_toArray, List.getElem_cons_succ, List.getElem_cons_zero, Act.put, List.setIfInBounds_toArray, List.set_cons_zero, List.set_cons_succ]
            refine wpAnyH_take (i := 5) (v := ?_) rfl (by kernel_rfl) (by kernel_rfl) (by kernel_rfl) (fun _ _ _ h => h) ?_ hHeld ?_
            rotate_left
            · refine Or.inl ⟨by rfl, ?_⟩; intro w hSw; obtain ⟨hh0, hh1⟩ := hSw; clear hh0; go_simp <;> with_reducible rfl
            try simp only [List.getElem_toArray, List.getElem_cons_succ, List.getElem_cons_zero, Act.put, List.setIfInBounds_toArray, List.set_cons_zero, List.set_cons_succ]
            refine wpAnyH_take (i := 6) (v := ?_) rfl (by kernel_rfl) (by kernel_rfl) (by kernel_rfl) (fun _ _ _ h => h) ?_ hHeld ?_
            rotate_left
            · refine Or.inl ⟨by rfl, ?_⟩; intro w hSw; obtain ⟨hh0, hh1⟩ := hSw; clear hh0; go_simp <;> with_reducible rfl
            try simp only [List.getElem_toArray, List.getElem_cons_succ, List.getElem_cons_zero, Act.put, List.setIfInBounds_toArray, List.set_cons_zero, List.set_cons_succ]
            refine wpAnyH_ready (rs := [7]) (by kernel_rfl) (by simp) ?_
            refine AllReadyH.cons rfl (fun K hK => ?_) AllReadyH.nil
            refine step_callx (by rfl) 19 _ _ (by rfl) (fun _ _ => by rfl) [.slice ua un uc, .slice xla xln xlc] (by rfl) (views_same _ _ V.l w8 _ _ (VwsAt.keep HUV.out (Kp.of_below HB8.out _)) (VwsAt.keep (HXW.out w7 HC7.out).2 (Kp.of_below HB8.out _)) HL4.out) ?_
            rintro e w9 ⟨rfl, hb9⟩
            have HB9 : Hid (Below w7.heap.size w7 w9) := trans2 HB8.out hb9
            clear hb9
            refine ⟨_, rfl, hK.out _ _ (HS8.out w9 (Chg.of_below HB9.out _)) (fun hHeld => ?_)⟩
            clear hK K
            try simp only [List.getElem_toArray, List.getElem_cons_succ, List.getElem_cons_zero, Act.put, List.setIfInBounds_toArray, List.set_cons_zero, List.set_cons_succ]
            refine wpAnyH_take (i := 8) (v := ?_) rfl (by kernel_rfl) (by kernel_rfl) (by kernel_rfl) (fun _ _ _ h => h) ?_ hHeld ?_
            rotate_left
            · refine Or.inl ⟨by rfl, ?_⟩; intro w hSw; obtain ⟨hh0, hh1⟩ := hSw; clear hh0; go_simp <;> with_reducible rfl
            try simp only [List.getElem_toArray, List.getElem_cons_succ, List.getElem_cons_zero, Act.put, List.setIfInBounds_toArray, List.set_cons_zero, List.set_cons_succ]
            refine wpAnyH_take (i := 9) (v := ?_) rfl (by kernel_rfl) (by kernel_rfl) (by kernel_rfl) (fun _ _ _ h => h) ?_ hHeld ?_
            rotate_left
            · refine Or.inl ⟨by rfl, ?_⟩; intro w hSw; obtain ⟨hh0, hh1⟩ := hSw; clear hh0; go_simp <;> with_reducible rfl
            try simp only [List.getElem_toArray, List.getElem_cons_succ, List.getElem_cons_zero, Act.put, List.setIfInBounds_toArray, List.set_cons_zero, List.set_cons_succ]
            refine wpAnyH_take (i := 10) (v := ?_) rfl (by kernel_rfl) (by kernel_rfl) (by kernel_rfl) (fun _ _ _ h => h) ?_ hHeld ?_
            rotate_left
            · refine Or.inl ⟨by rfl, ?_⟩; intro w hSw; obtain ⟨hh0, hh1⟩ := hSw; clear hh0; go_simp <;> with_reducible rfl
            try simp only [List.getElem_toArray, List.getElem_cons_succ, List.getElem_cons_zero, Act.put, List.setIfInBounds_toArray, List.set_cons_zero, List.set_cons_succ]
            refine wpAnyH_take (i := 11) (v := ?_) rfl (by kernel_rfl) (by kernel_rfl) (by kernel_rfl) (fun _ _ _ h => h) ?_ hHeld ?_
            rotate_left
            · refine Or.inl ⟨by rfl, ?_⟩; intro w hSw; obtain ⟨hh0, hh1⟩ := hSw; clear hh0; go_simp <;> with_reducible rfl
            try simp only [List.getElem_toArray, List.getElem_cons_succ, List.getElem_cons_zero, Act.put, List.setIfInBounds_toArray, List.set_cons_zero, List.set_cons_succ]
            refine wpAnyH_take (i := 12) (v := ?_) rfl (by kernel_rfl) (by kernel_rfl) (by kernel_rfl) (fun _ _ _ h => h) ?_ hHeld ?_
            rotate_left
            · refine Or.inl ⟨by rfl, ?_⟩; intro w hSw; obtain ⟨hh0, hh1⟩ := hSw; clear hh0; go_simp <;> with_reducible rfl
            try simp only [List.getElem_toArray, List.getElem_cons_succ, List.getElem_cons_zero, Act.put, List.setIfInBounds_toArray, List.set_cons_zero, List.set_cons_succ]
            refine wpAnyH_take (i := 13) (v := ?_) rfl (by kernel_rfl) (by kernel_rfl) (by kernel_rfl) (fun _ _ _ h => h) ?_ hHeld ?_
            rotate_left
            · refine Or.inl ⟨by rfl, ?_⟩; intro w hSw; obtain ⟨hh0, hh1⟩ := hSw; clear hh0; go_simp <;> with_reducible rfl
            try simp only [List.getElem_toArray, List.getElem_cons_succ, List.getElem_cons_zero, Act.put, List.setIfInBounds_toArray, List.set_cons_zero, List.set_cons_succ]
            refine wpAnyH_take (i := 14) (v := ?_) rfl (by kernel_rfl) (by kernel_rfl) (by kernel_rfl) (fun _ _ _ h => h) ?_ hHeld ?_
            rotate_left
            · refine Or.inl ⟨by rfl, ?_⟩; intro w hSw; obtain ⟨hh0, hh1⟩ := hSw; clear hh0; go_simp <;> with_reducible rfl
            try simp only [List.getElem_toArray, List.getElem_cons_succ, List.getElem_cons_zero, Act.put, List.setIfInBounds_toArray, List.set_cons_zero, List.set_cons_succ]
            refine wpAnyH_take (i := 15) (v := ?_) rfl (by kernel_rfl) (by kernel_rfl) (by kernel_rfl) (fun _ _ _ h => h) ?_ hHeld ?_
            rotate_left
            · refine Or.inl ⟨by rfl, ?_⟩; intro w hSw; obtain ⟨hh0, hh1⟩ := hSw; clear hh0; go_simp <;> with_reducible rfl
            try simp only [List.getElem_toArray, List.getElem_cons_succ, List.getElem_cons_zero, Act.put, List.setIfInBounds_toArray, List.set_cons_zero, List.set_cons_succ]
            refine wpAnyH_take (i := 16) rfl (by kernel_rfl) (by kernel_rfl) (by kernel_rfl) (fun _ _ _ h => h) (yieldsIf_load_mid (by rfl) 47 _ rfl mg 0 (by rfl) (tellCs t) _ (fun w hSw => hSw.1) Try.underlying47 rfl Try.infoNote) hHeld ?_
            try simp only [List.getElem_toArray, List.getElem_cons_succ, List.getElem_cons_zero, Act.put, List.setIfInBounds_toArray, List.set_cons_zero, List.set_cons_succ]
            refine wpAnyH_take (i := 17) (v := ?_) rfl (by kernel_rfl) (by kernel_rfl) (by kernel_rfl) (fun _ _ _ h => h) ?_ hHeld ?_
            rotate_left
            · refine Or.inl ⟨by rfl, ?_⟩; intro w hSw; obtain ⟨hh0, hh1⟩ := hSw; clear hh0; go_simp <;> with_reducible rfl
            try simp only [List.getElem_toArray, List.getElem_cons_succ, List.getElem_cons_zero, Act.put, List.setIfInBounds_toArray, List.set_cons_zero, List.set_cons_succ]
            refine wpAnyH_ready (rs := [18]) (by kernel_rfl) (by simp) ?_
            refine AllReadyH.cons rfl (fun K hK => ?_) AllReadyH.nil
            refine step_callx (by rfl) 11 _ _ (by rfl) (fun _ _ => by rfl) [p] (by rfl) (serves.now w9 Kq V p (serves.keep HN7.out.at' (Kp.of_below HB9.out _))) ?_
            rintro e wa ⟨rfl, Ka, hata, hca, hka⟩
            have HCa : Hid (Chg w7 wa Kq) := (Chg.of_below HB9.out _).trans hca
            have HGa : Hid _ := HG7.out.keep (Kp.of_chg HCa.out (fun b _ hb e => HGK.out b hb e))
            have HNa : Hid (Nw AtV w wa Ka V p) := (HN7.out.on serves HB9.out).called hata hca hka
            rw [HT.out]
            clear hata hca hka
            refine ⟨_, rfl, hK.out _ _ (HS8.out wa HCa.out) (fun hHeld => ?_)⟩
            clear hK K
            try simp only [List.getElem_toArray, List.getElem_cons_succ, List.getElem_cons_zero, Act.put, List.setIfInBounds_toArray, List.set_cons_zero, List.set_cons_succ]
            refine wpAnyH_ready (rs := [19]) (by kernel_rfl) (by simp) ?_
            refine AllReadyH.cons rfl (fun K hK => ?_) AllReadyH.nil
            refine step_callx (by rfl) 18 _ _ (by rfl) (fun _ _ => by rfl) [.agg (tellCs t).toArray, .int .i64 22, vwV t] (by rfl) (bare_tell t wa) ?_
            rintro e wb ⟨rfl, hbb⟩
            have HBb : Hid (Below wa.heap.size wa wb) := hbb
            have HGb : Hid _ := HGa.out.keep (Kp.of_below hbb _)
            have HCb : Hid (Chg w7 wb Kq) := HCa.out.trans (Chg.of_below hbb _)
            clear hbb
            refine ⟨_, rfl, hK.out _ _ (HS8.out wb HCb.out) (fun hHeld => ?_)⟩
            clear hK K
            try simp only [List.getElem_toArray, List.getElem_cons_succ, List.getElem_cons_zero, Act.put, List.setIfInBounds_toArray, List.set_cons_zero, List.set_cons_succ]
            refine wpAnyH_take (i := 20) (v := ?_) rfl (by kernel_rfl) (by kernel_rfl) (by kernel_rfl) (fun _ _ _ h => h) ?_ hHeld ?_
            rotate_left
            · refine Or.inl ⟨by rfl, ?_⟩; intro w hSw; obtain ⟨hh0, hh1⟩ := hSw; clear hh0; go_simp <;> with_reducible rfl
            try simp only [List.getElem_toArray, List.getElem_cons_succ, List.getElem_cons_zero, Act.put, List.setIfInBounds_toArray, List.set_cons_zero, List.set_cons_succ]
            refine wpAnyH_take (i := 21) (v := ?_) rfl (by kernel_rfl) (by kernel_rfl) (by kernel_rfl) (fun _ _ _ h => h) ?_ hHeld ?_
            rotate_left
            · refine Or.inl ⟨by rfl, ?_⟩; intro w hSw; obtain ⟨hh0, hh1⟩ := hSw; clear hh0; go_simp <;> with_reducible rfl
            try simp only [List.getElem_toArray, List.getElem_cons_succ, List.getElem_cons_zero, Act.put, List.setIfInBounds_toArray, List.set_cons_zero, List.set_cons_succ]
            refine wpAnyH_take (i := 22) (v := ?_) rfl (by kernel_rfl) (by kernel_rfl) (by kernel_rfl) (fun _ _ _ h => h) ?_ hHeld ?_
            rotate_left
            · refine Or.inl ⟨by rfl, ?_⟩; intro w hSw; obtain ⟨hh0, hh1⟩ := hSw; clear hh0; go_simp <;> with_reducible rfl
            try simp only [List.getElem_toArray, List.getElem_cons_succ, List.getElem_cons_zero, Act.put, List.setIfInBounds_toArray, List.set_cons_zero, List.set_cons_succ]
            refine wpAnyH_ready (rs := [23]) (by kernel_rfl) (by simp) ?_
            refine AllReadyH.cons rfl (fun K hK => ?_) AllReadyH.nil
            refine step_callx (by rfl) 21 _ _ (by rfl) (fun _ _ => by rfl) [.pointer (some ⟨B, 0, none⟩)] (by rfl) (HGb.out.stands) ?_
            rintro e wc ⟨rfl, hbc⟩
            have HBc : Hid (Below wa.heap.size wa wc) := trans2 HBb.out hbc
            have HCc : Hid (Chg w7 wc Kq) := HCb.out.trans (Chg.of_below hbc _)
            clear hbc
            refine ⟨_, rfl, hK.out _ _ (HS8.out wc HCc.out) (fun hHeld => ?_)⟩
            clear hK K
            try simp only [List.getElem_toArray, List.getElem_cons_succ, List.getElem_cons_zero, Act.put, List.setIfInBounds_toArray, List.set_cons_zero, List.set_cons_succ]
            refine wpAnyH_take (i := 24) (v := ?_) rfl (by kernel_rfl) (by kernel_rfl) (by kernel_rfl) (fun _ _ _ h => h) ?_ hHeld ?_
            rotate_left
            · refine Or.inl ⟨by rfl, ?_⟩; intro w hSw; obtain ⟨hh0, hh1⟩ := hSw; clear hh0; go_simp <;> with_reducible rfl
            try simp only [List.getElem_toArray, List.getElem_cons_succ, List.getElem_cons_zero, Act.put, List.setIfInBounds_toArray, List.set_cons_zero, List.set_cons_succ]
            refine wpAnyH_ready (rs := [25]) (by kernel_rfl) (by simp) ?_
            refine AllReadyH.cons rfl (fun K hK => ?_) AllReadyH.nil
            go_simp
            refine hK.out _ _ hHeld (fun hHeld => ?_)
            clear hK K
            try simp only [List.getElem_toArray, List.getElem_cons_succ, List.getElem_cons_zero, Act.put, List.setIfInBounds_toArray, List.set_cons_zero, List.set_cons_succ]
            refine wpAnyH_done (by kernel_rfl) ?_ _
            go_wp2_with fail
            go_ret
            exact ⟨rfl, (HNa.out.on serves HBc.out).below⟩
end Go.Proofs.Ytlbhnlpdijhmlaa
