import Derived.Test.YtdjfeomdiljaeaaGreatDoorNtRt
import Derived.Test.YtdjfeomdiljaeaaGreatDoorNtEe
import Derived.Test.YtdjfeomdiljaeaaGreatDoorNtPg
import Derived.Test.YtdjfeomdiljaeaaGreatDoorNtSb
namespace Go.Proofs.YtdjfeomdiljaeaaGreatDoor
open Go.RowKit
set_option linter.unusedVariables false
set_option linter.unusedSimpArgs false

theorem pg_num (bw : Nat) (v : Value) (xs : List Int) (n : Int) (w : World) (h : WrAt 73 w bw v xs) (hv : inN n) (hl : xs.length + (nmL n).length ≤ 1000000) :
    Calls Tryz.prog 60 #[.pointer (some ⟨bw, 0, none⟩), .int .i64 n] w (WrEnd 73 bw v xs (nmL n) w) := by
  obtain ⟨k, rfl⟩ := Int.eq_ofNat_of_zero_le hv.1
  have := pg_number bw v xs k w h (by have := hv.2; omega) (by omega)
  unfold nmL
  rw [Int.toNat_natCast]
  exact this
theorem pg_txt (bw : Nat) (v : Value) (xs : List Int) (s : ByteArray) (w : World) (h : WrAt 73 w bw v xs) (hv : s.size ≤ 262144) (hl : xs.length + (textL s).length ≤ 1000000) :
    Calls Tryz.prog 102 #[.pointer (some ⟨bw, 0, none⟩), .string s] w (WrEnd 73 bw v xs (textL s) w) := pg_text bw v xs s w h hv (by omega)
set_option maxHeartbeats 6400000 in
set_option maxRecDepth 100000 in
theorem pg_ops (bw : Nat) (v : Value) (xs : List Int) (a : Option Addr) (c : Nat) (L : List OpN) (w0 w : World) (h : WrAt 73 w bw v xs) (hk : Bk w0 w bw) (hL : RowC w0 a 5 (L.map OpN.cl)) (hn : L.length ≤ 1000000)
    (ho : ∀ x ∈ L, OpN.Ok x) (hl : xs.length + (lsL opL L).length ≤ 1000000) :
    Calls Tryz.prog 76 #[.pointer (some ⟨bw, 0, none⟩), .slice a L.length c] w (WrEnd 73 bw v xs (lsL opL L) w) := by
  have HL : Hid (RowC w0 a 5 (L.map OpN.cl)) := hL
  have HW : Hid (WrAt 73 w bw v xs) := h
  have HK : Hid (Bk w0 w bw) := hk
  have HO : Hid (∀ x ∈ L, OpN.Ok x) := ho
  obtain ⟨T, hT⟩ : ∃ T, lsL opL L = T := ⟨_, rfl⟩
  have HT : Hid (lsL opL L = T) := hT
  have hT2 := congrArg List.length hT
  unfold lsL at hT2
  rw [List.length_append] at hT2
  obtain ⟨m, hm⟩ : ∃ m, L.length = m := ⟨_, rfl⟩
  have HM : Hid (L.length = m) := hm
  rw [hm] at hn hT2
  rw [hT] at hl ⊢
  rw [hm]
  have hT3 : (L.flatMap opL).length + (nmL m).length = T.length := by omega
  have HN : Hid _ := pg_num bw v xs m w h ⟨by omega, by omega⟩ (by omega)
  clear hm hL h hk hT hT2 ho
  go_enter Tryz.func76, Tryz.ntmps76
  go_upto_region 1 with (first
    | (go_at_call 60; refine Calls.mono HN.out ?_; intro e w1 hE; obtain ⟨v1, rfl, hs⟩ := (WrQ.start HW.out).step (by rw [List.append_nil]; exact hE); (have HS1 : Hid (WrQ 73 w bw v xs w1 v1 (nmL m)) := hs); clear hE hs)
    | fail)
  go_wp2_with fail
  go_loopw [4] (fun iv wr => ∃ (q : Nat) (vq : Value), iv = .int .i64 q ∧ q ≤ m ∧ Hid (WrQ 73 w bw v xs wr vq (nmL m ++ (L.take q).flatMap opL))) (fun iv _ => m - (intOf iv).toNat)
  case atStart => exact ⟨0, v1, rfl, Nat.zero_le _, by show WrQ _ _ _ _ _ _ _ _; rw [List.take_zero, List.flatMap_nil, List.append_nil]; exact HS1.out⟩
  case round =>
    obtain ⟨q, vq, rfl, hqm, HP0⟩ := hrel
    by_cases hlt : q < m
    · have hlt' : (q : Int) < (m : Int) := by omega
      obtain ⟨x, hx⟩ : ∃ x, L[q]? = some x := ⟨L[q]'(by rw [HM.out]; exact hlt), List.getElem?_eq_getElem _⟩
      have HX : Hid (L[q]? = some x) := hx
      obtain ⟨b, o, rfl, n0, n1, n2, n3, n4⟩ := (HL.out.bk (HK.out.step HP0.out.low)).at5 (map_at hx)
      have hfl := flat_le (f := opL) hx
      obtain ⟨hK, hfl', hvr, hp, hd⟩ := OpN.lens (HO.out x (List.mem_of_getElem? hx))
      clear hx
      obtain ⟨K, p, d, vr, fl⟩ := x
      simp only at hK hfl' hvr hp hd
      by_cases hv : vr = -1
      · subst hv
        have e1 : opL ⟨K, p, d, -1, fl⟩ = nmL K ++ (textL p ++ (textL d ++ (nmL 0 ++ nmL fl))) := by unfold opL vrL; rw [if_pos rfl]
        rw [e1] at hfl
        simp only [List.length_append] at hfl
        go_wp2_with (first
          | (have hq := HP4; clear hq; go_at_call 60; refine Calls.mono (pg_num bw _ _ (fl) _ HP4.out.at' (hfl') (by simp only [List.length_append]; omega)) ?_; intro e w5 hE; obtain ⟨v5, rfl, hs⟩ := HP4.out.step hE; (have HP5 : Hid _ := hs); clear hs hE n0 n1 n2 n3 n4; obtain ⟨b', o', he, n0, n1, n2, n3, n4⟩ := (HL.out.bk (HK.out.step HP5.out.low)).at5 (map_at HX.out); cases he)
          | (have hq := HP3; clear hq; go_at_call 60; refine Calls.mono (pg_num bw _ _ (0) _ HP3.out.at' (by decide) (by simp only [List.length_append]; omega)) ?_; intro e w4 hE; obtain ⟨v4, rfl, hs⟩ := HP3.out.step hE; (have HP4 : Hid _ := hs); clear hs hE n0 n1 n2 n3 n4; obtain ⟨b', o', he, n0, n1, n2, n3, n4⟩ := (HL.out.bk (HK.out.step HP4.out.low)).at5 (map_at HX.out); cases he)
          | (have hq := HP2; clear hq; go_at_call 102; refine Calls.mono (pg_txt bw _ _ (d) _ HP2.out.at' (by omega) (by simp only [List.length_append]; omega)) ?_; intro e w3 hE; obtain ⟨v3, rfl, hs⟩ := HP2.out.step hE; (have HP3 : Hid _ := hs); clear hs hE n0 n1 n2 n3 n4; obtain ⟨b', o', he, n0, n1, n2, n3, n4⟩ := (HL.out.bk (HK.out.step HP3.out.low)).at5 (map_at HX.out); cases he)
          | (have hq := HP1; clear hq; go_at_call 102; refine Calls.mono (pg_txt bw _ _ (p) _ HP1.out.at' (by omega) (by simp only [List.length_append]; omega)) ?_; intro e w2 hE; obtain ⟨v2, rfl, hs⟩ := HP1.out.step hE; (have HP2 : Hid _ := hs); clear hs hE n0 n1 n2 n3 n4; obtain ⟨b', o', he, n0, n1, n2, n3, n4⟩ := (HL.out.bk (HK.out.step HP2.out.low)).at5 (map_at HX.out); cases he)
          | (have hq := HP0; clear hq; go_at_call 60; refine Calls.mono (pg_num bw _ _ (K) _ HP0.out.at' (hK) (by simp only [List.length_append]; omega)) ?_; intro e w1 hE; obtain ⟨v1, rfl, hs⟩ := HP0.out.step hE; (have HP1 : Hid _ := hs); clear hs hE n0 n1 n2 n3 n4; obtain ⟨b', o', he, n0, n1, n2, n3, n4⟩ := (HL.out.bk (HK.out.step HP1.out.low)).at5 (map_at HX.out); cases he)
          | fail)
        have HS2 : Hid (WrQ 73 w bw v xs w5 v5 (nmL m ++ (L.take (q + 1)).flatMap opL)) := by
          have := HP5.out
          show WrQ _ _ _ _ _ _ _ _
          rw [flat_take HX.out, e1]
          simp only [List.append_assoc] at this ⊢
          exact this
        clear n0 n1 n2 n3 n4
        go_roundw
        case rel => exact ⟨q + 1, v5, by go_num, by omega, HS2⟩
        case measure => simp [intOf]; omega
      · have hv' : (vr == -1) = false := by simpa using hv
        have hvv : inN vr := hvr.resolve_left hv
        have e1 : opL ⟨K, p, d, vr, fl⟩ = nmL K ++ (textL p ++ (textL d ++ ((nmL 1 ++ nmL vr) ++ nmL fl))) := by unfold opL vrL; rw [if_neg hv]
        rw [e1] at hfl
        simp only [List.length_append] at hfl
        go_wp2_with (first
          | (have hq := HP5; clear hq; go_at_call 60; refine Calls.mono (pg_num bw _ _ (fl) _ HP5.out.at' (hfl') (by simp only [List.length_append]; omega)) ?_; intro e w6 hE; obtain ⟨v6, rfl, hs⟩ := HP5.out.step hE; (have HP6 : Hid _ := hs); clear hs hE n0 n1 n2 n3 n4; obtain ⟨b', o', he, n0, n1, n2, n3, n4⟩ := (HL.out.bk (HK.out.step HP6.out.low)).at5 (map_at HX.out); cases he)
          | (have hq := HP4; clear hq; go_at_call 60; refine Calls.mono (pg_num bw _ _ (vr) _ HP4.out.at' (hvv) (by simp only [List.length_append]; omega)) ?_; intro e w5 hE; obtain ⟨v5, rfl, hs⟩ := HP4.out.step hE; (have HP5 : Hid _ := hs); clear hs hE n0 n1 n2 n3 n4; obtain ⟨b', o', he, n0, n1, n2, n3, n4⟩ := (HL.out.bk (HK.out.step HP5.out.low)).at5 (map_at HX.out); cases he)
          | (have hq := HP3; clear hq; go_at_call 60; refine Calls.mono (pg_num bw _ _ (1) _ HP3.out.at' (by decide) (by simp only [List.length_append]; omega)) ?_; intro e w4 hE; obtain ⟨v4, rfl, hs⟩ := HP3.out.step hE; (have HP4 : Hid _ := hs); clear hs hE n0 n1 n2 n3 n4; obtain ⟨b', o', he, n0, n1, n2, n3, n4⟩ := (HL.out.bk (HK.out.step HP4.out.low)).at5 (map_at HX.out); cases he)
          | (have hq := HP2; clear hq; go_at_call 102; refine Calls.mono (pg_txt bw _ _ (d) _ HP2.out.at' (by omega) (by simp only [List.length_append]; omega)) ?_; intro e w3 hE; obtain ⟨v3, rfl, hs⟩ := HP2.out.step hE; (have HP3 : Hid _ := hs); clear hs hE n0 n1 n2 n3 n4; obtain ⟨b', o', he, n0, n1, n2, n3, n4⟩ := (HL.out.bk (HK.out.step HP3.out.low)).at5 (map_at HX.out); cases he)
          | (have hq := HP1; clear hq; go_at_call 102; refine Calls.mono (pg_txt bw _ _ (p) _ HP1.out.at' (by omega) (by simp only [List.length_append]; omega)) ?_; intro e w2 hE; obtain ⟨v2, rfl, hs⟩ := HP1.out.step hE; (have HP2 : Hid _ := hs); clear hs hE n0 n1 n2 n3 n4; obtain ⟨b', o', he, n0, n1, n2, n3, n4⟩ := (HL.out.bk (HK.out.step HP2.out.low)).at5 (map_at HX.out); cases he)
          | (have hq := HP0; clear hq; go_at_call 60; refine Calls.mono (pg_num bw _ _ (K) _ HP0.out.at' (hK) (by simp only [List.length_append]; omega)) ?_; intro e w1 hE; obtain ⟨v1, rfl, hs⟩ := HP0.out.step hE; (have HP1 : Hid _ := hs); clear hs hE n0 n1 n2 n3 n4; obtain ⟨b', o', he, n0, n1, n2, n3, n4⟩ := (HL.out.bk (HK.out.step HP1.out.low)).at5 (map_at HX.out); cases he)
          | fail)
        have HS2 : Hid (WrQ 73 w bw v xs w6 v6 (nmL m ++ (L.take (q + 1)).flatMap opL)) := by
          have := HP6.out
          show WrQ _ _ _ _ _ _ _ _
          rw [flat_take HX.out, e1]
          simp only [List.append_assoc] at this ⊢
          exact this
        clear n0 n1 n2 n3 n4
        go_roundw
        case rel => exact ⟨q + 1, v6, by go_num, by omega, HS2⟩
        case measure => simp [intOf]; omega
    · have hlt' : ¬ (q : Int) < (m : Int) := by omega
      go_wp2_with fail
      refine bodyPost_end (results_none rfl _ _ _) rfl (HP0.out.done ?_)
      rw [List.take_of_length_le (by have := HM.out; omega), ← HT.out, lsL, HM.out]
set_option maxHeartbeats 3200000 in
set_option maxRecDepth 100000 in
theorem pg_entry_core (bw : Nat) (v : Value) (xs : List Int) (st vw K se rq : Int) (opsA : Option Addr) (opsC : Nat) (ops : List OpN) (w0' : World) (w : World) (h : WrAt 73 w bw v xs) (hk : Bk w0' w bw) (hA : RowC w0' opsA 5 (ops.map OpN.cl)) (hv : inN st ∧ inN vw ∧ inN K ∧ inN se ∧ inN rq) (hn : ops.length ≤ 1000000) (ho : ∀ x ∈ ops, OpN.Ok x) (hl : xs.length + (nmL st ++ (nmL vw ++ (nmL K ++ (nmL se ++ (nmL rq ++ lsL opL ops))))).length ≤ 1000000) :
    Calls Tryz.prog 28 #[.pointer (some ⟨bw, 0, none⟩), .agg #[.int .i64 st, .int .i64 vw, .int .i64 K, .int .i64 se, .int .i64 rq, .slice opsA ops.length opsC]] w (WrEnd 73 bw v xs (nmL st ++ (nmL vw ++ (nmL K ++ (nmL se ++ (nmL rq ++ lsL opL ops))))) w) := by
  obtain ⟨w0, hw0⟩ : ∃ w0, w.alloc (.cells #[.int .i64 st, .int .i64 vw, .int .i64 K, .int .i64 se, .int .i64 rq, .slice opsA ops.length opsC] 24) = w0 := ⟨_, rfl⟩
  have HS0 : Hid (WrS 73 w bw v xs w.heap.size (.cells #[.int .i64 st, .int .i64 vw, .int .i64 K, .int .i64 se, .int .i64 rq, .slice opsA ops.length opsC] 24 (0, 0)) w0 v []) := WrS.start h _ hw0 (by rw [← hw0]; exact heap_alloc_new _ _)
  have HW : Hid (w.alloc (.cells #[.int .i64 st, .int .i64 vw, .int .i64 K, .int .i64 se, .int .i64 rq, .slice opsA ops.length opsC] 24) = w0) := hw0
  simp only [List.length_append] at hl
  have HK : Hid (Bk w0' w bw) := hk
  have HA : Hid (RowC w0' opsA 5 (ops.map OpN.cl)) := hA
  clear hk hA
  clear hw0 h
  go_enter Tryz.func28, Tryz.ntmps28
  go_upto_region 1 with fail
  rw [HW.out]
  obtain ⟨c0, c1, c2, c3, c4, c5⟩ := cells_6N HS0.out.box
  go_wp2_with (first
    | (have hq := HS5; clear hq; go_at_call 76; refine Calls.mono (pg_ops bw _ _ opsA opsC ops w0' _ HS5.out.at' (HK.out.step HS5.out.low) HA.out hn ho (by simp only [List.length_append, List.length_nil]; omega)) ?_; intro e w6 hE; obtain ⟨v6, rfl, hs⟩ := (HS5.out).step hE; (have HS6 : Hid _ := hs); clear hs hE c0 c1 c2 c3 c4 c5; obtain ⟨c0, c1, c2, c3, c4, c5⟩ := cells_6N HS6.out.box)
    | (have hq := HS4; clear hq; go_at_call 60; refine Calls.mono (pg_num bw _ _ (rq) _ HS4.out.at' (hv.2.2.2.2) (by simp only [List.length_append, List.length_nil]; omega)) ?_; intro e w5 hE; obtain ⟨v5, rfl, hs⟩ := (HS4.out).step hE; (have HS5 : Hid _ := hs); clear hs hE c0 c1 c2 c3 c4 c5; obtain ⟨c0, c1, c2, c3, c4, c5⟩ := cells_6N HS5.out.box)
    | (have hq := HS3; clear hq; go_at_call 60; refine Calls.mono (pg_num bw _ _ (se) _ HS3.out.at' (hv.2.2.2.1) (by simp only [List.length_append, List.length_nil]; omega)) ?_; intro e w4 hE; obtain ⟨v4, rfl, hs⟩ := (HS3.out).step hE; (have HS4 : Hid _ := hs); clear hs hE c0 c1 c2 c3 c4 c5; obtain ⟨c0, c1, c2, c3, c4, c5⟩ := cells_6N HS4.out.box)
    | (have hq := HS2; clear hq; go_at_call 60; refine Calls.mono (pg_num bw _ _ (K) _ HS2.out.at' (hv.2.2.1) (by simp only [List.length_append, List.length_nil]; omega)) ?_; intro e w3 hE; obtain ⟨v3, rfl, hs⟩ := (HS2.out).step hE; (have HS3 : Hid _ := hs); clear hs hE c0 c1 c2 c3 c4 c5; obtain ⟨c0, c1, c2, c3, c4, c5⟩ := cells_6N HS3.out.box)
    | (have hq := HS1; clear hq; go_at_call 60; refine Calls.mono (pg_num bw _ _ (vw) _ HS1.out.at' (hv.2.1) (by simp only [List.length_append, List.length_nil]; omega)) ?_; intro e w2 hE; obtain ⟨v2, rfl, hs⟩ := (HS1.out).step hE; (have HS2 : Hid _ := hs); clear hs hE c0 c1 c2 c3 c4 c5; obtain ⟨c0, c1, c2, c3, c4, c5⟩ := cells_6N HS2.out.box)
    | (have hq := HS0; clear hq; go_at_call 60; refine Calls.mono (pg_num bw _ _ (st) _ HS0.out.at' (hv.1) (by simp only [List.length_append, List.length_nil]; omega)) ?_; intro e w1 hE; obtain ⟨v1, rfl, hs⟩ := (HS0.out).step hE; (have HS1 : Hid _ := hs); clear hs hE c0 c1 c2 c3 c4 c5; obtain ⟨c0, c1, c2, c3, c4, c5⟩ := cells_6N HS1.out.box)
    | fail)
  all_goals exact bodyPost_end (results_none rfl _ _ _) rfl (HS6.out.done (by simp only [List.nil_append, List.append_assoc]))
theorem pg_entry (bw : Nat) (v : Value) (xs : List Int) (e : EnN) (w0 w : World) (h : WrAt 73 w bw v xs) (hk : Bk w0 w bw) (hA : e.At w0) (hok : e.Ok) (hl : xs.length + (enL e).length ≤ 1000000) :
    Calls Tryz.prog 28 #[.pointer (some ⟨bw, 0, none⟩), e.val] w (WrEnd 73 bw v xs (enL e) w) := by
  obtain ⟨h1, h2, h3⟩ := EnN.facts hok
  have he : enL e = nmL e.st ++ (nmL e.vw ++ (nmL e.K ++ (nmL e.se ++ (nmL e.rq ++ lsL opL e.ops)))) := by unfold enL nmsL; simp
  rw [he] at hl ⊢
  exact pg_entry_core bw v xs e.st e.vw e.K e.se e.rq e.opsA e.opsC e.ops w0 w h hk hA.ops ⟨h1 _ (by simp), h1 _ (by simp), h1 _ (by simp), h1 _ (by simp), h1 _ (by simp)⟩ (by omega) h3 hl
set_option maxHeartbeats 3200000 in
set_option maxRecDepth 100000 in
theorem refEncE_any (x : EnN) (w : World) (hA : x.At w) : Calls Tryz.prog 9 #[x.val] w (EncE x w) := by
  obtain ⟨w0, hw0⟩ : ∃ w0, w.alloc (.cells #[.int .i64 x.st, .int .i64 x.vw, .int .i64 x.K, .int .i64 x.se, .int .i64 x.rq, .slice x.opsA x.ops.length x.opsC] 24) = w0 := ⟨_, rfl⟩
  have HW : Hid (w.alloc (.cells #[.int .i64 x.st, .int .i64 x.vw, .int .i64 x.K, .int .i64 x.se, .int .i64 x.rq, .slice x.opsA x.ops.length x.opsC] 24) = w0) := hw0
  have HB0 : Hid (Below w.heap.size w w0) := by rw [← hw0]; exact (Below.refl _ _).alloc (Nat.le_refl _) _
  have HE0 : Hid (w0.heap[w.heap.size]? = some (.cells #[.int .i64 x.st, .int .i64 x.vw, .int .i64 x.K, .int .i64 x.se, .int .i64 x.rq, .slice x.opsA x.ops.length x.opsC] 24 (0, 0))) := by show _ = _; rw [← hw0]; exact heap_alloc_new _ _
  have HA : Hid (x.At w) := hA
  have HR : Hid _ := ren_any x w0 (hA.below HB0.out)
  obtain ⟨c0, c1, c2, c3, c4, c5⟩ := cells_6N HE0.out
  clear hA hw0
  go_enter Tryz.func9, Tryz.ntmps9
  go_upto_region 1 with fail
  rw [HW.out]
  go_upto_region 2 with (first
    | (go_at_call 27; refine Calls.mono HR.out ?_; rintro e w1 ⟨b, rfl, hbi, hb⟩)
    | fail)
  have HB1 : Hid (Below w.heap.size w w1) := xtransN HB0.out hb
  have HE1 : Hid (w1.heap[w.heap.size]? = some (.cells #[.int .i64 x.st, .int .i64 x.vw, .int .i64 x.K, .int .i64 x.se, .int .i64 x.rq, .slice x.opsA x.ops.length x.opsC] 24 (0, 0))) := kept_block hb HE0.out
  clear hb c0 c1 c2 c3 c4 c5
  have HW1 : Hid (WrAt 73 (w1.alloc (.cells #[.slice none 0 0] 73)) w1.heap.size (.slice none 0 0) []) := WrAt.new w1
  have hbe := lt_of_blk HE1.out
  obtain ⟨c0, c1, c2, c3, c4, c5⟩ := cells_6N (kept_block ((Below.refl _ _).alloc (Nat.le_refl _) (.cells #[.slice none 0 0] 73)) HE1.out)
  cases b with
  | false =>
    have hno : ¬ x.Ok := fun h => by have := hbi.2 h; cases this
    clear hbi c0 c1 c2 c3 c4 c5
    go_wp2_with fail
    refine bodyPost_ret (results_tmp2 rfl _ _ _) rfl ?_
    exact ⟨none, 0, [], 30, rfl, .inr ⟨hno, rfl, rfl⟩, owns_none, HB1.out⟩
  | true =>
    have H0 : Hid x.Ok := hbi.1 rfl
    clear hbi
    go_wp2_with (first
      | (go_at_call 28; refine Calls.mono (pg_entry w1.heap.size _ _ x w1 _ HW1.out ⟨Nat.le_refl _, (Below.refl _ _).alloc (Nat.le_refl _) _⟩ (HA.out.below HB1.out) H0.out (by have := enLe H0.out; simp only [List.length_nil]; omega)) ?_
         rintro e w2 ⟨v2, rfl, ha, hb2, _⟩
         have HW2 : Hid (WrAt 73 w2 w1.heap.size v2 (enL x)) := ha
         have HB2 : Hid (Below w.heap.size w w2) := (HB1.out.alloc HB1.out.size _).trans (hb2.mono HB1.out.size)
         clear ha hb2 c0 c1 c2 c3 c4 c5
         have c0 := cells_1 HW2.out.box)
      | fail)
    refine bodyPost_ret (results_tmp2 rfl _ _ _) rfl ?_
    obtain ⟨a, c, rfl, _⟩ := bys_of_owns HW2.out.row
    have hrow := HW2.out.row
    exact ⟨a, c, enL x, 0, rfl, .inl ⟨H0.out, rfl, rfl⟩, owns_mono hrow HB1.out.size, HB2.out⟩
end Go.Proofs.YtdjfeomdiljaeaaGreatDoor
namespace Go.Proofs.YtdjfeomdiljaeaaGreatDoor
open Go.RowKit
set_option linter.unusedVariables false
set_option linter.unusedSimpArgs false

theorem EnN.Eq.enc {x y : EnN} (h : EnN.Eq x y) : enL x = enL y := by
  obtain ⟨st, vw, K, se, rq, opsA, opsC, ops⟩ := x
  obtain ⟨st', vw', K', se', rq', opsA', opsC', ops'⟩ := y
  obtain ⟨rfl, rfl, rfl, rfl, rfl, rfl⟩ := h
  rfl
set_option maxHeartbeats 6400000 in
set_option maxRecDepth 100000 in
theorem refDec_any (a : Option Addr) (c : Nat) (xs : List Int) (w : World) (hx : Bys w a xs) (hby : Byt xs) (hl : xs.length ≤ 1000000) (hc : xs.length ≤ c) (hcm : c ≤ maxLen) : Calls Tryz.prog 14 #[.slice a xs.length c] w (DecE xs w) := by
  obtain ⟨rb, hrb⟩ : ∃ rb, w.heap.size = rb := ⟨_, rfl⟩
  obtain ⟨w1, hw1⟩ : ∃ w1, w.alloc (.cells #[.int .i64 0, .int .i64 0, .int .i64 0, .int .i64 0, .int .i64 0, .slice none 0 0] 24) = w1 := ⟨_, rfl⟩
  have HW1 : Hid (w.alloc (.cells #[.int .i64 0, .int .i64 0, .int .i64 0, .int .i64 0, .int .i64 0, .slice none 0 0] 24) = w1) := hw1
  have HB1 : Hid (Below w.heap.size w w1) := by rw [← hw1]; exact (Below.refl _ _).alloc (Nat.le_refl _) _
  have HS1 : Hid (w1.heap.size = rb + 1) := by show _ = _; rw [← hw1, ← hrb]; simp
  have HX1 : Hid (w1.heap[rb]? = some (.cells #[.int .i64 0, .int .i64 0, .int .i64 0, .int .i64 0, .int .i64 0, .slice none 0 0] 24 (0, 0))) := by show _ = _; rw [← hw1, ← hrb]; exact heap_alloc_new _ _
  have HRB : Hid (w.heap.size = rb) := hrb
  have HBY0 : Hid (Bys w a xs) := hx
  have hne : xs ≠ [] → ∀ b o, a = some ⟨b, o, none⟩ → b < w.heap.size := fun hz b o e => by
    rcases hx with h | ⟨b', o', ha, hlt, _⟩
    · exact absurd h hz
    · rw [ha] at e
      cases e
      exact hlt
  obtain ⟨w2, hw2⟩ : ∃ w2, w1.alloc (.cells #[.slice a xs.length c, .int .i64 0, .bool false] 83) = w2 := ⟨_, rfl⟩
  have HW2 : Hid (w1.alloc (.cells #[.slice a xs.length c, .int .i64 0, .bool false] 83) = w2) := hw2
  have hb2 : Below w1.heap.size w1 w2 := by rw [← hw2]; exact (Below.refl _ _).alloc (Nat.le_refl _) _
  have HB2 : Hid (Below w.heap.size w w2) := xtransN HB1.out hb2
  have HS2 : Hid (w2.heap.size = rb + 2) := by show _ = _; rw [← hw2]; simp [HS1.out]
  have HY2 : Hid (w2.heap[rb]? = some (.cells #[.int .i64 0, .int .i64 0, .int .i64 0, .int .i64 0, .int .i64 0, .slice none 0 0] 24 (0, 0))) := kept_block hb2 HX1.out
  have HE2 : Hid (EyS w2 w2 (rb + 1) a c xs 0 false) := ⟨by rw [← hw2]; exact heap_new' HS1.out, Chg.refl _ _, Nat.zero_le _⟩
  have HC : Hid (RdC w2 (rb + 1) a c xs) := ⟨hx.below HB2.out, hby, hl, hc, hcm, fun hz b o e => by have := hne hz b o e; omega, by rw [HS2.out]; omega⟩
  have HEN : Hid _ := ey_entry w2 (rb + 1) a c xs 0 false w2 HC.out HE2.out
  clear hw1 hw2 hb2 hx hby hl hne hrb
  go_enter Tryz.func14, Tryz.ntmps14
  go_upto_region 1 with fail
  rw [HW1.out, HRB.out]
  by_cases hlen : xs.length ≤ 262144
  rotate_left
  · have hlen' : (262144 : Int) < (xs.length : Int) := by omega
    go_wp2_with (first
      | (refine wpList_store_row rfl 24 _ _ rfl rb #[.int .i64 0, .int .i64 0, .int .i64 0, .int .i64 0, .int .i64 0, .slice none 0 0] rfl rfl 24 _ HX1.out (by kernel_rfl) rfl (by first | kernel_rfl | (simp; rfl)) ?_)
      | fail)
    refine bodyPost_ret (results_cellT rfl _ _ rb 24 _ (0, 0) _ _ rfl rfl (row_setA HX1.out) Tryz.underlying24 rfl (by kernel_rfl)) rfl ?_
    exact ⟨zEn, 2, rfl, HB1.out.trans ((row_chgA HX1.out).below (by have := HS1.out; have := HRB.out; omega) (fun k _ e => by have := HRB.out; omega)), owns_none, zEn_at _, .inr (.inr ⟨by omega, rfl, ⟨rfl, rfl, rfl, rfl, rfl, rfl⟩⟩)⟩
  have hlen' : ¬ (262144 : Int) < (xs.length : Int) := by omega
  have HLEN : Hid (xs.length ≤ 262144) := hlen
  go_upto_region 4 with fail
  rw [HW2.out, HS1.out]
  go_upto_region 5 with (first
    | (go_at_call 34; refine Calls.mono HEN.out ?_
       rintro e w3 ⟨x, q, b1, rfl, hs, hch, ⟨hx4, hrow⟩, ht⟩
       have HE3 : Hid (EyS w2 w3 (rb + 1) a c xs q b1) := hs
       have HCH3 : Hid (Chg w2 w3 (fun j => j = rb + 1)) := hch
       have HX4 : Hid (x.ops.length ≤ 4) := hx4
       have HRW : Hid (w3.ownsRow w2.heap.size 60 5 (.slice x.opsA x.ops.length x.opsC) x.ops.length (opCs x.ops)) := hrow
       have HT : Hid (∀ y : EnN, y.Ok → xs = enL y → EnN.Eq x y ∧ b1 = false) := fun y hy hd => by
         obtain ⟨h1, h2, h3⟩ := ht y [] rfl ⟨EnG.of hy, (EnN.facts hy).2.1⟩ (by rw [List.drop_zero, List.append_nil]; exact hd)
         exact ⟨h1, h2⟩
       clear hs hch hx4 hrow ht)
    | fail)
  obtain ⟨w4, hw4⟩ : ∃ w4, w3.alloc (.cells #[.int .i64 x.st, .int .i64 x.vw, .int .i64 x.K, .int .i64 x.se, .int .i64 x.rq, .slice x.opsA x.ops.length x.opsC] 24) = w4 := ⟨_, rfl⟩
  obtain ⟨xb, hxb⟩ : ∃ xb, w3.heap.size = xb := ⟨_, rfl⟩
  have HB4 : Hid (Below w3.heap.size w3 w4) := by rw [← hw4]; exact (Below.refl _ _).alloc (Nat.le_refl _) _
  have HXB : Hid (w4.heap[xb]? = some (.cells #[.int .i64 x.st, .int .i64 x.vw, .int .i64 x.K, .int .i64 x.se, .int .i64 x.rq, .slice x.opsA x.ops.length x.opsC] 24 (0, 0))) := by show _ = _; rw [← hw4, ← hxb]; exact heap_alloc_new _ _
  have HLX : Hid (x.ops.length ≤ maxLen) := by show _ ≤ _; have := HX4.out; unfold maxLen; omega
  have HA4 : Hid (x.At w4) := at_owns (owns_below HRW.out HB4.out) HLX.out
  have HR4 : Hid (w4.ownsRow w2.heap.size 60 5 (.slice x.opsA x.ops.length x.opsC) x.ops.length (opCs x.ops)) := owns_below HRW.out HB4.out
  have HL4 : Hid (Below rb w w4) := by
    have h1 : Below rb w w2 := by rw [← HRB.out]; exact HB2.out
    have h2 : Below rb w2 w3 := HCH3.out.below (by rw [HS2.out]; omega) (fun k _ e => by omega)
    have h3 : Below rb w3 w4 := HB4.out.mono (by have := HCH3.out.size; have := HS2.out; omega)
    exact (h1.trans h2).trans h3
  have HY4 : Hid (w4.heap[rb]? = some (.cells #[.int .i64 0, .int .i64 0, .int .i64 0, .int .i64 0, .int .i64 0, .slice none 0 0] 24 (0, 0))) := by
    show _ = _
    refine kept_block HB4.out ?_
    rw [HCH3.out.block rb (lt_of_blk HY2.out) (by omega)]
    exact HY2.out
  have HEB : Hid (w4.heap[rb + 1]? = some (.cells #[.slice a xs.length c, .int .i64 q, .bool b1] 83 (0, 0))) := kept_block HB4.out HE3.out.box
  rw [hw4, hxb]
  clear hw4 hxb
  have HENC : Hid _ := refEncE_any x w4 HA4.out
  obtain ⟨m0, m1, m2, m3, m4, m5⟩ := cells_6N HXB.out
  go_upto_region 6 with (first
    | (go_at_call 9; refine Calls.mono HENC.out ?_
       rintro e w5 ⟨ea, ec, zs, code, rfl, hcase, hrow5, hb5⟩
       have HZC : Hid (x.Ok ∧ zs = enL x ∧ code = 0 ∨ ¬ x.Ok ∧ zs = [] ∧ code = 30) := hcase
       have HR5 : Hid (w5.ownsRow w4.heap.size 5 1 (.slice ea zs.length ec) zs.length (bv zs)) := hrow5
       have HB5 : Hid (Below w4.heap.size w4 w5) := hb5
       clear hcase hrow5 hb5)
    | fail)
  have HXB5 : Hid (w5.heap[xb]? = some (.cells #[.int .i64 x.st, .int .i64 x.vw, .int .i64 x.K, .int .i64 x.se, .int .i64 x.rq, .slice x.opsA x.ops.length x.opsC] 24 (0, 0))) := kept_block HB5.out HXB.out
  have HY5 : Hid (w5.heap[rb]? = some (.cells #[.int .i64 0, .int .i64 0, .int .i64 0, .int .i64 0, .int .i64 0, .slice none 0 0] 24 (0, 0))) := kept_block HB5.out HY4.out
  have HL5 : Hid (Below rb w w5) := HL4.out.trans (HB5.out.mono (by have := lt_of_blk HEB.out; omega))
  have HR45 : Hid (w5.ownsRow w2.heap.size 60 5 (.slice x.opsA x.ops.length x.opsC) x.ops.length (opCs x.ops)) := owns_below HR4.out HB5.out
  have HDX : Hid (Bys w5 a xs) := by
    refine HBY0.out.below ?_
    rw [HRB.out]
    exact HL5.out
  obtain ⟨ea', ec', he', HZB, hz0, _, hz1, hz2⟩ := bys_of_owns HR5.out
  cases he'
  have HZB5 : Hid (Bys w5 ea zs) := HZB
  have HZL : Hid (zs.length ≤ maxLen) := by show _ ≤ _; omega
  clear m0 m1 m2 m3 m4 m5 HZB hz0 hz1 hz2
  obtain ⟨c0, c1, c2⟩ := cells_3E (kept_block HB5.out HEB.out)
  obtain ⟨m0, m1, m2, m3, m4, m5⟩ := cells_6N HXB5.out
  have hbad : (¬ (b1 = false ∧ x.Ok ∧ enL x = xs)) → ∀ W, Below rb w W → DecE xs w (.returned (.tuple #[zEn.val, .int .i64 30])) W := fun hb W hW => by
    refine ⟨zEn, 30, rfl, ?_, owns_none, zEn_at _, .inr (.inl ⟨HLEN.out, rfl, ⟨rfl, rfl, rfl, rfl, rfl, rfl⟩, fun y hy hd => hb ?_⟩)⟩
    · rw [HRB.out]
      exact hW
    · obtain ⟨h1, h2⟩ := HT.out y hy hd
      exact ⟨h2, EnN.Eq.ok h1 hy, by rw [EnN.Eq.enc h1, hd]⟩
  have HBAD : Hid _ := hbad
  clear hbad
  cases b1 with
  | true =>
    go_wp2_with (first
      | (refine wpList_store_row rfl 24 _ _ rfl rb #[.int .i64 0, .int .i64 0, .int .i64 0, .int .i64 0, .int .i64 0, .slice none 0 0] rfl rfl 24 _ HY5.out (by kernel_rfl) rfl (by first | kernel_rfl | (simp; rfl)) ?_)
      | fail)
    refine bodyPost_ret (results_cellT rfl _ _ rb 24 _ (0, 0) _ _ rfl rfl (row_setA HY5.out) Tryz.underlying24 rfl (by kernel_rfl)) rfl ?_
    exact HBAD.out (by simp) _ (HL5.out.trans ((row_chgA HY5.out).below (Nat.le_of_lt (lt_of_blk HY5.out)) (fun k _ e => by omega)))
  | false =>
  rcases HZC.out with ⟨hok, rfl, rfl⟩ | ⟨hno, rfl, rfl⟩
  rotate_left
  · go_wp2_with (first
      | (refine wpList_store_row rfl 24 _ _ rfl rb #[.int .i64 0, .int .i64 0, .int .i64 0, .int .i64 0, .int .i64 0, .slice none 0 0] rfl rfl 24 _ HY5.out (by kernel_rfl) rfl (by first | kernel_rfl | (simp; rfl)) ?_)
      | fail)
    refine bodyPost_ret (results_cellT rfl _ _ rb 24 _ (0, 0) _ _ rfl rfl (row_setA HY5.out) Tryz.underlying24 rfl (by kernel_rfl)) rfl ?_
    exact HBAD.out (fun h => hno h.2.1) _ (HL5.out.trans ((row_chgA HY5.out).below (Nat.le_of_lt (lt_of_blk HY5.out)) (fun k _ e => by omega)))
  have HSM : Hid _ := sameR ea a ec c (enL x) xs w5 HZB5.out HDX.out HZL.out
  have HOK : Hid (x.Ok) := hok
  clear hok
  by_cases heq : enL x = xs
  · have hde : decide (enL x = xs) = true := decide_eq_true heq
    rw [hde] at HSM
    have HEQ : Hid (enL x = xs) := heq
    clear heq hde HBAD
    go_wp2_with (first
      | (go_at_call 35; refine Calls.mono HSM.out ?_; rintro e w6 ⟨rfl, m, rfl⟩)
      | (refine wpList_store_row rfl 24 _ _ rfl rb #[.int .i64 x.st, .int .i64 x.vw, .int .i64 x.K, .int .i64 x.se, .int .i64 x.rq, .slice x.opsA x.ops.length x.opsC] rfl rfl 24 _ HY5.out (by kernel_rfl) rfl (by first | kernel_rfl | (simp; rfl)) ?_)
      | (refine wpList_store_row (w := w5.drewN m) rfl 24 _ _ rfl rb #[.int .i64 x.st, .int .i64 x.vw, .int .i64 x.K, .int .i64 x.se, .int .i64 x.rq, .slice x.opsA x.ops.length x.opsC] rfl rfl 24 _ HY5.out (by kernel_rfl) rfl (by first | kernel_rfl | (simp; rfl)) ?_)
      | fail)
    have hy6 : (w5.drewN m).heap[rb]? = some (.cells #[.int .i64 0, .int .i64 0, .int .i64 0, .int .i64 0, .int .i64 0, .slice none 0 0] 24 (0, 0)) := HY5.out
    refine bodyPost_ret (results_cellT rfl _ _ rb 24 _ (0, 0) _ _ rfl rfl (row_setA hy6) Tryz.underlying24 rfl (by kernel_rfl)) rfl ?_
    have hr6 : (w5.drewN m).ownsRow w2.heap.size 60 5 (.slice x.opsA x.ops.length x.opsC) x.ops.length (opCs x.ops) := owns_same HR45.out (fun k hk => rfl)
    have hr7 := row_keep2 (cs := #[.int .i64 x.st, .int .i64 x.vw, .int .i64 x.K, .int .i64 x.se, .int .i64 x.rq, .slice x.opsA x.ops.length x.opsC]) hr6 hy6 (by have := HS2.out; omega)
    refine ⟨x, 0, rfl, ?_, owns_mono hr7 (by have := HS2.out; have := HRB.out; omega), at_owns hr7 HLX.out, .inl ⟨HLEN.out, rfl, HOK.out, HEQ.out.symm⟩⟩
    rw [HRB.out]
    exact (below_drewN HL5.out m).trans ((row_chgA hy6).below (Nat.le_of_lt (lt_of_blk hy6)) (fun k _ e => by omega))
  · have hde : decide (enL x = xs) = false := decide_eq_false heq
    rw [hde] at HSM
    go_wp2_with (first
      | (go_at_call 35; refine Calls.mono HSM.out ?_; rintro e w6 ⟨rfl, m, rfl⟩)
      | (refine wpList_store_row rfl 24 _ _ rfl rb #[.int .i64 0, .int .i64 0, .int .i64 0, .int .i64 0, .int .i64 0, .slice none 0 0] rfl rfl 24 _ (show (w5.drewN m).heap[rb]? = _ from HY5.out) (by kernel_rfl) rfl (by first | kernel_rfl | (simp; rfl)) ?_)
      | fail)
    have hy6 : (w5.drewN m).heap[rb]? = some (.cells #[.int .i64 0, .int .i64 0, .int .i64 0, .int .i64 0, .int .i64 0, .slice none 0 0] 24 (0, 0)) := HY5.out
    refine bodyPost_ret (results_cellT rfl _ _ rb 24 _ (0, 0) _ _ rfl rfl (row_setA hy6) Tryz.underlying24 rfl (by kernel_rfl)) rfl ?_
    exact HBAD.out (fun h => heq h.2.2) _ ((below_drewN HL5.out m).trans ((row_chgA hy6).below (Nat.le_of_lt (lt_of_blk hy6)) (fun k _ e => by omega)))
end Go.Proofs.YtdjfeomdiljaeaaGreatDoor
