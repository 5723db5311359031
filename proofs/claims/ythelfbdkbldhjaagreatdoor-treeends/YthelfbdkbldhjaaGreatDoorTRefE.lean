/-
  tree: Play, whole; End.
-/
import Derived.Test.YthelfbdkbldhjaaGreatDoorTPlayW
import Derived.Test.YthelfbdkbldhjaaGreatDoorTRefB
namespace Go.Proofs.YthelfbdkbldhjaaGreatDoor
open Go.RowKit Go.Maps Go.WideShapes
set_option linter.unusedVariables false
set_option linter.unusedSimpArgs false
attribute [local go_sem ↓] Go.wp_at_zero Go.wp_at_succ

theorem playT_any (base tb mb n : Nat) (D : DataW Value) (T : List Nd) (s st : Int) (a : Option Addr) (c : Nat) (os : List OpT) (w : World) (hg : GroundT w) (hgc : GroundC w) (hT : TreeAt w base tb mb n D) (hr : Rep D T) (hi : Inv T) (hn : n ≤ 8000) (ho : OpsAt w w.heap.size a os) (hok : ∀ o ∈ os, o.Ok) :
    Calls Tryz.prog 19 #[.pointer (some ⟨tb, 0, none⟩), .int .i64 s, .int .i64 st, .slice a os.length c] w fun e w' => ∃ L rv chV, e = .returned (.tuple #[.agg #[.int .i64 st, .int .i64 (playM T s st os).code, .int .i64 (playM T s st os).at', rv], chV]) ∧ PlayE w base tb mb n (playM T s st os) L rv chV w' := by
  unfold playM
  by_cases hc : mayC s st os.length = 0
  · rw [if_neg (by simpa using hc)]
    exact playT_yes base tb mb n D T s st a c os w hg hgc hT hr hi hn ho hok hc
  · rw [if_pos hc]
    refine Calls.mono (playT_no base tb mb n D T s st a os.length c w hT hr hc) ?_
    rintro e w' ⟨rfl, hb⟩
    exact ⟨[], .slice none 0 0, .slice none 0 0, rfl, PlayE.none hT hr hb⟩
/-- A session ends: the changes, the nodes that stay. -/
def endC (T : List Nd) (s : Int) : List ChT := (T.filter (fun x => decide (x.o = s))).map (fun x => ⟨3, x.p, ⟨#[]⟩, x.v⟩)
def endT (T : List Nd) (s : Int) : List Nd := T.filter (fun x => decide (x.o ≠ s))
theorem endT_inv {T : List Nd} (h : Inv T) (s : Int) : Inv (endT T s) := ⟨h.srt.filter _, Nat.le_trans (List.length_filter_le _ _) h.len, fun y hy => h.nd y (List.mem_filter.1 hy).1⟩
/-- Of the first ones those that go are gone. -/
def endQ (T : List Nd) (s : Int) (q : Nat) : List Nd := (T.take q).filter (fun x => decide (x.o ≠ s)) ++ T.drop q
theorem endQ_stay {T : List Nd} {s : Int} {q : Nat} {x : Nd} (hx : T[q]? = some x) (h : x.o ≠ s) : endQ T s (q + 1) = endQ T s q := by
  have hq := (List.getElem?_eq_some_iff.1 hx).1
  have hd : T.drop q = x :: T.drop (q + 1) := by rw [List.drop_eq_getElem_cons hq]; congr 1; exact (List.getElem?_eq_some_iff.1 hx).2
  unfold endQ
  rw [List.take_add_one, hx, hd]
  simp [List.filter_append, h]
theorem endQ_go {T : List Nd} {s : Int} {q : Nat} {x : Nd} (hnd : (T.map Nd.p).Nodup) (hx : T[q]? = some x) (h : x.o = s) : endQ T s (q + 1) = (endQ T s q).filter (fun y => decide (y.p ≠ x.p)) := by
  have hq := (List.getElem?_eq_some_iff.1 hx).1
  have hd : T.drop q = x :: T.drop (q + 1) := by rw [List.drop_eq_getElem_cons hq]; congr 1; exact (List.getElem?_eq_some_iff.1 hx).2
  have hT : T = T.take q ++ x :: T.drop (q + 1) := by rw [← hd, List.take_append_drop]
  have hnd2 : ((T.take q ++ x :: T.drop (q + 1)).map Nd.p).Nodup := by rw [← hT]; exact hnd
  rw [List.map_append, List.map_cons, List.nodup_append, List.nodup_cons] at hnd2
  have e1 : ∀ y ∈ T.take q, y.p ≠ x.p := fun y hy e => hnd2.2.2 y.p (List.mem_map_of_mem hy) x.p List.mem_cons_self e
  have e2 : ∀ y ∈ T.drop (q + 1), y.p ≠ x.p := fun y hy e => hnd2.2.1.1 (by rw [← e]; exact List.mem_map_of_mem hy)
  unfold endQ
  rw [List.take_add_one, hx, hd, List.filter_append, List.filter_append, List.filter_cons, if_neg (by simp)]
  have h1 : (List.filter (fun x => decide (x.o ≠ s)) (T.take q)).filter (fun y => decide (y.p ≠ x.p)) = List.filter (fun x => decide (x.o ≠ s)) (T.take q) := List.filter_eq_self.2 (fun y hy => by simpa using e1 y (List.mem_filter.1 hy).1)
  have h2 : (T.drop (q + 1)).filter (fun y => decide (y.p ≠ x.p)) = T.drop (q + 1) := List.filter_eq_self.2 (fun y hy => by simpa using e2 y hy)
  rw [h1, h2]
  simp [h]
theorem endC_snoc {T : List Nd} {s : Int} {q : Nat} {x : Nd} (hx : T[q]? = some x) : endC (T.take (q + 1)) s = endC (T.take q) s ++ (if x.o = s then [⟨3, x.p, ⟨#[]⟩, x.v⟩] else []) := by
  unfold endC
  rw [List.take_add_one, hx, List.filter_append, List.map_append]
  by_cases h : x.o = s <;> simp [h]
set_option maxHeartbeats 16000000 in
set_option maxRecDepth 100000 in
theorem end_any (base tb mb n : Nat) (D : DataW Value) (T : List Nd) (s : Int) (w : World) (hT : TreeAt w base tb mb n D) (hr : Rep D T) (hi : Inv T) (hne : T ≠ []) (hn : n ≤ 8000) (hs : 1 ≤ s) :
    Calls Tryz.prog 24 #[.pointer (some ⟨tb, 0, none⟩), .int .i64 s] w fun e w' => ∃ chV mb' D', e = .returned chV ∧ w.heap.size ≤ mb' ∧ TreeAt w' base tb mb' n D' ∧ Rep D' (endT T s) ∧ w'.ownsRow w.heap.size 85 4 chV (endC T s).length (chCs (endC T s)) ∧ Chg w w' (fun k => k = tb) := by
  have HT : Hid _ := hT
  have HNO : Hid _ := isNone_at tb (some mb) w (cells_1 hT.box)
  have hne' : strKeys D ≠ [] := fun e => by
    have h9 := hr.keys
    rw [e] at h9
    have h8 := h9.eq_nil
    simp at h8
    exact hne h8
  have hsz : Maps.size D ≤ 1000000 := by rw [hr.size]; have := hi.len; omega
  have HPL : Hid (∀ W : World, Below w.heap.size w W → _) := fun W hb => places_any mb n D W (hT.below hb).map hsz (fun l hl => (hr.wf hi.sml l hl).1) hne'
  have HON : Hid (∀ ts : List (List UInt8), ts.Perm (strKeys D) → Asc ts → ts = T.map Nd.by) := fun ts h1 h2 => hi.srt.only (h1.trans hr.keys.symm) h2
  have HRP : Hid _ := hr
  have HI : Hid _ := hi
  have HNN : Hid (n ≤ 8000) := hn
  have htl : tb < w.heap.size := (Array.getElem?_eq_some_iff.1 hT.box).1
  have htc := cells_1 hT.box
  have HCL : Hid _ := cloneMap_any mb n D w hT.map
  have hs1 : ¬ s < 1 := by omega
  clear hT hr hi hne hne' hn hsz
  go_enter Tryz.func24, Tryz.ntmps24
  go_upto_region 4 with (first
    | (go_at_call 31; refine Calls.mono HNO.out ?_; rintro e w0 ⟨rfl, rfl⟩)
    | (go_at_call 36; refine Calls.mono HCL.out ?_; rintro e w1 ⟨rfl, hm1, hb1⟩
       have HB1 : Hid (Below w0.heap.size w0 w1) := hb1
       have HM1 : Hid (MapAt w1 w0.heap.size n D) := hm1
       clear hb1 hm1)
    | fail)
  obtain ⟨w2, hw2⟩ : ∃ x, w1.alloc (.cells #[.int .i64 0, .int .i64 0, .map (some w0.heap.size), .slice none 0 0] 93) = x := ⟨_, rfl⟩
  obtain ⟨rb, hrb⟩ : ∃ x, w1.heap.size = x := ⟨_, rfl⟩
  obtain ⟨m1, hm1⟩ : ∃ x, w0.heap.size = x := ⟨_, rfl⟩
  have hb2 : Below w1.heap.size w1 w2 := by rw [← hw2]; exact (Below.refl _ _).alloc (Nat.le_refl _) _
  have HB2 : Hid (Below w0.heap.size w0 w2) := trans2 HB1.out hb2
  have HR2 : Hid (ReqAt w2 w0.heap.size rb m1 n D 0 0 (.slice none 0 0) 0 []) := by
    refine ⟨?_, ?_, World.ownsRow_nil _ _ _ _, HB2.out.size⟩
    · rw [← hw2, ← hrb, ← hm1]; exact heap_alloc_new _ _
    · rw [← hm1]; exact map_below HM1.out hb2
  have hs2 := HB1.out.size
  have hml : m1 < rb := by rw [← hrb, ← hm1]; exact HM1.out.lt
  have hmt : w0.heap.size ≤ m1 := by omega
  rw [hw2, hrb]
  clear hw2 hrb hb2 htc HM1 HCL HNO hs2
  have HM1E : Hid (w0.heap.size = m1) := hm1
  clear hm1
  have htc := cells_1 (HT.out.below HB2.out).box
  go_wp2_with fail
  refine Calls.mono (HPL.out w2 HB2.out) ?_
  rintro e w3 ⟨g, cap, ts, rfl, hp, ha, hrow, hb3⟩
  obtain rfl := HON.out ts hp ha
  have HB3 : Hid (Below w0.heap.size w0 w3) := trans2 HB2.out hb3
  have HR3 : Hid _ := HR2.out.below hb3
  obtain ⟨N, hN⟩ : ∃ N, (T.map Nd.by).length = N := ⟨_, rfl⟩
  have HN : Hid (T.length = N) := by show _ = _; rw [← hN, List.length_map]
  have HNB : Hid (N ≤ 64) := by have h1 := HI.out.len; have h2 := HN.out; show N ≤ 64; omega
  have hN64 : N ≤ 64 := HNB.out
  have HRW : Hid (w3.ownsRow w2.heap.size 9 1 (.slice (some ⟨g, 0, none⟩) N cap) N ((T.map Nd.by).map encStr)) := by rw [← hN]; exact hrow
  rw [hN]
  clear hp ha hrow hb3 hN HPL HON HR2 HB2 htc
  go_wp2_with fail
  go_loopw [27] (fun i wr => ∃ (q : Nat) (D' : DataW Value) (chV' : Value), i = .int .i64 q ∧ q ≤ N ∧ Hid (Rep D' (endQ T s q)) ∧ Hid (ReqAt wr w0.heap.size rb m1 n D' 0 0 chV' (endC (T.take q) s).length (chCs (endC (T.take q) s))) ∧ Hid (wr.ownsRow w2.heap.size 9 1 (.slice (some ⟨g, 0, none⟩) N cap) N ((T.map Nd.by).map encStr)) ∧ Hid (Below w0.heap.size w0 wr)) (fun i _ => N - (intOf i).toNat)
  case atStart => exact ⟨0, D, .slice none 0 0, rfl, Nat.zero_le _, by show Rep _ _; simpa [endQ] using HRP.out, by show ReqAt _ _ _ _ _ _ _ _ _ _ _; simpa [endC, chCs] using HR3.out, HRW.out, HB3.out⟩
  case round =>
    clear HR3 HRW HB3
    obtain ⟨q, D', chV', rfl, hq, HRD, HRq, HRW, HB⟩ := hrel
    by_cases hlt : q < N
    · have hqi : (q : Int) < (N : Int) := by omega
      obtain ⟨x, hx⟩ : ∃ x, T[q]? = some x := ⟨T[q]'(by rw [HN.out]; exact hlt), List.getElem?_eq_getElem _⟩
      have hxT := List.mem_of_getElem? hx
      have hxn := HI.out.nd x hxT
      have hxs := size_of_parse hxn.1
      have hcq : wr.cell? ⟨g, q, none⟩ = some (.string x.p) := by
        rw [HRW.out.cellAt q (by omega), List.getElem?_map, List.getElem?_map, hx]
        show some (Value.string ⟨(Nd.by x).toArray⟩) = _
        congr 2
      have htc := cells_1 (HT.out.below HB.out).box
      have HMk : Hid _ := (HT.out.below HB.out).map
      have hkey : keyOf Tryz.prog 9 (.string x.p) = some (ky x.p) := WideMaps.keyOf_string_mk Tryz.underlying9 (by unfold maxLen; omega)
      have HLK : Hid (look D x.p = fuV x.p x.d x.v x.m x.c x.o x.k) := HRP.out.look x hxT
      have HX : Hid (T[q]? = some x) := hx
      have HXS : Hid (x.p.size ≤ 1000) := by show x.p.size ≤ 1000; omega
      have HCL : Hid ((endC (T.take q) s).length ≤ 64) := by
        show _ ≤ _
        unfold endC
        rw [List.length_map]
        refine Nat.le_trans (List.length_filter_le _ _) ?_
        rw [List.length_take]
        omega
      clear hx hxT hxn hxs
      go_upto_region 8 with (first
        | (at_lookup; refine wpList_lookup_raw _ rfl _ _ 47 rfl 9 45 keyed Tryz.underlying47 (zeroF _) mb n D rfl HMk.out _ _ rfl hkey ?_; intro u ps hu; obtain rfl := look_of hu; rw [HLK.out]; clear hu)
        | fail)
      obtain ⟨w4, hw4⟩ : ∃ y, wr.alloc (.cells #[.string x.p, .string x.d, .int .i64 x.v, .int .i64 x.m, .int .i64 x.c, .int .i64 x.o, .int .i64 x.k] 45) = y := ⟨_, rfl⟩
      obtain ⟨nb, hnb⟩ : ∃ y, wr.heap.size = y := ⟨_, rfl⟩
      rw [hw4, hnb]
      have hb4 : Below wr.heap.size wr w4 := by rw [← hw4]; exact (Below.refl _ _).alloc (Nat.le_refl _) _
      have HB4 : Hid (Below w0.heap.size w0 w4) := trans2 HB.out hb4
      have HR4 : Hid _ := HRq.out.below hb4
      have HRW4 : Hid _ := owns_chg HRW.out (Chg.of_below hb4 (fun _ => False)) (fun _ _ => id)
      have HF4 : Hid (w4.heap[nb]? = some (.cells #[.string x.p, .string x.d, .int .i64 x.v, .int .i64 x.m, .int .i64 x.c, .int .i64 x.o, .int .i64 x.k] 45 (0, 0))) := by rw [← hw4, ← hnb]; exact heap_alloc_new _ _
      clear hw4 hnb hb4 hcq htc hkey
      obtain ⟨a0, a1, a2, a3, a4, a5, a6⟩ := cells_7 HF4.out
      by_cases hos : x.o = s
      · have e1 : (x.o == s) = true := by simpa using hos
        have HOS : Hid (x.o = s) := hos
        clear hos
        go_wp2_with fail
        refine Calls.mono (drop_any w0.heap.size rb m1 n D' 0 0 chV' _ _ x.p x.d x.v x.m x.c x.o x.k w4 HR4.out HXS.out (by have := HNN.out; omega) (by have := HCL.out; omega)) ?_
        rintro e w5 ⟨rfl, chV2, hR5, hL5, hC5⟩
        have HB5 : Hid (Below w0.heap.size w0 w5) := HB4.out.trans (hC5.below HB4.out.size (fun k _ e => by
          rcases e with e | e | e
          · omega
          · omega
          · exact (HR4.out.row.lt k e).1))
        have HRW5 : Hid _ := HR4.out.keeps hC5 HRW4.out (by decide) (by decide)
        have HR5 : Hid _ := hR5
        clear hR5 hL5 hC5 a0 a1 a2 a3 a4 a5 a6
        go_wp2_with fail
        go_roundw
        case rel =>
          refine ⟨q + 1, D'.del (ky x.p), chV2, by go_num, by omega, ?_, ?_, HRW5.out, HB5.out⟩
          · show Rep _ _
            rw [endQ_go HRP.out.nd HX.out HOS.out]
            exact HRD.out.del x.p
          · have h9 := HR5.out
            have e := endC_snoc (s := s) HX.out
            rw [if_pos HOS.out] at e
            have e2 : chCs (endC (T.take (q + 1)) s) = chCs (endC (T.take q) s) ++ [.int .i64 3, .string x.p, .string ⟨#[]⟩, .int .i64 x.v] := by rw [e]; simp [chCs]
            have e3 : (endC (T.take (q + 1)) s).length = (endC (T.take q) s).length + 1 := by rw [e]; simp
            show ReqAt _ _ _ _ _ _ _ _ _ _ _
            rw [e2, e3]
            exact h9
        case measure => simp [intOf]; omega
      · have e1 : (x.o == s) = false := by simpa using hos
        have HOS : Hid (x.o ≠ s) := hos
        clear hos
        go_wp2_with fail
        have hrel2 : ∃ (q' : Nat) (D' : DataW Value) (chV' : Value), Value.int .i64 ((q : Int) + 1) = .int .i64 q' ∧ q' ≤ N ∧ Hid (Rep D' (endQ T s q')) ∧ Hid (ReqAt w4 w0.heap.size rb m1 n D' 0 0 chV' (endC (T.take q') s).length (chCs (endC (T.take q') s))) ∧ Hid (w4.ownsRow w2.heap.size 9 1 (.slice (some ⟨g, 0, none⟩) N cap) N ((T.map Nd.by).map encStr)) ∧ Hid (Below w0.heap.size w0 w4) := by
          have e := endC_snoc (s := s) HX.out
          rw [if_neg HOS.out, List.append_nil] at e
          refine ⟨q + 1, D', chV', by simp, by omega, ?_, ?_, HRW4.out, HB4.out⟩
          · show Rep _ _
            rw [endQ_stay HX.out HOS.out]
            exact HRD.out
          · show ReqAt _ _ _ _ _ _ _ _ _ _ _
            rw [e]
            exact HR4.out
        exact ⟨hrel2, by simp [intOf]; omega⟩
    · obtain rfl : q = N := by omega
      have hge : ¬ (q : Int) < (q : Int) := by omega
      go_upto_region 11 with fail
      obtain ⟨r0, r1, r2, r3⟩ := cells_4 HRq.out.box
      have HTB4 : Hid _ := kept_block HB.out HT.out.box
      have t0 := cells_1 HTB4.out
      have hft := free_1 HTB4.out
      have htr : rb ≠ tb := by omega
      go_upto_region 12 with fail
      obtain ⟨w5, hw5⟩ : ∃ x, wr.setCell ⟨tb, 0, none⟩ (.map (some m1)) = x := ⟨_, rfl⟩
      rw [hw5]
      have HC45 : Hid (Chg wr w5 (fun k => k = tb)) := by rw [← hw5]; exact Chg.set wr ⟨tb, 0, none⟩ _
      have HTB5 : Hid (w5.heap[tb]? = some (.cells #[.map (some m1)] 49 (0, 0))) := by rw [← hw5]; exact same_blk HTB4.out rfl
      have hgb5 : ∀ k, chV'.ownBlock = some k → ¬ k = tb := fun k hk e => by
        obtain ⟨cur, hcur⟩ := owns_kind HRq.out.row hk
        rw [e, HTB4.out] at hcur
        simp at hcur
      have HR5 : Hid _ := HRq.out.chg HC45.out (by omega) (by omega) hgb5
      clear hw5 r0 r1 r2 r3 t0 hft
      obtain ⟨r0, r1, r2, r3⟩ := cells_4 HR5.out.box
      go_wp2_with fail
      go_ret
      have hlo := HT.out.lo
      have eT : T.take q = T := List.take_of_length_le (by rw [HN.out]; exact Nat.le_refl _)
      have eQ : endQ T s q = endT T s := by unfold endQ endT; rw [eT, List.drop_of_length_le (by rw [HN.out]; exact Nat.le_refl _), List.append_nil]
      have h5 := HR5.out
      rw [eT] at h5
      have hrd := HRD.out
      rw [eQ] at hrd
      exact ⟨chV', rfl, m1, hmt, D', ⟨HTB5.out, h5.map, hlo, by omega⟩, hrd, h5.row, ((Chg.of_below HB.out (fun k => k = tb)).trans HC45.out)⟩
end Go.Proofs.YthelfbdkbldhjaaGreatDoor
namespace Go.Proofs.YthelfbdkbldhjaaGreatDoor
open Go.RowKit Go.Maps Go.WideShapes
set_option linter.unusedVariables false
set_option linter.unusedSimpArgs false
attribute [local go_sem ↓] Go.wp_at_zero Go.wp_at_succ

abbrev rtV (a : Option Addr) (n c : Nat) : Value := .agg #[.slice a n c]
set_option maxHeartbeats 8000000 in
set_option maxRecDepth 100000 in
theorem refNodes_any (a : Option Addr) (c : Nat) (T : List Nd) (w : World) (h : NdsAt w a T) (hT : T.length ≤ 64) :
    Calls Tryz.prog 14 #[rtV a T.length c] w fun e w' => ∃ v, e = .returned v ∧ w'.ownsRow w.heap.size 50 7 v T.length (T.flatMap Nd.cs) ∧ Below w.heap.size w w' := by
  obtain ⟨i0, hi0, hz0, hz1, hz2⟩ := info_parts Tryz.infoRF
  have H : Hid (NdsAt w a T) := h
  obtain ⟨N, hN⟩ : ∃ N, T.length = N := ⟨_, rfl⟩
  have HN : Hid (T.length = N) := hN
  rw [hN] at hT ⊢
  clear h hN
  go_enter Tryz.func14, Tryz.ntmps14
  go_upto_region 1 with fail
  obtain ⟨w1, hw1⟩ : ∃ y, w.alloc (.cells #[.slice a N c] 27) = y := ⟨_, rfl⟩
  obtain ⟨tb, htb⟩ : ∃ y, w.heap.size = y := ⟨_, rfl⟩
  have HB1 : Hid (Below w.heap.size w w1) := by rw [← hw1]; exact (Below.refl _ _).alloc (Nat.le_refl _) _
  have HX1 : Hid (w1.heap[tb]? = some (.cells #[.slice a N c] 27 (0, 0))) := by rw [← hw1, ← htb]; exact heap_alloc_new _ _
  have HTB : Hid (w.heap.size = tb) := htb
  rw [hw1, htb]
  clear hw1 htb
  go_wp2_with fail
  go_loopw [3, 4] (fun v i wr => ∃ q : Nat, i = .int .i64 q ∧ q ≤ N ∧ Hid (wr.ownsRow w1.heap.size 50 7 v (T.take q).length ((T.take q).flatMap Nd.cs)) ∧ Hid (Below w1.heap.size w1 wr)) (fun _ i _ => N - (intOf i).toNat)
  case atStart => exact ⟨0, rfl, Nat.zero_le _, World.ownsRow_nil _ _ _ _, Below.refl _ _⟩
  case round =>
    obtain ⟨q, rfl, hq, HO, HB⟩ := hrel
    have HXr : Hid _ := kept_block HB.out HX1.out
    have t0 := cells_1 HXr.out
    by_cases hlt : q < N
    · have hlt' : (q : Int) < (N : Int) := by omega
      obtain ⟨x, hx⟩ : ∃ x, T[q]? = some x := ⟨T[q]'(by rw [HN.out]; exact hlt), List.getElem?_eq_getElem _⟩
      obtain ⟨gb, gf, rfl⟩ := H.out.some hx
      obtain ⟨hgl, x0, x1, x2, x3, x4, x5, x6⟩ := (H.out.below (trans2 HB1.out HB.out)).cells hx
      have HTK : Hid (T.take (q + 1) = T.take q ++ [x]) := by show _ = _; rw [List.take_add_one, hx]; rfl
      have HLL : Hid ((T.take q).length ≤ 64) := by show _ ≤ _; rw [List.length_take]; omega
      obtain ⟨U, hU⟩ : ∃ U, T.take q = U := ⟨_, rfl⟩
      rw [hU] at HO HTK HLL
      have hs := HB.out.size
      clear hx hU
      go_wp2_with (first
        | (at_builtin; refine wpList_append_lies _ rfl _ _ _ rfl w1.heap.size 50 i0 _ 7 72 Tryz.underlying25 hi0 hz0 hz1 hz2 rfl (by omega) u3 U.length (U.flatMap Nd.cs) rfl (World.ownsRow.alloc HO.out _) ⟨wr.heap.size, 0, none⟩ 1 1 [.string x.p, .string x.d, .int .i64 x.v, .int .i64 x.m, .int .i64 x.c, .int .i64 x.o, .int .i64 x.k] rfl rfl (World.news_of_block (cs := #[.string x.p, .string x.d, .int .i64 x.v, .int .i64 x.m, .int .i64 x.c, .int .i64 x.o, .int .i64 x.k]) (t := 50) (fr := (0, 0)) (heap_alloc_new wr _)) (by simp [Value.oneCell']) (by have := HLL.out; omega) (by have := HLL.out; unfold maxLen; omega) (by have := HLL.out; omega) (by simp; omega) (wr.heap.size + 1) (by simp) ?_
           intro g4 cap4 w4 hown4 hgrow4 hat4 hlt4
           have HN4 : Hid (w4.ownsRow w1.heap.size 50 7 (.slice (some ⟨g4, 0, none⟩) (U.length + 1) cap4) (U.length + 1) (U.flatMap Nd.cs ++ [.string x.p, .string x.d, .int .i64 x.v, .int .i64 x.m, .int .i64 x.c, .int .i64 x.o, .int .i64 x.k])) := hown4
           have HB4 : Hid (Below w1.heap.size w1 w4) := HB.out.trans (((Below.refl _ _).alloc (by omega) _).grown hgrow4 (by simp; omega) (fun j hj => (HO.out.lt j hj).1))
           clear hown4 hgrow4 hat4 hlt4)
        | fail)
      go_roundw
      case rel => exact ⟨q + 1, by go_num, by omega, by show World.ownsRow _ _ _ _ _ _ _; rw [HTK.out, List.flatMap_append, List.length_append]; have h9 := HN4.out; simpa using h9, HB4.out⟩
      case measure => simp [intOf]; omega
    · obtain rfl : q = N := by omega
      go_wp2_with fail
      go_ret
      have h9 := HO.out
      rw [List.take_of_length_le (by rw [HN.out]; exact Nat.le_refl _), HN.out] at h9
      refine ⟨_, rfl, ?_, trans2 HB1.out HB.out⟩
      exact ⟨h9.1, h9.2.imp id (fun ⟨g, cap, cur, h1, h2, r⟩ => ⟨g, cap, cur, h1, Nat.le_trans HB1.out.size h2, r⟩)⟩
end Go.Proofs.YthelfbdkbldhjaaGreatDoor
