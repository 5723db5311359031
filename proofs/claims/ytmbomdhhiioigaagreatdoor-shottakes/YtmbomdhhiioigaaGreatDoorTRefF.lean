/-
  tree: the document's Nodes and End.
-/
import Derived.Test.YtmbomdhhiioigaaGreatDoorTRefB
import Derived.Test.YtmbomdhhiioigaaGreatDoorTSnd
import Derived.Test.YtmbomdhhiioigaaGreatDoorTRefM
namespace Go.Proofs.YtmbomdhhiioigaaGreatDoor
open Go.RowKit Go.Maps Go.WideShapes
set_option linter.unusedVariables false
set_option linter.unusedSimpArgs false
attribute [local go_sem ↓] Go.wp_at_zero Go.wp_at_succ

abbrev rtV (a : Option Addr) (n c : Nat) : Value := .agg #[.slice a n c]
end Go.Proofs.YtmbomdhhiioigaaGreatDoor
namespace Go.Proofs.YtmbomdhhiioigaaGreatDoor
open Go.RowKit Go.Maps Go.WideShapes
set_option linter.unusedVariables false
set_option linter.unusedSimpArgs false
attribute [local go_sem ↓] Go.wp_at_zero Go.wp_at_succ

theorem slice_of' {w : World} {B e s n : Nat} {v : Value} {xs : List Value} (h : w.ownsRow B e s v n xs) : ∃ a c, v = .slice a n c := by
  rcases h.2 with ⟨rfl, h0⟩ | ⟨g, cap, cur, rfl, _⟩
  · exact ⟨none, 0, by rw [h0]⟩
  · exact ⟨_, _, rfl⟩
theorem nds_row' {w : World} {B n c : Nat} {a : Option Addr} {T : List Nd} (h : w.ownsRow B 69 7 (.slice a n c) n (T.flatMap Nd.cs)) : NdsAt w a T := by
  have h' := h
  rcases h.2 with ⟨e, h0⟩ | ⟨g, cap, cur, e, _⟩
  · have hl := h.1
    intro i x hx
    exfalso
    have : T = [] := by
      cases T with
      | nil => rfl
      | cons y r =>
        subst h0
        rw [List.flatMap_cons] at hl
        simp at hl
    rw [this] at hx
    simp at hx
  · obtain ⟨rfl, _, rfl⟩ : a = some ⟨g, 0, none⟩ ∧ n = n ∧ c = cap := by simpa using e
    exact nds_of_row h'
theorem endC_take {T : List Nd} {s : Int} {q : Nat} {x : Nd} (hx : T[q]? = some x) : endT (T.take (q + 1)) s = endT (T.take q) s ++ (if x.o = s then [] else [x]) := by
  unfold endT
  rw [List.take_add_one, hx, List.filter_append]
  by_cases h : x.o = s <;> simp [h]
set_option maxHeartbeats 8000000 in
set_option maxRecDepth 100000 in
theorem refEnd_any (a : Option Addr) (c : Nat) (T : List Nd) (s : Int) (w : World) (h : NdsAt w a T) (hT : T.length ≤ 64) (hs : ¬ s < 1) :
    Calls Tryz.prog 12 #[rtV a T.length c, .int .i64 s] w fun e w' => ∃ la lc ca cc, e = .returned (.tuple #[rtV la (endT T s).length lc, .slice ca (endC T s).length cc]) ∧ NdsAt w' la (endT T s) ∧ w'.ownsRow w.heap.size 69 7 (.slice la (endT T s).length lc) (endT T s).length ((endT T s).flatMap Nd.cs) ∧ w'.ownsRow w.heap.size 80 4 (.slice ca (endC T s).length cc) (endC T s).length (chCs (endC T s)) ∧ Below w.heap.size w w' := by
  obtain ⟨i0, hi0, hz0, hz1, hz2⟩ := info_parts Tryz.infoRF
  obtain ⟨j0, hj0, hy0, hy1, hy2⟩ := info_parts Tryz.infoC
  have H : Hid (NdsAt w a T) := h
  obtain ⟨N, hN⟩ : ∃ N, T.length = N := ⟨_, rfl⟩
  have HN : Hid (T.length = N) := hN
  rw [hN] at hT ⊢
  clear h hN
  go_enter Tryz.func12, Tryz.ntmps12
  go_upto_region 1 with fail
  obtain ⟨w1, hw1⟩ : ∃ y, (w.alloc (.cells #[.slice a N c] 26)).alloc (.cells #[.slice none 0 0] 26) = y := ⟨_, rfl⟩
  obtain ⟨tb, htb⟩ : ∃ y, w.heap.size = y := ⟨_, rfl⟩
  have HB1 : Hid (Below w.heap.size w w1) := by rw [← hw1]; exact ((Below.refl _ _).alloc (Nat.le_refl _) _).alloc (by simp) _
  have HX1 : Hid (w1.heap[tb]? = some (.cells #[.slice a N c] 26 (0, 0))) := by rw [← hw1, ← htb]; exact heap_alloc2_old _ _ _
  have HY1 : Hid (w1.heap[tb + 1]? = some (.cells #[.slice none 0 0] 26 (0, 0))) := by rw [← hw1, ← htb]; exact heap_alloc2_new _ _ _
  have HTB : Hid (w.heap.size = tb) := htb
  rw [hw1, htb]
  clear hw1 htb
  go_wp2_with fail
  go_loopw [6, 7, 8] (fun lv cv i wr => ∃ q : Nat, i = .int .i64 q ∧ q ≤ N ∧ Hid (wr.ownsRow w1.heap.size 69 7 lv (endT (T.take q) s).length ((endT (T.take q) s).flatMap Nd.cs)) ∧ Hid (wr.ownsRow w1.heap.size 80 4 cv (endC (T.take q) s).length (chCs (endC (T.take q) s))) ∧ Hid (Below w1.heap.size w1 wr)) (fun _ _ i _ => N - (intOf i).toNat)
  case atStart => exact ⟨0, rfl, Nat.zero_le _, World.ownsRow_nil _ _ _ _, World.ownsRow_nil _ _ _ _, Below.refl _ _⟩
  case round =>
    obtain ⟨q, rfl, hq, HO, HC, HB⟩ := hrel
    have HXr : Hid _ := kept_block HB.out HX1.out
    have t0 := cells_1 HXr.out
    have htl : tb < wr.heap.size := (Array.getElem?_eq_some_iff.1 HXr.out).1
    by_cases hlt : q < N
    · have hlt' : (q : Int) < (N : Int) := by omega
      obtain ⟨x, hx⟩ : ∃ x, T[q]? = some x := ⟨T[q]'(by rw [HN.out]; exact hlt), List.getElem?_eq_getElem _⟩
      obtain ⟨gb, gf, rfl⟩ := H.out.some hx
      obtain ⟨hgl, x0, x1, x2, x3, x4, x5, x6⟩ := (H.out.below (trans2 HB1.out HB.out)).cells hx
      have HT1 : Hid (endT (T.take (q + 1)) s = endT (T.take q) s ++ (if x.o = s then [] else [x])) := endC_take hx
      have HC1 : Hid (endC (T.take (q + 1)) s = endC (T.take q) s ++ (if x.o = s then [⟨3, x.p, ⟨#[]⟩, x.v⟩] else [])) := endC_snoc hx
      have HL1 : Hid ((endT (T.take q) s).length ≤ 64) := by
        show _ ≤ _
        refine Nat.le_trans (List.length_filter_le _ _) ?_
        rw [List.length_take]
        omega
      have HL2 : Hid ((endC (T.take q) s).length ≤ 64) := by
        show _ ≤ _
        unfold endC
        rw [List.length_map]
        refine Nat.le_trans (List.length_filter_le _ _) ?_
        rw [List.length_take]
        omega
      obtain ⟨U, hU⟩ : ∃ U, endT (T.take q) s = U := ⟨_, rfl⟩
      obtain ⟨C, hC⟩ : ∃ C, endC (T.take q) s = C := ⟨_, rfl⟩
      rw [hU] at HO HT1 HL1
      rw [hC] at HC HC1 HL2
      have hs1 := HB.out.size
      clear hx hU hC
      go_upto_region 9 with fail
      obtain ⟨w2, hw2⟩ : ∃ y, wr.alloc (.cells #[.string x.p, .string x.d, .int .i64 x.v, .int .i64 x.m, .int .i64 x.c, .int .i64 x.o, .int .i64 x.k] 69) = y := ⟨_, rfl⟩
      obtain ⟨nb, hnb⟩ : ∃ y, wr.heap.size = y := ⟨_, rfl⟩
      have hb2 : Below wr.heap.size wr w2 := by rw [← hw2]; exact (Below.refl _ _).alloc (Nat.le_refl _) _
      have HX2 : Hid (w2.heap[nb]? = some (.cells #[.string x.p, .string x.d, .int .i64 x.v, .int .i64 x.m, .int .i64 x.c, .int .i64 x.o, .int .i64 x.k] 69 (0, 0))) := by rw [← hw2, ← hnb]; exact heap_alloc_new _ _
      have HO2 : Hid (w2.ownsRow w1.heap.size 69 7 u6 U.length (U.flatMap Nd.cs)) := owns_chg HO.out (Chg.of_below hb2 (fun _ => False)) (fun _ _ => id)
      have HC2 : Hid (w2.ownsRow w1.heap.size 80 4 u7 C.length (chCs C)) := owns_chg HC.out (Chg.of_below hb2 (fun _ => False)) (fun _ _ => id)
      have HB2 : Hid (Below w1.heap.size w1 w2) := trans2 HB.out hb2
      have hs2 := HB2.out.size
      rw [hw2, hnb]
      clear hw2 hnb hb2 x0 x1 x2 x3 x4 x5 x6 t0
      obtain ⟨n0, n1, n2, n3, n4, n5, n6⟩ := cells_7 HX2.out
      by_cases ho : x.o = s
      · have eo : (x.o == s) = true := by simpa using ho
        have HO1 : Hid (x.o = s) := ho
        clear ho
        go_wp2_with (first
          | (at_builtin; refine wpList_append_lies _ rfl _ _ _ rfl w1.heap.size 80 j0 _ 4 48 Tryz.underlying45 hj0 hy0 hy1 hy2 rfl (by omega) u7 C.length (chCs C) rfl (World.ownsRow.alloc HC2.out _) ⟨w2.heap.size, 0, none⟩ 1 1 [.int .i64 3, .string x.p, .string ⟨#[]⟩, .int .i64 x.v] rfl rfl (World.news_of_block (cs := #[.int .i64 3, .string x.p, .string ⟨#[]⟩, .int .i64 x.v]) (t := 80) (fr := (0, 0)) (heap_alloc_new w2 _)) (by simp [Value.oneCell']) (by have := HL2.out; omega) (by have := HL2.out; unfold maxLen; omega) (by have := HL2.out; omega) (by simp; omega) (w2.heap.size + 1) (by simp) ?_
             intro g4 cap4 w4 hown4 hgrow4 hat4 hlt4
             have HN4 : Hid (w4.ownsRow w1.heap.size 80 4 (.slice (some ⟨g4, 0, none⟩) (C.length + 1) cap4) (C.length + 1) (chCs C ++ [.int .i64 3, .string x.p, .string ⟨#[]⟩, .int .i64 x.v])) := hown4
             have HB4 : Hid (Below w1.heap.size w1 w4) := HB2.out.trans (((Below.refl _ _).alloc (by omega) _).grown hgrow4 (by simp; omega) (fun j hj => (HC2.out.lt j hj).1))
             have HO4 : Hid (w4.ownsRow w1.heap.size 69 7 u6 U.length (U.flatMap Nd.cs)) := owns_chg HO2.out ((Chg.alloc _ _ _).trans (Chg.grown hgrow4)) (fun k hk e => by
               obtain ⟨cur, h8⟩ := owns_kind HO2.out hk
               obtain ⟨cur', h9⟩ := owns_kind HC2.out e
               rw [h8] at h9
               simp at h9)
             clear hown4 hgrow4 hat4 hlt4)
          | fail)
        go_roundw
        case rel =>
          refine ⟨q + 1, by go_num, by omega, ?_, ?_, HB4.out⟩
          · show World.ownsRow _ _ _ _ _ _ _
            rw [HT1.out, if_pos HO1.out, List.append_nil]
            exact HO4.out
          · show World.ownsRow _ _ _ _ _ _ _
            rw [HC1.out, if_pos HO1.out, List.length_append]
            have h9 := HN4.out
            simpa [chCs] using h9
        case measure => simp [intOf]; omega
      · have eo : (x.o == s) = false := by simpa using ho
        have HO1 : Hid (¬ x.o = s) := ho
        clear ho
        go_wp2_with (first
          | (at_builtin; refine wpList_append_lies _ rfl _ _ _ rfl w1.heap.size 69 i0 _ 7 72 Tryz.underlying24 hi0 hz0 hz1 hz2 rfl (by omega) u6 U.length (U.flatMap Nd.cs) rfl (World.ownsRow.alloc HO2.out _) ⟨w2.heap.size, 0, none⟩ 1 1 [.string x.p, .string x.d, .int .i64 x.v, .int .i64 x.m, .int .i64 x.c, .int .i64 x.o, .int .i64 x.k] rfl rfl (World.news_of_block (cs := #[.string x.p, .string x.d, .int .i64 x.v, .int .i64 x.m, .int .i64 x.c, .int .i64 x.o, .int .i64 x.k]) (t := 69) (fr := (0, 0)) (heap_alloc_new w2 _)) (by simp [Value.oneCell']) (by have := HL1.out; omega) (by have := HL1.out; unfold maxLen; omega) (by have := HL1.out; omega) (by simp; omega) (w2.heap.size + 1) (by simp) ?_
             intro g4 cap4 w4 hown4 hgrow4 hat4 hlt4
             have HN4 : Hid (w4.ownsRow w1.heap.size 69 7 (.slice (some ⟨g4, 0, none⟩) (U.length + 1) cap4) (U.length + 1) (U.flatMap Nd.cs ++ [.string x.p, .string x.d, .int .i64 x.v, .int .i64 x.m, .int .i64 x.c, .int .i64 x.o, .int .i64 x.k])) := hown4
             have HB4 : Hid (Below w1.heap.size w1 w4) := HB2.out.trans (((Below.refl _ _).alloc (by omega) _).grown hgrow4 (by simp; omega) (fun j hj => (HO2.out.lt j hj).1))
             have HC4 : Hid (w4.ownsRow w1.heap.size 80 4 u7 C.length (chCs C)) := owns_chg HC2.out ((Chg.alloc _ _ _).trans (Chg.grown hgrow4)) (fun k hk e => by
               obtain ⟨cur, h8⟩ := owns_kind HC2.out hk
               obtain ⟨cur', h9⟩ := owns_kind HO2.out e
               rw [h8] at h9
               simp at h9)
             clear hown4 hgrow4 hat4 hlt4)
          | fail)
        go_roundw
        case rel =>
          refine ⟨q + 1, by go_num, by omega, ?_, ?_, HB4.out⟩
          · show World.ownsRow _ _ _ _ _ _ _
            rw [HT1.out, if_neg HO1.out, List.flatMap_append, List.length_append]
            have h9 := HN4.out
            simpa using h9
          · show World.ownsRow _ _ _ _ _ _ _
            rw [HC1.out, if_neg HO1.out, List.append_nil]
            exact HC4.out
        case measure => simp [intOf]; omega
    · obtain rfl : q = N := by omega
      have hO := HO.out
      have hC := HC.out
      rw [List.take_of_length_le (by rw [HN.out]; exact Nat.le_refl _)] at hO hC
      obtain ⟨la, lc, rfl⟩ := slice_of' hO
      obtain ⟨ca, cc, rfl⟩ := slice_of' hC
      have HYr : Hid _ := kept_block HB.out HY1.out
      have hyf := free_1 HYr.out
      have y0 := cells_1 HYr.out
      have HOF : Hid (wr.ownsRow w1.heap.size 69 7 (.slice la (endT T s).length lc) (endT T s).length ((endT T s).flatMap Nd.cs)) := hO
      have HCF : Hid (wr.ownsRow w1.heap.size 80 4 (.slice ca (endC T s).length cc) (endC T s).length (chCs (endC T s))) := hC
      have hyl : tb + 1 < w1.heap.size := (Array.getElem?_eq_some_iff.1 HY1.out).1
      obtain ⟨LN, hLN⟩ : ∃ n, (endT T s).length = n := ⟨_, rfl⟩
      obtain ⟨CN, hCN⟩ : ∃ n, (endC T s).length = n := ⟨_, rfl⟩
      have HLN : Hid ((endT T s).length = LN) := hLN
      have HCN : Hid ((endC T s).length = CN) := hCN
      rw [hLN] at HOF ⊢
      rw [hCN] at HCF ⊢
      clear hO hC hLN hCN
      go_wp2_with fail
      have hset : ∀ {B t sz m : Nat} {v : Value} {xs : List Value}, w1.heap.size ≤ B → wr.ownsRow B t sz v m xs → (wr.setCell ⟨tb + 1, 0, none⟩ (.slice la LN lc)).ownsRow B t sz v m xs := fun hB hr => owns_chg hr (Chg.set _ _ _) (fun k hk e => by
        have := (hr.lt k hk).1
        have e' : k = tb + 1 := e
        omega)
      have hOo := hset (Nat.le_refl _) HOF.out
      have hCo := hset (Nat.le_refl _) HCF.out
      have base : ∀ {W : World} {t sz m : Nat} {v : Value} {xs : List Value}, W.ownsRow w1.heap.size t sz v m xs → W.ownsRow w.heap.size t sz v m xs := fun h9 => ⟨h9.1, h9.2.imp id (fun ⟨g, cap, cur, h1, h2, r⟩ => ⟨g, cap, cur, h1, Nat.le_trans HB1.out.size h2, r⟩)⟩
      exact bodyPost_ret (results_cell_tmp rfl _ _ (tb + 1) 26 _ (0, 0) _ (.slice ca CN cc) rfl rfl (fill_1 HYr.out) Tryz.underlying26 rfl (by kernel_rfl)) rfl ⟨la, lc, ca, cc, by rw [HLN.out, HCN.out], nds_row' hOo, by rw [HLN.out]; exact base hOo, by rw [HCN.out]; exact base hCo, (trans2 HB1.out HB.out).setCell (by rw [HTB.out]; show tb ≤ tb + 1; omega) _⟩
end Go.Proofs.YtmbomdhhiioigaaGreatDoor
