import Derived.Test.YtbblckcjedjbcaaGreatDoorJWalk9
import Derived.Test.YtbblckcjedjbcaaGreatDoorJPlayG
import Derived.Test.YtbblckcjedjbcaaGreatDoorJSize9
import Derived.Test.YtbblckcjedjbcaaGreatDoorJSame
import Derived.Test.YtbblckcjedjbcaaGreatDoorXSameE
namespace Go.Proofs.YtbblckcjedjbcaaGreatDoor.J
open Go.RowKit Go.Maps
set_option linter.unusedVariables false
set_option linter.unusedSimpArgs false

theorem cells_3W {w : World} {b : Nat} {x0 x1 x2 : Value} {t : TypeId} {fr : Nat × Nat} (h : w.heap[b]? = some (.cells #[x0, x1, x2] t fr)) : w.cell? ⟨b, 0, none⟩ = some x0 ∧ w.cell? ⟨b, 1, none⟩ = some x1 ∧ w.cell? ⟨b, 2, none⟩ = some x2 := by
  refine ⟨?_, ?_, ?_⟩ <;> (rw [cell_blkX h]; rfl)
theorem ext_allocW {w W : World} (h : Below w.heap.size w W) (o : Obj) : Below w.heap.size w (W.alloc o) := h.alloc h.size o
theorem ext_setW {w W : World} {g i : Nat} {v : Value} (h : Below w.heap.size w W) (hg : w.heap.size ≤ g) : Below w.heap.size w (W.setCell ⟨g, i, none⟩ v) := h.setCell hg v
theorem orderR (a b : ByteArray) (ha : a.size ≤ 102) (hb : b.size ≤ 102) (w : World) : Calls Tryz.prog 81 #[.string a, .string b] w fun e w' => e = .returned (.int .i64 (ordL a.data.toList b.data.toList)) ∧ w' = w := by
  refine Calls.mono (ref_any a b (by unfold maxLen; omega) (by unfold maxLen; omega) w) ?_
  rintro e w' ⟨he, hw⟩
  refine ⟨?_, hw⟩
  rw [he, ← O_list]
  rfl
theorem lo_neg (x y : On) : decide (ordL x.p.data.toList y.p.data.toList < 0) = loP x y := by
  unfold loP
  rcases ordL_range x.p.data.toList y.p.data.toList with h | h | h <;> rw [h] <;> rfl
theorem walkX_len (L : List On) : (walkX L).length = L.length := by
  unfold walkX
  suffices h : ∀ (L M : List On), (L.foldl (fun M x => insX x M) M).length = M.length + L.length by simpa using h L []
  intro L
  induction L with
  | nil => intro M; rfl
  | cons x r ih =>
    intro M
    rw [List.foldl_cons, ih, (insX_perm x M).length_eq]
    simp only [List.length_cons]
    omega
theorem walkX_mem (L : List On) (z : On) (h : z ∈ walkX L) : z ∈ L := by
  unfold walkX at h
  suffices g : ∀ (L M : List On), z ∈ L.foldl (fun M x => insX x M) M → z ∈ M ∨ z ∈ L by
    rcases g L [] h with e | e
    · cases e
    · exact e
  intro L
  induction L with
  | nil => exact fun M h => .inl h
  | cons x r ih =>
    intro M h
    rcases ih _ h with e | e
    · rcases insX_mem.1 e with rfl | e
      · exact .inr List.mem_cons_self
      · exact .inl e
    · exact .inr (List.mem_cons_of_mem _ e)
set_option maxHeartbeats 32000000 in
set_option maxRecDepth 100000 in
theorem walk9 (a : Option Addr) (c n : Nat) (L : List On) (w : World) (hP : ∀ x ∈ L, x.p.size ≤ 102) (hL : Ns w (.slice a n c) L) (hn : L.length = n) (hl : n ≤ 100000) :
    Calls Tryz.prog 55 #[xVal (.slice a n c)] w fun e w' => ∃ v, e = .returned v ∧ w'.ownsRow w.heap.size 36 3 v (walkX L).length (scO (walkX L)) ∧ Below w.heap.size w w' := by
  obtain ⟨w2, hw2⟩ : ∃ w2, w.alloc (.cells #[.bool false, .slice a n c] 69) = w2 := ⟨_, rfl⟩
  have HB2 : Hid (Below w.heap.size w w2) := by rw [← hw2]; exact (Below.refl _ _).alloc (Nat.le_refl _) _
  have HA : Hid (w2.heap[w.heap.size]? = some (.cells #[.bool false, .slice a n c] 69 (0, 0))) := by show _ = _; rw [← hw2]; exact heap_alloc_new _ _
  have HL : Hid (Ns w2 (.slice a n c) L) := hL.below HB2.out
  have HN : Hid (L.length = n) := hn
  have HPP : Hid (∀ x ∈ L, x.p.size ≤ 102) := hP
  have HW : Hid (w.alloc (.cells #[.bool false, .slice a n c] 69) = w2) := hw2
  clear hL hn hw2 hP
  go_enter Tryz.func55, Tryz.ntmps55
  go_wp2_with fail
  rw [HW.out]
  go_loopw [3, 4] (fun lv iv wr => ∃ (q : Nat) (la : Option Addr) (lc : Nat), iv = .int .i64 q ∧ q ≤ n ∧ lv = .slice la q lc ∧ Hid (Below w2.heap.size w2 wr) ∧ Hid (wr.ownsRow w2.heap.size 36 3 (.slice la q lc) q (scO (walkX (L.take q))))) (fun _ iv _ => n - (intOf iv).toNat)
  case atStart => exact ⟨0, none, 0, rfl, Nat.zero_le _, rfl, Below.refl _ _, World.ownsRow_nil _ _ _ _⟩
  case round =>
    obtain ⟨q, la, lc, rfl, hq, rfl, HBr, HO⟩ := hrel
    obtain ⟨c0, c1⟩ := cells_2 (kept_block HBr.out HA.out)
    by_cases hlt : q < n
    · have hlt' : (q : Int) < (n : Int) := by omega
      obtain ⟨x, hx⟩ : ∃ x, L[q]? = some x := ⟨L[q]'(by rw [HN.out]; exact hlt), List.getElem?_eq_getElem _⟩
      obtain ⟨g, rfl, n0, n1, n2, n3, n4⟩ := (HL.out.below HBr.out).at HN.out hx
      have HX : Hid (L[q]? = some x) := hx
      have HPX : Hid (x.p.size ≤ 102) := HPP.out x (List.mem_of_getElem? hx)
      have HTX : Hid (walkX (L.take (q + 1)) = insX x (walkX (L.take q))) := by show _ = _; rw [take_snocW hx, walkX_snoc]
      have HQL : Hid ((walkX (L.take q)).length = q) := by show _ = _; rw [walkX_len, List.length_take, HN.out]; omega
      have HQP : Hid (∀ y ∈ walkX (L.take q), y.p.size ≤ 102) := fun y hy => HPP.out y (List.mem_of_mem_take (walkX_mem _ y hy))
      obtain ⟨M, hM⟩ : ∃ M, walkX (L.take q) = M := ⟨_, rfl⟩
      rw [hM] at HO HTX HQL HQP
      clear hx hM
      have HSW : Hid (∀ w', Below wr.heap.size wr w' → w'.cell? ⟨w.heap.size, 0, none⟩ = some (.bool false) ∧ w'.cell? ⟨w.heap.size, 1, none⟩ = some (.slice (some ⟨g, 0, none⟩) n c) ∧ w'.cell? ⟨g, q * 5, none⟩ = some (.int .i64 x.s) ∧ w'.cell? ⟨g, q * 5 + 1, none⟩ = some (.int .i64 x.i) ∧ w'.cell? ⟨g, q * 5 + 2, none⟩ = some (.string x.p)) := fun w' hb => by
        obtain ⟨c0, c1⟩ := cells_2 (kept_block hb (kept_block HBr.out HA.out))
        obtain ⟨g', he, n0, n1, n2, n3, n4⟩ := ((HL.out.below HBr.out).below hb).at HN.out HX.out
        simp only [Option.some.injEq, Addr.mk.injEq, and_true] at he
        subst he
        exact ⟨c0, c1, n0, n1, n2⟩
      clear n0 n1 n2 n3 n4 c0 c1
      obtain ⟨c0, c1, n0, n1, n2⟩ := HSW.out wr (Below.refl _ _)
      go_upto_region 5 with fail
      go_cut [5] from 16 to 37 (fun s5 wc => ∃ g5, s5 = .pointer (some ⟨g5, 0, none⟩) ∧ Hid (wc.heap[g5]? = some (.cells #[.string x.p, .int .i64 x.s, .int .i64 x.i] 36 (0, 0))) ∧ Hid (Below wr.heap.size wr wc))
      case first =>
        go_region_held3 (fun w' => w'.cell? ⟨w.heap.size, 0, none⟩ = some (.bool false) ∧ w'.cell? ⟨w.heap.size, 1, none⟩ = some (.slice (some ⟨g, 0, none⟩) n c) ∧ w'.cell? ⟨g, q * 5, none⟩ = some (.int .i64 x.s) ∧ w'.cell? ⟨g, q * 5 + 1, none⟩ = some (.int .i64 x.i) ∧ w'.cell? ⟨g, q * 5 + 2, none⟩ = some (.string x.p))
          (first
          | (refine HSW.out _ ?_; repeat (first | exact Below.refl _ _ | refine below_drew ?_ | refine ext_allocW ?_ _ | refine ext_setW ?_ (Nat.le_refl _)))
          | go_keep)
          (fail)
        all_goals (
          go_wp2_with fail
          go_meet
          case rel =>
            first
            | exact ⟨_, rfl, heap_alloc_new _ _, ext_allocW (below_drew (Below.refl _ _)) _⟩
            | fail)
      case rest =>
        obtain ⟨g5, rfl, HB5, HBc⟩ := hcut
        clear c0 c1 n0 n1 n2
        obtain ⟨w3, hw3⟩ : ∃ w3, w3 = wc := ⟨_, rfl⟩
        subst hw3
        have HB3 : Hid (Below w2.heap.size w2 w3) := xtrans2 HBr.out HBc.out
        have HO3 : Hid (w3.ownsRow w2.heap.size 36 3 (.slice la q lc) q (scO M)) := owns_below HO.out HBc.out
        go_wp2_with fail
        go_loopw [6, 7, 8] (fun mv dv kv wr => ∃ (k : Nat) (dn : Bool) (N : List On), kv = .int .i64 k ∧ k ≤ q ∧ dv = .bool dn ∧ Hid (InX x M k dn N) ∧ Hid (Below w3.heap.size w3 wr) ∧ Hid (wr.ownsRow w3.heap.size 36 3 mv N.length (scO N))) (fun _ _ kv _ => q - (intOf kv).toNat)
        case atStart => exact ⟨0, false, [], rfl, Nat.zero_le _, rfl, inX_start x M, Below.refl _ _, World.ownsRow_nil _ _ _ _⟩
        case round =>
          obtain ⟨k, dn, N, rfl, hk, rfl, HI, HBk, HOk⟩ := hrel
          have HNL : Hid (N.length ≤ 100001) := by show _ ≤ _; have := inX_len HI.out; have := HQL.out; omega
          have HBM : Hid (Below w2.heap.size w2 wr) := xtrans2 HB3.out HBk.out
          have HG5 : Hid (wr.heap[g5]? = some (.cells #[.string x.p, .int .i64 x.s, .int .i64 x.i] 36 (0, 0))) := kept_block HBk.out HB5.out
          obtain ⟨x0, x1, x2⟩ := cells_3W HG5.out
          by_cases hlk : k < q
          · have hlki : (k : Int) < (q : Int) := by omega
            obtain ⟨y, hy⟩ : ∃ y, M[k]? = some y := ⟨M[k]'(by rw [HQL.out]; exact hlk), List.getElem?_eq_getElem _⟩
            have HY : Hid (M[k]? = some y) := hy
            have HPY : Hid (y.p.size ≤ 102) := HQP.out y (List.mem_of_getElem? hy)
            have hrow := owns_below HO3.out HBk.out
            obtain ⟨gm, rfl⟩ := row_addr hrow (by omega)
            have HRW : Hid (∀ w', Below w3.heap.size w3 w' → w'.cell? ⟨g5, 0, none⟩ = some (.string x.p) ∧ w'.cell? ⟨g5, 1, none⟩ = some (.int .i64 x.s) ∧ w'.cell? ⟨g5, 2, none⟩ = some (.int .i64 x.i) ∧ w'.cell? ⟨gm, k * 3, none⟩ = some (.string y.p) ∧ w'.cell? ⟨gm, k * 3 + 1, none⟩ = some (.int .i64 y.s) ∧ w'.cell? ⟨gm, k * 3 + 2, none⟩ = some (.int .i64 y.i)) := fun w' hb => by
              have hr := owns_below HO3.out hb
              obtain ⟨x0, x1, x2⟩ := cells_3W (kept_block hb HB5.out)
              exact ⟨x0, x1, x2, cell_n hr (scO_at M k 0 y _ HY.out rfl), cell_n hr (scO_at M k 1 y _ HY.out rfl), cell_n hr (scO_at M k 2 y _ HY.out rfl)⟩
            clear hy hrow x0 x1 x2
            obtain ⟨x0, x1, x2, y0, y1, y2⟩ := HRW.out wr HBk.out
            cases dn with
            | true =>
              have HJ : Hid (InX x M (k + 1) true (N ++ [y])) := inX_done HI.out HY.out
              go_wp2_with fail
              go_quiet (fail)
              go_wp2_with (first
                | (at_builtin; refine wpList_appS rfl _ _ rfl w3.heap.size u6 N rfl (owns_below HOk.out ((below_drewN (Below.refl _ _) _).alloc (Nat.le_refl _) _)) wr.heap.size y rfl (heap_alloc_new (wr.drewN _) _) (by have := HNL.out; omega) (by have := HBk.out.size; simp; omega) ?_
                   intro v7 w7 ho7 hb7
                   have HO7 : Hid _ := ho7
                   have HB7 : Hid (Below w3.heap.size w3 w7) := ((below_drewN HBk.out _).alloc HBk.out.size _).trans hb7
                   clear ho7 hb7 x0 x1 x2 y0 y1 y2)
                | fail)
              go_roundw
              case rel => exact ⟨k + 1, true, _, by go_num, by omega, rfl, HJ, HB7, HO7⟩
              case measure => simp [intOf]; omega
            | false =>
              obtain ⟨r, hr⟩ : ∃ r, ordL x.p.data.toList y.p.data.toList = r := ⟨_, rfl⟩
              have HOR : Hid (∀ W, Calls Tryz.prog 81 #[.string x.p, .string y.p] W fun e w' => e = .returned (.int .i64 r) ∧ w' = W) := fun W => by
                have h7 := orderR x.p y.p HPX.out HPY.out W
                rw [hr] at h7
                exact h7
              have hlo := lo_neg x y
              rw [hr] at hlo
              clear hr
              by_cases hneg : r < 0
              · have hl1 : loP x y = true := by rw [← hlo]; simpa using hneg
                have HJ : Hid (InX x M (k + 1) true (N ++ [x] ++ [y])) := inX_put HI.out HY.out hl1
                clear hl1 hlo
                have HB5' : Hid (Below wr.heap.size wr wr) := Below.refl _ _
                go_wp2_with fail
                go_region_held3 (fun w' => w'.cell? ⟨g5, 0, none⟩ = some (.string x.p) ∧ w'.cell? ⟨g5, 1, none⟩ = some (.int .i64 x.s) ∧ w'.cell? ⟨g5, 2, none⟩ = some (.int .i64 x.i) ∧ w'.cell? ⟨gm, k * 3, none⟩ = some (.string y.p) ∧ w'.cell? ⟨gm, k * 3 + 1, none⟩ = some (.int .i64 y.s) ∧ w'.cell? ⟨gm, k * 3 + 2, none⟩ = some (.int .i64 y.i))
                  (first
                  | (refine HRW.out _ ?_; repeat (first | exact HBk.out | exact xtrans2 HBk.out HB5'.out | refine below_drewN ?_ _ | refine below_drew ?_))
                  | go_keep)
                  (first
                  | (go_at_call 81; refine Calls.mono (HOR.out _) ?_; rintro e w5 ⟨rfl, hw5⟩
                     clear HB5'
                     have HB5' : Hid (Below wr.heap.size wr w5) := (by rw [hw5]; first | exact below_drew (Below.refl _ _) | exact below_drewN (Below.refl _ _) _ | exact Below.refl _ _)
                     clear hw5))
                clear x0 x1 x2 y0 y1 y2
                obtain ⟨x0, x1, x2, y0, y1, y2⟩ := HRW.out w5 (xtrans2 HBk.out HB5'.out)
                have HB9 : Hid (Below w3.heap.size w3 w5) := xtrans2 HBk.out HB5'.out
                have HO9 : Hid (w5.ownsRow w3.heap.size 36 3 u6 N.length (scO N)) := owns_below HOk.out HB5'.out
                go_wp2_with (first
                  | (at_builtin; refine wpList_appS rfl _ _ rfl w3.heap.size u6 N rfl (owns_below HO9.out ((Below.refl _ _).alloc (Nat.le_refl _) _)) w5.heap.size x rfl (heap_alloc_new _ _) (by have := HNL.out; omega) (by have := HB9.out.size; simp; omega) ?_
                     intro v7 w7 ho7 hb7
                     have HO7 : Hid _ := ho7
                     have HB7 : Hid (Below w3.heap.size w3 w7) := (HB9.out.alloc HB9.out.size _).trans hb7
                     clear ho7 hb7 x0 x1 x2 y0 y1 y2
                     obtain ⟨x0, x1, x2, y0, y1, y2⟩ := HRW.out w7 HB7.out)
                  | (at_builtin; refine wpList_appS rfl _ _ rfl w3.heap.size v7 (N ++ [x]) rfl (owns_below HO7.out ((Below.refl _ _).alloc (Nat.le_refl _) _)) w7.heap.size y rfl (heap_alloc_new _ _) (by have := HNL.out; simp; omega) (by have := HB7.out.size; simp; omega) ?_
                     intro v8 w8 ho8 hb8
                     have HO8 : Hid _ := ho8
                     have HB8 : Hid (Below w3.heap.size w3 w8) := (HB7.out.alloc HB7.out.size _).trans hb8
                     clear ho8 hb8 x0 x1 x2 y0 y1 y2)
                  | fail)
                go_roundw
                case rel => exact ⟨k + 1, true, _, by go_num, by omega, rfl, HJ, HB8, HO8⟩
                case measure => simp [intOf]; omega
              · have hl1 : loP x y = false := by rw [← hlo]; simpa using hneg
                have HJ : Hid (InX x M (k + 1) false (N ++ [y])) := inX_pass HI.out HY.out hl1
                clear hl1 hlo
                have HB5' : Hid (Below wr.heap.size wr wr) := Below.refl _ _
                go_wp2_with fail
                go_region_held3 (fun w' => w'.cell? ⟨g5, 0, none⟩ = some (.string x.p) ∧ w'.cell? ⟨g5, 1, none⟩ = some (.int .i64 x.s) ∧ w'.cell? ⟨g5, 2, none⟩ = some (.int .i64 x.i) ∧ w'.cell? ⟨gm, k * 3, none⟩ = some (.string y.p) ∧ w'.cell? ⟨gm, k * 3 + 1, none⟩ = some (.int .i64 y.s) ∧ w'.cell? ⟨gm, k * 3 + 2, none⟩ = some (.int .i64 y.i))
                  (first
                  | (refine HRW.out _ ?_; repeat (first | exact HBk.out | exact xtrans2 HBk.out HB5'.out | refine below_drewN ?_ _ | refine below_drew ?_))
                  | go_keep)
                  (first
                  | (go_at_call 81; refine Calls.mono (HOR.out _) ?_; rintro e w5 ⟨rfl, hw5⟩
                     clear HB5'
                     have HB5' : Hid (Below wr.heap.size wr w5) := (by rw [hw5]; first | exact below_drew (Below.refl _ _) | exact below_drewN (Below.refl _ _) _ | exact Below.refl _ _)
                     clear hw5))
                clear x0 x1 x2 y0 y1 y2
                obtain ⟨x0, x1, x2, y0, y1, y2⟩ := HRW.out w5 (xtrans2 HBk.out HB5'.out)
                have HB9 : Hid (Below w3.heap.size w3 w5) := xtrans2 HBk.out HB5'.out
                have HO9 : Hid (w5.ownsRow w3.heap.size 36 3 u6 N.length (scO N)) := owns_below HOk.out HB5'.out
                go_wp2_with (first
                  | (at_builtin; refine wpList_appS rfl _ _ rfl w3.heap.size u6 N rfl (owns_below HO9.out ((Below.refl _ _).alloc (Nat.le_refl _) _)) w5.heap.size y rfl (heap_alloc_new _ _) (by have := HNL.out; omega) (by have := HB9.out.size; simp; omega) ?_
                     intro v7 w7 ho7 hb7
                     have HO7 : Hid _ := ho7
                     have HB7 : Hid (Below w3.heap.size w3 w7) := (HB9.out.alloc HB9.out.size _).trans hb7
                     clear ho7 hb7 x0 x1 x2 y0 y1 y2)
                  | fail)
                go_roundw
                case rel => exact ⟨k + 1, false, _, by go_num, by omega, rfl, HJ, HB7, HO7⟩
                case measure => simp [intOf]; omega
          · have hge : ¬ (k : Int) < (q : Int) := by omega
            have he := inX_end HI.out (by rw [HQL.out]; omega)
            cases dn with
            | true =>
              have HE : Hid (walkX (L.take (q + 1)) = N) := by show _ = _; rw [HTX.out, he]; rfl
              have HNQ : Hid (N.length = q + 1) := by show _ = _; rw [← HE.out, walkX_len, List.length_take, HN.out]; omega
              have ho := HOk.out
              rw [HNQ.out] at ho
              obtain ⟨a6, c6, rfl⟩ := owns_shape ho
              have HO6 : Hid _ := ho
              clear ho he
              go_wp2_with fail
              go_roundw
              case rel =>
                refine ⟨q + 1, a6, c6, by go_num, by omega, rfl, HBM, ?_⟩
                show World.ownsRow _ _ _ _ _ _ _
                rw [HE.out]
                exact owns_lo HO6.out HB3.out.size
              case measure => simp [intOf]; omega
            | false =>
              have HE : Hid (walkX (L.take (q + 1)) = N ++ [x]) := by show _ = _; rw [HTX.out, he]; rfl
              have HNQ : Hid ((N ++ [x]).length = q + 1) := by show _ = _; rw [← HE.out, walkX_len, List.length_take, HN.out]; omega
              clear he
              go_wp2_with (first
                | (at_builtin; refine wpList_appS rfl _ _ rfl w3.heap.size u6 N rfl (owns_below HOk.out ((Below.refl _ _).alloc (Nat.le_refl _) _)) wr.heap.size x rfl (heap_alloc_new _ _) (by have := HNL.out; omega) (by have := HBk.out.size; simp; omega) ?_
                   intro v7 w7 ho7 hb7
                   rw [HNQ.out] at ho7
                   obtain ⟨a6, c6, rfl⟩ := owns_shape ho7
                   have HO6 : Hid _ := ho7
                   have HB7 : Hid (Below w2.heap.size w2 w7) := xtrans2 HB3.out ((HBk.out.alloc HBk.out.size _).trans hb7)
                   clear ho7 hb7 x0 x1 x2)
                | fail)
              go_roundw
              case rel =>
                refine ⟨q + 1, a6, c6, by go_num, by omega, rfl, HB7, ?_⟩
                show World.ownsRow _ _ _ _ _ _ _
                rw [HE.out]
                exact owns_lo HO6.out HB3.out.size
              case measure => simp [intOf]; omega
    · have hge : ¬ (q : Int) < (n : Int) := by omega
      have HTK : Hid (L.take q = L) := List.take_of_length_le (by rw [HN.out]; omega)
      have HQN : Hid (q = (walkX L).length) := by show _ = _; rw [walkX_len, HN.out]; omega
      go_wp2_with fail
      go_ret
      refine ⟨_, rfl, ?_, xtrans2 HB2.out HBr.out⟩
      have h1 := HO.out
      rw [HTK.out] at h1
      rw [← HQN.out]
      exact owns_lo h1 HB2.out.size
end Go.Proofs.YtbblckcjedjbcaaGreatDoor.J
namespace Go.Proofs.YtbblckcjedjbcaaGreatDoor.J
open Go.RowKit Go.Maps
set_option linter.unusedVariables false
set_option linter.unusedSimpArgs false

theorem mat_len (L : List On) (stamp ck : Int) (cp : ByteArray) : (matO L stamp ck cp).length ≤ L.length := by
  unfold matO
  rw [List.length_map]
  exact List.length_filter_le _ _
theorem was_len (L : List On) (s : Int) : (wasO L s).length ≤ L.length := by
  unfold wasO ofO
  rw [List.length_map]
  exact List.length_filter_le _ _
set_option maxHeartbeats 6400000 in
set_option maxRecDepth 100000 in
theorem playH_5 (C : Nat → Prop) (B X : Nat) (a : Option Addr) (c n : Nat) (L : List On) (s i : Int) (p : ByteArray) (k f : Int) (w : World) (hP : Pr w C B X (.slice a n c) L) (hn : L.length = n) (hlen : L.length ≤ 1000) (hwf : wfI s) :
    Calls Tryz.prog 25 #[ndV B, .pointer (some ⟨X, 0, none⟩), .agg #[.int .i64 5, .int .i64 s, .int .i64 i, .string p, .int .i64 k, .int .i64 f]] w fun e w' => e = .returned (.bool true) ∧ Below w.heap.size w w' := by
  have hl : n ≤ 100000 := by omega
  obtain ⟨w0, hw0⟩ : ∃ w0, w.alloc (.cells #[.int .i64 5, .int .i64 s, .int .i64 i, .string p, .int .i64 k, .int .i64 f] 72) = w0 := ⟨_, rfl⟩
  have HB0 : Hid (Below w.heap.size w w0) := by rw [← hw0]; exact (Below.refl _ _).alloc (Nat.le_refl _) _
  have hb0 : w0.heap[w.heap.size]? = some (.cells #[.int .i64 5, .int .i64 s, .int .i64 i, .string p, .int .i64 k, .int .i64 f] 72 (0, 0)) := by rw [← hw0]; exact heap_alloc_new _ _
  have HA0 : Hid (w0.heap[w.heap.size]? = some (.cells #[.int .i64 5, .int .i64 s, .int .i64 i, .string p, .int .i64 k, .int .i64 f] 72 (0, 0))) := hb0
  have HP0 : Hid (Pr w0 C B X (.slice a n c) L) := hP.below HB0.out
  have HX0 : Hid (w0.heap[X]? = some (.cells #[.bool false, .slice a n c] 69 (0, 0))) := HP0.out.box
  obtain ⟨a0, a1, a2, a3, a4, a5⟩ := cells_6 hb0
  obtain ⟨c0, c1⟩ := cells_2 HX0.out
  have HW : Hid (w.alloc (.cells #[.int .i64 5, .int .i64 s, .int .i64 i, .string p, .int .i64 k, .int .i64 f] 72) = w0) := hw0
  clear hP hb0
  have HON : Hid _ := ofA w0 C B L s HP0.out.at' hlen hwf
  obtain ⟨ts, hts⟩ : ∃ ts, wasO L s = ts := ⟨_, rfl⟩
  have htl : ts.length ≤ 100000 := by rw [← hts]; have := was_len L s; omega
  have HO0 : Hid (∀ W, Below w0.heap.size w0 W → _) := fun W hb => of9 a c n L s W (HP0.out.row.below hb) hn hl
  have HST : Hid (∀ (W : World) (v u : Value), W.ownsRow 0 40 4 v ts.length (waCs ts) → W.ownsRow 0 40 4 u ts.length (waCs ts) → _) := fun W v u h1 h2 => sameWatchesQ v u ts W h1 h2 htl
  rw [hts] at HON HO0
  have HSW' : Hid (∀ w', Below w0.heap.size w0 w' → w'.cell? ⟨X, 0, none⟩ = some (.bool false) ∧ w'.cell? ⟨X, 1, none⟩ = some (.slice a n c) ∧ w'.cell? ⟨w.heap.size, 1, none⟩ = some (.int .i64 s)) := fun w' hb => by
    obtain ⟨a0, a1, a2, a3, a4, a5⟩ := cells_6 (kept_block hb HA0.out)
    obtain ⟨c0, c1⟩ := cells_2 (kept_block hb HX0.out)
    exact ⟨c0, c1, a1⟩
  clear hts htl
  go_enter Tryz.func25, Tryz.ntmps25
  rw [← hw0] at a0 a1 a2 a3 a4 a5 c0 c1
  clear hw0
  go_upto_region 20 with (first
    | (go_at_call 14; rw [HW.out]; refine Calls.mono HON.out ?_; rintro e w3 ⟨v3, rfl, ho3, hb3⟩
       have HB3 : Hid (Below w0.heap.size w0 w3) := hb3
       have HV3 : Hid (w3.ownsRow 0 40 4 v3 ts.length (waCs ts)) := owns_lo ho3 (Nat.zero_le _)
       clear hb3 ho3 a0 a1 a2 a3 a4 a5 c0 c1)
    | fail)
  have HSW : Hid (∀ w', Below w3.heap.size w3 w' → w'.cell? ⟨X, 0, none⟩ = some (.bool false) ∧ w'.cell? ⟨X, 1, none⟩ = some (.slice a n c) ∧ w'.cell? ⟨w.heap.size, 1, none⟩ = some (.int .i64 s)) := fun w' hb => HSW'.out w' (xtrans2 HB3.out hb)
  obtain ⟨c0, c1, a1⟩ := HSW.out w3 (Below.refl _ _)
  have HB4 : Hid (Below w3.heap.size w3 w3) := Below.refl _ _
  have HB5 : Hid (Below w3.heap.size w3 w3) := Below.refl _ _
  go_region_held3 (fun w' => w'.cell? ⟨X, 0, none⟩ = some (.bool false) ∧ w'.cell? ⟨X, 1, none⟩ = some (.slice a n c) ∧ w'.cell? ⟨w.heap.size, 1, none⟩ = some (.int .i64 s))
      (first
      | (refine HSW.out _ ?_; repeat (first | exact Below.refl _ _ | exact HB5.out | exact HB4.out | refine below_drewN ?_ _ | refine below_drew ?_))
      | go_keep)
      (first
      | (go_at_call 53; refine Calls.mono (HO0.out _ (by first | exact below_drew HB3.out | exact HB3.out)) ?_; rintro e w4 ⟨v4, rfl, ho4, hb4⟩
         clear HB4
         have HB4 : Hid (Below w3.heap.size w3 w4) := (by first | exact of_drew hb4 | exact hb4)
         have HV4 : Hid (w4.ownsRow 0 40 4 v3 ts.length (waCs ts)) := owns_below HV3.out HB4.out
         have HU4 : Hid (w4.ownsRow 0 40 4 v4 ts.length (waCs ts)) := owns_lo ho4 (Nat.zero_le _)
         clear hb4 ho4)
      | (go_at_call 20; refine Calls.mono (HST.out _ _ _ (by first | exact HV4.out | exact owns_below HV4.out (below_drewN (Below.refl _ _) _)) (by first | exact HU4.out | exact owns_below HU4.out (below_drewN (Below.refl _ _) _))) ?_; rintro e w5 ⟨rfl, m5, hw5⟩
         clear HB5
         have HB5 : Hid (Below w3.heap.size w3 w5) := (by rw [hw5]; first | exact below_drewN HB4.out _ | exact below_drewN (below_drew HB4.out) _)
         clear hw5))
  go_wp2_with fail
  go_ret
  exact ⟨rfl, xtrans2 HB0.out (xtrans2 HB3.out HB5.out)⟩
set_option maxHeartbeats 6400000 in
set_option maxRecDepth 100000 in
theorem playH_6 (C : Nat → Prop) (B X : Nat) (a : Option Addr) (c n : Nat) (L : List On) (s i : Int) (p : ByteArray) (k f : Int) (w : World) (hP : Pr w C B X (.slice a n c) L) (hn : L.length = n) (hlen : L.length ≤ 1000) (hwf : wfI s) :
    Calls Tryz.prog 25 #[ndV B, .pointer (some ⟨X, 0, none⟩), .agg #[.int .i64 6, .int .i64 s, .int .i64 i, .string p, .int .i64 k, .int .i64 f]] w fun e w' => e = .returned (.bool true) ∧ Below w.heap.size w w' := by
  have hl : n ≤ 100000 := by omega
  obtain ⟨w0, hw0⟩ : ∃ w0, w.alloc (.cells #[.int .i64 6, .int .i64 s, .int .i64 i, .string p, .int .i64 k, .int .i64 f] 72) = w0 := ⟨_, rfl⟩
  have HB0 : Hid (Below w.heap.size w w0) := by rw [← hw0]; exact (Below.refl _ _).alloc (Nat.le_refl _) _
  have hb0 : w0.heap[w.heap.size]? = some (.cells #[.int .i64 6, .int .i64 s, .int .i64 i, .string p, .int .i64 k, .int .i64 f] 72 (0, 0)) := by rw [← hw0]; exact heap_alloc_new _ _
  have HA0 : Hid (w0.heap[w.heap.size]? = some (.cells #[.int .i64 6, .int .i64 s, .int .i64 i, .string p, .int .i64 k, .int .i64 f] 72 (0, 0))) := hb0
  have HP0 : Hid (Pr w0 C B X (.slice a n c) L) := hP.below HB0.out
  have HX0 : Hid (w0.heap[X]? = some (.cells #[.bool false, .slice a n c] 69 (0, 0))) := HP0.out.box
  obtain ⟨a0, a1, a2, a3, a4, a5⟩ := cells_6 hb0
  obtain ⟨c0, c1⟩ := cells_2 HX0.out
  have HW : Hid (w.alloc (.cells #[.int .i64 6, .int .i64 s, .int .i64 i, .string p, .int .i64 k, .int .i64 f] 72) = w0) := hw0
  clear hP hb0
  have HON : Hid (∀ W, Below w0.heap.size w0 W → _) := fun W hb => sizeA W C B L (HP0.out.at'.below hb) hlen
  have HO0 : Hid (∀ W, Below w0.heap.size w0 W → _) := fun W hb => size9 a c n L W HP0.out.at'.ok (HP0.out.row.below hb) hn hl
  have HSW : Hid (∀ w', Below w0.heap.size w0 w' → w'.cell? ⟨X, 0, none⟩ = some (.bool false) ∧ w'.cell? ⟨X, 1, none⟩ = some (.slice a n c)) := fun w' hb => cells_2 (kept_block hb HX0.out)
  go_enter Tryz.func25, Tryz.ntmps25
  rw [← hw0] at a0 a1 a2 a3 a4 a5 c0 c1
  clear hw0
  go_upto_region 22 with fail
  rw [HW.out] at c0 c1 ⊢
  clear a0 a1 a2 a3 a4 a5
  have HB4 : Hid (Below w0.heap.size w0 w0) := Below.refl _ _
  have HB5 : Hid (Below w0.heap.size w0 w0) := Below.refl _ _
  go_region_held3 (fun w' => w'.cell? ⟨X, 0, none⟩ = some (.bool false) ∧ w'.cell? ⟨X, 1, none⟩ = some (.slice a n c))
      (first
      | (refine HSW.out _ ?_; repeat (first | exact Below.refl _ _ | exact HB5.out | exact HB4.out | refine below_drewN ?_ _ | refine below_drew ?_))
      | go_keep)
      (first
      | (go_at_call 54; refine Calls.mono (HO0.out _ (by first | exact HB5.out | exact below_drew HB5.out | exact below_drewN HB5.out _)) ?_; rintro e w4 ⟨rfl, hb4⟩
         clear HB4
         have HB4 : Hid (Below w0.heap.size w0 w4) := (by first | exact of_drew hb4 | exact xtrans2 HB5.out hb4 | exact xtrans2 (below_drew HB5.out) hb4 | exact xtrans2 (below_drewN HB5.out _) hb4)
         clear hb4)
      | (go_at_call 27; refine Calls.mono (HON.out _ (by first | exact HB4.out | exact below_drew HB4.out | exact below_drewN HB4.out _)) ?_; rintro e w5 ⟨rfl, hb5⟩
         clear HB5
         have HB5 : Hid (Below w0.heap.size w0 w5) := (by first | exact of_drew hb5 | exact xtrans2 HB4.out hb5 | exact xtrans2 (below_drew HB4.out) hb5 | exact xtrans2 (below_drewN HB4.out _) hb5)
         clear hb5))
  all_goals
    go_wp2_with fail
    go_ret
    exact ⟨by simp, xtrans2 HB0.out (by first | exact HB4.out | exact HB5.out | exact below_drew HB4.out | exact below_drewN HB4.out _ | exact below_drew HB5.out | exact below_drewN HB5.out _)⟩
set_option maxHeartbeats 6400000 in
set_option maxRecDepth 100000 in
theorem playH_4 (C : Nat → Prop) (B X : Nat) (a : Option Addr) (c n : Nat) (L : List On) (s i : Int) (p : ByteArray) (k f : Int) (w : World) (hP : Pr w C B X (.slice a n c) L) (hn : L.length = n) (hlen : L.length ≤ 1000) (hwf : wfI s) :
    Calls Tryz.prog 25 #[ndV B, .pointer (some ⟨X, 0, none⟩), .agg #[.int .i64 4, .int .i64 s, .int .i64 i, .string p, .int .i64 k, .int .i64 f]] w fun e w' => e = .returned (.bool true) ∧ Below w.heap.size w w' := by
  have hl : n ≤ 100000 := by omega
  obtain ⟨w0, hw0⟩ : ∃ w0, w.alloc (.cells #[.int .i64 4, .int .i64 s, .int .i64 i, .string p, .int .i64 k, .int .i64 f] 72) = w0 := ⟨_, rfl⟩
  have HB0 : Hid (Below w.heap.size w w0) := by rw [← hw0]; exact (Below.refl _ _).alloc (Nat.le_refl _) _
  have hb0 : w0.heap[w.heap.size]? = some (.cells #[.int .i64 4, .int .i64 s, .int .i64 i, .string p, .int .i64 k, .int .i64 f] 72 (0, 0)) := by rw [← hw0]; exact heap_alloc_new _ _
  have HA0 : Hid (w0.heap[w.heap.size]? = some (.cells #[.int .i64 4, .int .i64 s, .int .i64 i, .string p, .int .i64 k, .int .i64 f] 72 (0, 0))) := hb0
  have HP0 : Hid (Pr w0 C B X (.slice a n c) L) := hP.below HB0.out
  have HX0 : Hid (w0.heap[X]? = some (.cells #[.bool false, .slice a n c] 69 (0, 0))) := HP0.out.box
  obtain ⟨a0, a1, a2, a3, a4, a5⟩ := cells_6 hb0
  obtain ⟨c0, c1⟩ := cells_2 HX0.out
  have HW : Hid (w.alloc (.cells #[.int .i64 4, .int .i64 s, .int .i64 i, .string p, .int .i64 k, .int .i64 f] 72) = w0) := hw0
  clear hP hb0
  obtain ⟨w2, hw2⟩ : ∃ w2, w0.alloc (.cells #[.int .i64 k, .string p, .string ⟨#[100]⟩, .int .i64 3] 24) = w2 := ⟨_, rfl⟩
  have HB2 : Hid (Below w0.heap.size w0 w2) := by rw [← hw2]; exact (Below.refl _ _).alloc (Nat.le_refl _) _
  have HSZ : Hid (w0.heap.size = w.heap.size + 1) := by show _ = _; rw [← HW.out]; simp
  have HD2 : Hid (w2.heap[w0.heap.size]? = some (.cells #[.int .i64 k, .string p, .string ⟨#[100]⟩, .int .i64 3] 24 (0, 0))) := by show _ = _; rw [← hw2]; exact heap_alloc_new _ _
  have HM : Hid _ := matchA w2 C B L f k p ⟨#[100]⟩ 3 (HP0.out.at'.below HB2.out) (HP0.out.gr.below HB2.out) hlen
  have HM0 : Hid (∀ W, Below w0.heap.size w0 W → _) := fun W hb => match9 a c n L f k p ⟨#[100]⟩ 3 W (HP0.out.row.below hb) hn hl
  obtain ⟨ts, hts⟩ : ∃ ts, matO L f k p = ts := ⟨_, rfl⟩
  have htl : ts.length ≤ 100000 := by rw [← hts]; have := mat_len L f k p; omega
  rw [hts] at HM HM0
  have HST : Hid (∀ (W : World) (v u : Value), TsAt W v ts → TsAt W u ts → _) := fun W v u h1 h2 => sameTagsQ v u ts W h1 h2 htl
  have HW2 : Hid (w0.alloc (.cells #[.int .i64 k, .string p, .string ⟨#[100]⟩, .int .i64 3] 24) = w2) := hw2
  clear hw2 hts htl
  go_enter Tryz.func25, Tryz.ntmps25
  rw [← hw0] at a0 a1 a2 a3 a4 a5 c0 c1
  clear hw0
  go_upto_region 17 with (first
    | (go_at_call 13; rw [HW.out, HW2.out]; refine Calls.mono HM.out ?_; rintro e w3 ⟨v3, rfl, ho3, hb3⟩
       have HB3 : Hid (Below w0.heap.size w0 w3) := xtrans2 HB2.out hb3
       have HD3 : Hid (w3.heap[w.heap.size + 1]? = some (.cells #[.int .i64 k, .string p, .string ⟨#[100]⟩, .int .i64 3] 24 (0, 0))) := by rw [← HSZ.out]; exact kept_block hb3 HD2.out
       have HV3 : Hid (TsAt w3 v3 ts) := owns_lo ho3 (Nat.zero_le _)
       clear hb3 ho3 a0 a1 a2 a3 a4 a5 c0 c1)
    | fail)
  have HSW : Hid (∀ w', Below w3.heap.size w3 w' → w'.cell? ⟨X, 0, none⟩ = some (.bool false) ∧ w'.cell? ⟨X, 1, none⟩ = some (.slice a n c) ∧ w'.cell? ⟨w.heap.size, 5, none⟩ = some (.int .i64 f) ∧ w'.cell? ⟨w.heap.size + 1, 0, none⟩ = some (.int .i64 k) ∧ w'.cell? ⟨w.heap.size + 1, 1, none⟩ = some (.string p) ∧ w'.cell? ⟨w.heap.size + 1, 2, none⟩ = some (.string ⟨#[100]⟩) ∧ w'.cell? ⟨w.heap.size + 1, 3, none⟩ = some (.int .i64 3)) := fun w' hb => by
    obtain ⟨a0, a1, a2, a3, a4, a5⟩ := cells_6 (kept_block hb (kept_block HB3.out HA0.out))
    obtain ⟨c0, c1⟩ := cells_2 (kept_block hb (kept_block HB3.out HX0.out))
    obtain ⟨d0, d1, d2, d3⟩ := cells_4 (kept_block hb HD3.out)
    exact ⟨c0, c1, a5, d0, d1, d2, d3⟩
  obtain ⟨c0, c1, a5, d0, d1, d2, d3⟩ := HSW.out w3 (Below.refl _ _)
  have HB4 : Hid (Below w3.heap.size w3 w3) := Below.refl _ _
  have HB5 : Hid (Below w3.heap.size w3 w3) := Below.refl _ _
  go_region_held3 (fun w' => w'.cell? ⟨X, 0, none⟩ = some (.bool false) ∧ w'.cell? ⟨X, 1, none⟩ = some (.slice a n c) ∧ w'.cell? ⟨w.heap.size, 5, none⟩ = some (.int .i64 f) ∧ w'.cell? ⟨w.heap.size + 1, 0, none⟩ = some (.int .i64 k) ∧ w'.cell? ⟨w.heap.size + 1, 1, none⟩ = some (.string p) ∧ w'.cell? ⟨w.heap.size + 1, 2, none⟩ = some (.string ⟨#[100]⟩) ∧ w'.cell? ⟨w.heap.size + 1, 3, none⟩ = some (.int .i64 3))
      (first
      | (refine HSW.out _ ?_; repeat (first | exact Below.refl _ _ | exact HB5.out | exact HB4.out | refine below_drewN ?_ _ | refine below_drew ?_))
      | go_keep)
      (first
      | (go_at_call 52; refine Calls.mono (HM0.out _ (by first | exact below_drew HB3.out | exact HB3.out)) ?_; rintro e w4 ⟨v4, rfl, ho4, hb4⟩
         clear HB4
         have HB4 : Hid (Below w3.heap.size w3 w4) := (by first | exact of_drew hb4 | exact hb4)
         have HV4 : Hid (TsAt w4 v3 ts) := owns_below HV3.out HB4.out
         have HU4 : Hid (TsAt w4 v4 ts) := owns_lo ho4 (Nat.zero_le _)
         clear hb4 ho4)
      | (go_at_call 17; refine Calls.mono (HST.out _ _ _ (by first | exact HV4.out | exact owns_below HV4.out (below_drewN (Below.refl _ _) _)) (by first | exact HU4.out | exact owns_below HU4.out (below_drewN (Below.refl _ _) _))) ?_; rintro e w5 ⟨rfl, m5, hw5⟩
         clear HB5
         have HB5 : Hid (Below w3.heap.size w3 w5) := (by rw [hw5]; first | exact below_drewN HB4.out _ | exact below_drewN (below_drew HB4.out) _)
         clear hw5))
  go_wp2_with fail
  go_ret
  exact ⟨rfl, xtrans2 HB0.out (xtrans2 HB3.out HB5.out)⟩
set_option maxHeartbeats 6400000 in
set_option maxRecDepth 100000 in
theorem playH_7 (C : Nat → Prop) (B X : Nat) (a : Option Addr) (c n : Nat) (L : List On) (s i : Int) (p : ByteArray) (k f : Int) (w : World) (hP : Pr w C B X (.slice a n c) L) (hn : L.length = n) (hlen : L.length ≤ 1000) (hwf : wfI s) :
    Calls Tryz.prog 25 #[ndV B, .pointer (some ⟨X, 0, none⟩), .agg #[.int .i64 7, .int .i64 s, .int .i64 i, .string p, .int .i64 k, .int .i64 f]] w fun e w' => e = .returned (.bool true) ∧ Below w.heap.size w w' := by
  have hl : n ≤ 100000 := by omega
  obtain ⟨w0, hw0⟩ : ∃ w0, w.alloc (.cells #[.int .i64 7, .int .i64 s, .int .i64 i, .string p, .int .i64 k, .int .i64 f] 72) = w0 := ⟨_, rfl⟩
  have HB0 : Hid (Below w.heap.size w w0) := by rw [← hw0]; exact (Below.refl _ _).alloc (Nat.le_refl _) _
  have hb0 : w0.heap[w.heap.size]? = some (.cells #[.int .i64 7, .int .i64 s, .int .i64 i, .string p, .int .i64 k, .int .i64 f] 72 (0, 0)) := by rw [← hw0]; exact heap_alloc_new _ _
  have HA0 : Hid (w0.heap[w.heap.size]? = some (.cells #[.int .i64 7, .int .i64 s, .int .i64 i, .string p, .int .i64 k, .int .i64 f] 72 (0, 0))) := hb0
  have HP0 : Hid (Pr w0 C B X (.slice a n c) L) := hP.below HB0.out
  have HX0 : Hid (w0.heap[X]? = some (.cells #[.bool false, .slice a n c] 69 (0, 0))) := HP0.out.box
  obtain ⟨a0, a1, a2, a3, a4, a5⟩ := cells_6 hb0
  obtain ⟨c0, c1⟩ := cells_2 HX0.out
  have HW : Hid (w.alloc (.cells #[.int .i64 7, .int .i64 s, .int .i64 i, .string p, .int .i64 k, .int .i64 f] 72) = w0) := hw0
  clear hP hb0
  have HON : Hid _ := walkA w0 C B L HP0.out.at' hlen
  have HPS : Hid (∀ x ∈ L, x.p.size ≤ 102) := fun x hx => psize (HP0.out.at'.ok x hx)
  have HO0 : Hid (∀ W, Below w0.heap.size w0 W → _) := fun W hb => walk9 a c n L W HPS.out (HP0.out.row.below hb) hn hl
  rw [walkX_is HP0.out.at'] at HO0
  obtain ⟨ts, hts⟩ : ∃ ts, walkO L = ts := ⟨_, rfl⟩
  have htl : ts.length ≤ 100000 := by rw [← hts, (walkO_perm HP0.out.at').length_eq]; omega
  rw [hts] at HON HO0
  have HSS : Hid (∀ (W : World) (v u : Value), W.ownsRow 0 36 3 v ts.length (scO ts) → W.ownsRow 0 36 3 u ts.length (scO ts) → _) := fun W v u h1 h2 => sameSeatsE v u ts W h1 h2 htl
  clear hts htl
  go_enter Tryz.func25, Tryz.ntmps25
  rw [← hw0] at a0 a1 a2 a3 a4 a5 c0 c1
  clear hw0
  go_wp2_with (first
    | (go_at_call 11; rw [HW.out]; refine Calls.mono HON.out ?_; rintro e w3 ⟨v3, rfl, ho3, hb3⟩
       have HB3 : Hid (Below w0.heap.size w0 w3) := hb3
       have HV3 : Hid (w3.ownsRow 0 36 3 v3 ts.length (scO ts)) := owns_lo ho3 (Nat.zero_le _)
       clear a0 a1 a2 a3 a4 a5 c0 c1 ho3
       obtain ⟨c0, c1⟩ := cells_2 (kept_block hb3 HX0.out)
       clear hb3)
    | (go_at_call 55; refine Calls.mono (HO0.out _ HB3.out) ?_; rintro e w4 ⟨v4, rfl, ho4, hb4⟩
       have HB4 : Hid (Below w0.heap.size w0 w4) := xtrans2 HB3.out hb4
       have HV4 : Hid (w4.ownsRow 0 36 3 v3 ts.length (scO ts)) := owns_below HV3.out hb4
       have HU4 : Hid (w4.ownsRow 0 36 3 v4 ts.length (scO ts)) := owns_lo ho4 (Nat.zero_le _)
       clear c0 c1 hb4 ho4)
    | (go_at_call 22; refine Calls.mono (HSS.out _ _ _ HV4.out HU4.out) ?_; rintro e w5 ⟨rfl, hb5⟩
       have HB5 : Hid (Below w0.heap.size w0 w5) := xtrans2 HB4.out hb5
       clear hb5)
    | fail)
  go_ret
  exact ⟨rfl, xtrans2 HB0.out HB5.out⟩
end Go.Proofs.YtbblckcjedjbcaaGreatDoor.J
