import Derived.Test.YtliafokjdngejaaGreatDoorTPlayed
import Derived.Test.YtliafokjdngejaaGreatDoorTKnown
import Derived.BigQuiet
namespace Go.Proofs.YtliafokjdngejaaGreatDoor
open Go.RowKit Go.Maps Go.WideShapes
set_option linter.unusedVariables false
set_option linter.unusedSimpArgs false
attribute [local go_sem ↓] Go.wp_at_zero Go.wp_at_succ

theorem below_dN {B : Nat} {a w : World} (h : Below B a w) (n : Nat) : Below B a (w.drewN n) := ⟨h.os, h.tape, h.output, h.size, h.block⟩
theorem flat_at {α : Type} (f : α → List Value) (n : Nat) (hn : ∀ x, (f x).length = n) : ∀ (l : List α) (q j : Nat) (x : α) (v : Value), l[q]? = some x → (f x)[j]? = some v → (l.flatMap f)[q * n + j]? = some v
  | [], q, j, x, v, h, _ => by simp at h
  | y :: r, 0, j, x, v, h, hv => by
    obtain rfl : y = x := by simpa using h
    have hj := (List.getElem?_eq_some_iff.1 hv).1
    rw [List.flatMap_cons, List.getElem?_append_left (by omega), Nat.zero_mul, Nat.zero_add]
    exact hv
  | y :: r, q + 1, j, x, v, h, hv => by
    rw [List.flatMap_cons, List.getElem?_append_right (by rw [hn, Nat.succ_mul]; omega), hn, show (q + 1) * n + j - n = q * n + j by rw [Nat.succ_mul]; omega]
    exact flat_at f n hn r q j x v (by simpa using h) hv
theorem slice_of {w : World} {B e s n : Nat} {v : Value} {xs : List Value} (h : w.ownsRow B e s v n xs) : ∃ a c, v = .slice a n c := by
  rcases h.2 with ⟨rfl, h0⟩ | ⟨g, cap, cur, rfl, _⟩
  · exact ⟨none, 0, by rw [h0]⟩
  · exact ⟨_, _, rfl⟩
/-- A node of a row. -/
theorem nd_cell {w : World} {B g cap : Nat} {T : List Nd} (h : w.ownsRow B 54 7 (.slice (some ⟨g, 0, none⟩) T.length cap) T.length (T.flatMap Nd.cs)) {q j : Nat} {x : Nd} {v : Value} (hx : T[q]? = some x) (hv : x.cs[j]? = some v) : w.cell? ⟨g, q * 7 + j, none⟩ = some v :=
  cell_n h (flat_at Nd.cs 7 (fun _ => rfl) T q j x v hx hv)
theorem ch_cell {w : World} {B g cap : Nat} {C : List ChT} (h : w.ownsRow B 56 4 (.slice (some ⟨g, 0, none⟩) C.length cap) C.length (chCs C)) {q j : Nat} {x : ChT} {v : Value} (hx : C[q]? = some x) (hv : x.cells[j]? = some v) : w.cell? ⟨g, q * 4 + j, none⟩ = some v :=
  cell_n h (flat_at ChT.cells 4 (fun _ => rfl) C q j x v hx hv)
theorem filter_at {α : Type} (f : α → Bool) (l : List α) (q : Nat) (x : α) (h : l[q]? = some x) (hf : f x = true) : (l.filter f)[((l.take q).filter f).length]? = some x := by
  have hq := (List.getElem?_eq_some_iff.1 h).1
  have e : l = l.take q ++ x :: l.drop (q + 1) := by
    conv => lhs; rw [← List.take_append_drop q l, List.drop_eq_getElem_cons hq]
    congr 2
    exact (List.getElem?_eq_some_iff.1 h).2
  conv => lhs; rw [e]
  have hl : ((l.take q ++ x :: l.drop (q + 1)).take q) = l.take q := by rw [← e]
  rw [hl, List.filter_append, List.filter_cons, if_pos hf, List.getElem?_append_right (Nat.le_refl _), Nat.sub_self]
  rfl
theorem filter_next {α : Type} (f : α → Bool) (l : List α) (q : Nat) (x : α) (h : l[q]? = some x) : ((l.take (q + 1)).filter f).length = ((l.take q).filter f).length + (if f x = true then 1 else 0) := by
  rw [List.take_add_one, h, List.filter_append, List.length_append]
  cases hf : f x <;> simp [hf]
theorem fin_gone {T : List Nd} {s : Int} {q : Nat} {x : Nd} (hx : T[q]? = some x) (hs : 0 < s) (ho : x.o = s) : (finC T s)[(finC (T.take q) s).length]? = some ⟨3, x.p, ⟨#[]⟩, x.v⟩ ∧ (finC (T.take (q + 1)) s).length = (finC (T.take q) s).length + 1 ∧ (finT (T.take (q + 1)) s).length = (finT (T.take q) s).length := by
  unfold finC finT
  rw [if_neg (by omega), if_neg (by omega), if_neg (by omega), if_neg (by omega), if_neg (by omega)]
  unfold endC endT
  refine ⟨?_, ?_, ?_⟩
  · rw [List.length_map, List.getElem?_map, filter_at _ T q x hx (by simpa using ho)]
    rfl
  · rw [List.length_map, List.length_map, filter_next _ T q x hx, if_pos (by simpa using ho)]
  · rw [filter_next _ T q x hx, if_neg (by simpa using ho)]
    rfl
theorem fin_stay {T : List Nd} {s : Int} {q : Nat} {x : Nd} (hx : T[q]? = some x) (hs : ¬ (x.o = s ∧ 0 < s)) : (finT T s)[(finT (T.take q) s).length]? = some x ∧ (finC (T.take (q + 1)) s).length = (finC (T.take q) s).length ∧ (finT (T.take (q + 1)) s).length = (finT (T.take q) s).length + 1 := by
  have hq := (List.getElem?_eq_some_iff.1 hx).1
  unfold finC finT
  by_cases h1 : s < 1
  · rw [if_pos h1, if_pos h1, if_pos h1, if_pos h1, if_pos h1, List.length_take, List.length_take]
    refine ⟨?_, rfl, by omega⟩
    rw [Nat.min_eq_left (by omega)]
    exact hx
  · have ho : x.o ≠ s := fun e => hs ⟨e, by omega⟩
    rw [if_neg h1, if_neg h1, if_neg h1, if_neg h1, if_neg h1]
    unfold endC endT
    refine ⟨filter_at _ T q x hx (by simpa using ho), ?_, ?_⟩
    · rw [List.length_map, List.length_map, filter_next _ T q x hx, if_neg (by simpa using ho)]
      rfl
    · rw [filter_next _ T q x hx, if_pos (by simpa using ho)]
theorem fin_again (T : List Nd) (s : Int) : finC (finT T s) s = [] := by
  unfold finC finT
  by_cases h1 : s < 1
  · rw [if_pos h1]
  · rw [if_neg h1, if_neg h1]
    unfold endC endT
    rw [List.map_eq_nil_iff, List.filter_filter, List.filter_eq_nil_iff]
    intro x _
    simp
theorem finC_len (T : List Nd) (s : Int) : (finC T s).length ≤ T.length := by
  unfold finC
  split
  · exact Nat.zero_le _
  · unfold endC
    rw [List.length_map]
    exact List.length_filter_le _ _
theorem finT_len (T : List Nd) (s : Int) : (finT T s).length ≤ T.length := by
  unfold finT
  split
  · exact Nat.le_refl _
  · exact List.length_filter_le _ _

set_option maxHeartbeats 6400000 in
set_option maxRecDepth 100000 in
theorem TreeGone_walk (W : World) (a : Option Addr) (c : Nat) (l : List StT) (s : Int) (hl : l.length ≤ maxLen) (hs : Steps W a l) (hg : GroundT W) (hgc : GroundC W) :
    Calls Tryz.prog 5 #[.slice a l.length c, .int .i64 s] W fun e w' => e = .returned (.bool true) ∧ Below W.heap.size W w' := by
  have HG : Hid (GroundT W) := hg
  have HPD : Hid _ := played_any W a c l hl hs hg hgc
  clear hs hg hgc hl
  go_enter Tryz.func5, Tryz.ntmps5
  go_wp2_with fail
  refine Calls.mono HPD.out ?_
  rintro e w1 ⟨tb, rfl, ht1, hb1⟩
  obtain ⟨T, hT⟩ : ∃ T, runL [rootN] (l.take 120) = T := ⟨_, rfl⟩
  rw [hT] at ht1
  have HT1 : Hid (TrAt w1 W.heap.size tb 120 T) := ht1
  have HB1 : Hid (Below W.heap.size W w1) := hb1
  clear hT ht1 hb1 HPD
  go_wp2_with fail
  refine Calls.mono (nodes_tr _ _ _ _ _ HT1.out) ?_
  rintro e w2 ⟨g, cap, rfl, hr2, hb2⟩
  have HT2 : Hid (TrAt w2 W.heap.size tb 120 T) := HT1.out.below hb2
  have HB2 : Hid (Below W.heap.size W w2) := trans2 HB1.out hb2
  have HR2 : Hid (w2.ownsRow w1.heap.size 54 7 (.slice (some ⟨g, 0, none⟩) T.length cap) T.length (T.flatMap Nd.cs)) := hr2
  clear hr2 hb2
  go_wp2_with fail
  refine Calls.mono (end_tr _ _ _ _ s _ HT2.out (by omega)) ?_
  rintro e w3 ⟨chV, rfl, hch, ht3, hc3⟩
  have HT3 : Hid (TrAt w3 W.heap.size tb 120 (finT T s)) := ht3
  have HB3 : Hid (Below W.heap.size W w3) := HB2.out.trans (chg_lo hc3 HT2.out.lo HB2.out.size)
  have HR3 : Hid (w3.ownsRow w1.heap.size 54 7 (.slice (some ⟨g, 0, none⟩) T.length cap) T.length (T.flatMap Nd.cs)) := row_keep HT2.out hc3 HR2.out (by decide)
  obtain ⟨ca, cc, rfl⟩ := slice_of hch
  have HC3 : Hid (w3.ownsRow w2.heap.size 56 4 (.slice ca (finC T s).length cc) (finC T s).length (chCs (finC T s))) := hch
  clear hch ht3 hc3
  go_wp2_with fail
  refine Calls.mono (nodes_tr _ _ _ _ _ HT3.out) ?_
  rintro e w4 ⟨g2, cap2, rfl, hr4, hb4⟩
  have HT4 : Hid (TrAt w4 W.heap.size tb 120 (finT T s)) := HT3.out.below hb4
  have HB4 : Hid (Below W.heap.size W w4) := trans2 HB3.out hb4
  have HR4 : Hid (w4.ownsRow w1.heap.size 54 7 (.slice (some ⟨g, 0, none⟩) T.length cap) T.length (T.flatMap Nd.cs)) := owns_chg HR3.out (Chg.of_below hb4 (fun _ => False)) (fun _ _ => id)
  have HC4 : Hid (w4.ownsRow w2.heap.size 56 4 (.slice ca (finC T s).length cc) (finC T s).length (chCs (finC T s))) := owns_chg HC3.out (Chg.of_below hb4 (fun _ => False)) (fun _ _ => id)
  have HA4 : Hid (w4.ownsRow w3.heap.size 54 7 (.slice (some ⟨g2, 0, none⟩) (finT T s).length cap2) (finT T s).length ((finT T s).flatMap Nd.cs)) := hr4
  have HLT : Hid (T.length ≤ 64) := HT1.out.snd.inv.len
  clear hr4 hb4 HR2 HR3 HC3 HT1 HT2 HT3 HB1 HB2 HB3
  obtain ⟨N, hN⟩ : ∃ N, T.length = N := ⟨_, rfl⟩
  obtain ⟨A, hA⟩ : ∃ A, finT T s = A := ⟨_, rfl⟩
  obtain ⟨C, hC⟩ : ∃ C, finC T s = C := ⟨_, rfl⟩
  obtain ⟨NA, hNA⟩ : ∃ N, A.length = N := ⟨_, rfl⟩
  obtain ⟨NC, hNC⟩ : ∃ N, C.length = N := ⟨_, rfl⟩
  have HN : Hid (T.length = N) := hN
  have HA : Hid (finT T s = A) := hA
  have HC : Hid (finC T s = C) := hC
  have HNA : Hid (A.length = NA) := hNA
  have HNC : Hid (C.length = NC) := hNC
  have hN64 : N ≤ 64 := by rw [← hN]; exact HLT.out
  have hNA64 : NA ≤ 64 := by have := finT_len T s; rw [hA, hNA, hN] at this; omega
  have hNC64 : NC ≤ 64 := by have := finC_len T s; rw [hC, hNC, hN] at this; omega
  rw [hA, hC, hNA, hNC, hN]
  clear hN hA hC hNA hNC
  go_wp2_with fail
  go_loopw [9, 10, 11] (fun k j i wr => ∃ (q kq jq : Nat), i = .int .i64 q ∧ k = .int .i64 kq ∧ j = .int .i64 jq ∧ q ≤ N ∧ kq ≤ NC ∧ jq ≤ NA ∧ Hid (kq = (finC (T.take q) s).length) ∧ Hid (jq = (finT (T.take q) s).length) ∧ Hid (Below w4.heap.size w4 wr)) (fun _ _ i _ => N - (intOf i).toNat)
  case atStart => exact ⟨0, 0, 0, rfl, rfl, rfl, Nat.zero_le _, Nat.zero_le _, Nat.zero_le _, by show 0 = _; simp [finC, endC], by show 0 = _; simp [finT, endT], Below.refl _ _⟩
  case round =>
    obtain ⟨q, kq, jq, rfl, rfl, rfl, hq, hkq, hjq, HK, HJ, HBr⟩ := hrel
    by_cases hlt : q < N
    · have hlt' : (q : Int) < (N : Int) := by omega
      obtain ⟨x, hx⟩ : ∃ x, T[q]? = some x := ⟨T[q]'(by rw [HN.out]; exact hlt), List.getElem?_eq_getElem _⟩
      have hgl : g < w4.heap.size := (HR4.out.lt g rfl).2
      have hnd : ∀ j v, x.cs[j]? = some v → wr.cell? ⟨g, q * 7 + j, none⟩ = some v := fun j v hv => by rw [HBr.out.cell (p := ⟨g, q * 7 + j, none⟩) hgl]; exact nd_cell HR4.out hx hv
      have n0 : wr.cell? ⟨g, q * 7, none⟩ = some (.string x.p) := hnd 0 _ rfl
      have n1 := hnd 1 _ rfl
      have n2 := hnd 2 _ rfl
      have n3 := hnd 3 _ rfl
      have n4 := hnd 4 _ rfl
      have n5 := hnd 5 _ rfl
      have n6 := hnd 6 _ rfl
      have hgr : g < wr.heap.size := Nat.lt_of_lt_of_le hgl HBr.out.size
      by_cases ho : x.o = s ∧ 0 < s
      · obtain ⟨f1, f2, f3⟩ := fin_gone hx ho.2 ho.1
        rw [HC.out, ← HK.out] at f1
        rw [← HK.out] at f2
        rw [← HJ.out] at f3
        have hkl : kq < NC := by rw [← HNC.out]; exact (List.getElem?_eq_some_iff.1 f1).1
        have h4 := HC4.out
        rw [HC.out] at h4
        obtain ⟨cg, cap3, e3⟩ := form_n h4 (by rw [HNC.out]; omega)
        have hcg : cg < w4.heap.size := by rw [e3] at h4; exact (h4.lt cg rfl).2
        have hce : ∀ j v, (⟨3, x.p, ⟨#[]⟩, x.v⟩ : ChT).cells[j]? = some v → wr.cell? ⟨cg, kq * 4 + j, none⟩ = some v := fun j v hv => by rw [HBr.out.cell (p := ⟨cg, kq * 4 + j, none⟩) hcg]; rw [e3] at h4; exact ch_cell h4 f1 hv
        obtain ⟨rfl, rfl⟩ : ca = some ⟨cg, 0, none⟩ ∧ cc = cap3 := by simpa using e3
        have d0 : wr.cell? ⟨cg, kq * 4, none⟩ = some (.int .i64 3) := hce 0 _ rfl
        have d1 := hce 1 _ rfl
        have d2 := hce 2 _ rfl
        have d3 := hce 3 _ rfl
        have hcr : cg < wr.heap.size := Nat.lt_of_lt_of_le hcg HBr.out.size
        have hk' : (kq : Int) < (NC : Int) := by omega
        have hs0 : 0 < s := ho.2
        have HF2 : Hid (kq + 1 = (finC (T.take (q + 1)) s).length) := f2.symm
        have HF3 : Hid (jq = (finT (T.take (q + 1)) s).length) := f3.symm
        rw [ho.1] at n5
        have hk2 : ¬ (NC : Int) ≤ (kq : Int) := by omega
        have hk3 : ¬ NC ≤ kq := by omega
        clear f1 f2 f3 h4 e3 hce hnd hx ho
        go_upto_region 14 with fail
        go_quiet (fail)
        go_wp2_with fail
        go_roundw
        case rel => exact ⟨q + 1, kq + 1, jq, by go_num, by go_num, rfl, by omega, by omega, hjq, HF2.out, HF3.out, below_dN (HBr.out.alloc HBr.out.size _) _⟩
        case measure => simp [intOf]; omega
      · obtain ⟨f1, f2, f3⟩ := fin_stay hx ho
        rw [HA.out, ← HJ.out] at f1
        rw [← HK.out] at f2
        rw [← HJ.out] at f3
        have hjl : jq < NA := by rw [← HNA.out]; exact (List.getElem?_eq_some_iff.1 f1).1
        have h4 := HA4.out
        rw [HA.out] at h4
        have hg2 : g2 < w4.heap.size := (h4.lt g2 rfl).2
        have hce : ∀ j v, x.cs[j]? = some v → wr.cell? ⟨g2, jq * 7 + j, none⟩ = some v := fun j v hv => by rw [HBr.out.cell (p := ⟨g2, jq * 7 + j, none⟩) hg2]; exact nd_cell h4 f1 hv
        have m0 : wr.cell? ⟨g2, jq * 7, none⟩ = some (.string x.p) := hce 0 _ rfl
        have m1 := hce 1 _ rfl
        have m2 := hce 2 _ rfl
        have m3 := hce 3 _ rfl
        have m4 := hce 4 _ rfl
        have m5 := hce 5 _ rfl
        have m6 := hce 6 _ rfl
        have hgr2 : g2 < wr.heap.size := Nat.lt_of_lt_of_le hg2 HBr.out.size
        have hj' : (jq : Int) < (NA : Int) := by omega
        have HF2 : Hid (kq = (finC (T.take (q + 1)) s).length) := f2.symm
        have HF3 : Hid (jq + 1 = (finT (T.take (q + 1)) s).length) := f3.symm
        have hcase : ((x.o == s) = true ∧ ¬ 0 < s) ∨ (x.o == s) = false := by
          by_cases e : x.o = s
          · exact .inl ⟨by simpa using e, fun h => ho ⟨e, h⟩⟩
          · exact .inr (by simpa using e)
        clear f1 f2 f3 h4 hce hnd hx ho
        have hj2 : ¬ (NA : Int) ≤ (jq : Int) := by omega
        have hj3 : ¬ NA ≤ jq := by omega
        rcases hcase with ⟨e1, e2⟩ | e1
        all_goals (
          go_upto_region 17 with fail
          go_quiet (fail)
          go_wp2_with fail
          go_roundw
          case rel => exact ⟨q + 1, kq, jq + 1, by go_num, rfl, by go_num, by omega, hkq, by omega, HF2.out, HF3.out, below_dN (HBr.out.alloc HBr.out.size _) _⟩
          case measure => simp [intOf]; omega)
    · obtain rfl : q = N := by omega
      have hk9 : kq = NC := by
        have := HK.out
        rw [List.take_of_length_le (by rw [HN.out]; omega), HC.out, HNC.out] at this
        exact this
      have hj9 : jq = NA := by
        have := HJ.out
        rw [List.take_of_length_le (by rw [HN.out]; omega), HA.out, HNA.out] at this
        exact this
      subst hk9 hj9
      have HTr : Hid (TrAt wr W.heap.size tb 120 A) := by rw [← HA.out]; exact HT4.out.below HBr.out
      have HBW : Hid (Below W.heap.size W wr) := trans2 HB4.out HBr.out
      have HAG : Hid (finC A s = []) := by show _ = _; rw [← HA.out]; exact fin_again T s
      go_wp2_with fail
      refine Calls.mono (end_tr _ _ _ _ s _ HTr.out (by omega)) ?_
      rintro e w5 ⟨dV, rfl, hd, ht5, hc5⟩
      rw [HAG.out] at hd
      obtain ⟨da, dc, rfl⟩ := slice_of hd
      have HB5 : Hid (Below W.heap.size W w5) := HBW.out.trans (chg_lo hc5 HTr.out.lo HBW.out.size)
      clear hd ht5 hc5
      go_wp2_with fail
      refine (knownT_any w5 (HG.out.below HB5.out)).mono ?_
      rintro e w9 ⟨rfl, hb9⟩
      have HB9 : Hid (Below W.heap.size W w9) := trans2 HB5.out hb9
      clear hb9
      go_wp2_with fail
      go_ret
      exact ⟨rfl, HB9.out⟩
end Go.Proofs.YtliafokjdngejaaGreatDoor
namespace Go.Proofs.YtliafokjdngejaaGreatDoor
open Go.RowKit Go.Maps Go.WideShapes
set_option linter.unusedVariables false
set_option linter.unusedSimpArgs false
attribute [local go_sem ↓] Go.wp_at_zero Go.wp_at_succ

theorem ordL_pre : ∀ (s t : List UInt8), t ≠ [] → ordL s (s ++ t) = -1
  | [], [], h => absurd rfl h
  | [], _ :: _, _ => rfl
  | x :: r, t, h => by
    show ordL (x :: r) (x :: (r ++ t)) = -1
    unfold ordL
    rw [if_pos rfl]
    exact ordL_pre r t h
theorem par_pre {p : ByteArray} (hp : (parse p).1 = 0) (hr : p ≠ pRt) : ∃ t, t ≠ [] ∧ p.data.toList = (parB p).data.toList ++ t := by
  obtain ⟨xs, k, x, hx, hl, hk, _⟩ := names_of hp hr
  have hne : xs ≠ [] := fun e => by rw [e] at hl; simp at hl
  have hxs : xs = xs.take k ++ [x] := by
    have := List.take_add_one (l := xs) (i := k)
    rw [hk, ← hl, List.take_length] at this
    exact this
  have ht : p.data.toList = flatN (xs.take k) ++ 47 :: x.data.toList := by
    rw [← parse_back hx, placeB, if_neg hne, data_mk]
    conv => lhs; rw [hxs]
    simp [flatN]
  have hx0 : x.data.toList ≠ [] := fun e => by
    have hall := (parse_len hx).2
    rw [List.all_eq_true] at hall
    have h9 := hall x (List.mem_of_getElem? hk)
    have : x.size = 0 := by have h8 := congrArg List.length e; simpa using h8
    simp [isNm, this] at h9
  rw [par_of (x := x) hx hl]
  by_cases h0 : xs.take k = []
  · refine ⟨x.data.toList, hx0, ?_⟩
    rw [ht, h0, placeB, if_pos rfl, data_mk]
    rfl
  · refine ⟨47 :: x.data.toList, by simp, ?_⟩
    rw [ht, placeB, if_neg h0, data_mk]
theorem par_less {p : ByteArray} (hp : (parse p).1 = 0) (hr : p ≠ pRt) : O (parB p) p = -1 := by
  obtain ⟨t, h0, h1⟩ := par_pre hp hr
  rw [O_list, h1]
  exact ordL_pre _ _ h0
theorem root_less {p : ByteArray} (hp : (parse p).1 = 0) (hr : p ≠ pRt) : O pRt p = -1 := by
  obtain ⟨xs, k, x, hx, hl, hk, _⟩ := names_of hp hr
  have hne : xs ≠ [] := fun e => by rw [e] at hl; simp at hl
  obtain ⟨y, r, rfl⟩ : ∃ y r, xs = y :: r := by cases xs with | nil => exact absurd rfl hne | cons y r => exact ⟨y, r, rfl⟩
  have hy0 : y.data.toList ≠ [] := fun e => by
    have hall := (parse_len hx).2
    rw [List.all_eq_true] at hall
    have h9 := hall y List.mem_cons_self
    have : y.size = 0 := by have h8 := congrArg List.length e; simpa using h8
    simp [isNm, this] at h9
  have ht : p.data.toList = [47] ++ (y.data.toList ++ flatN r) := by
    rw [← parse_back hx, placeB, if_neg hne, data_mk]
    simp [flatN]
  rw [O_list, ht]
  exact ordL_pre [47] _ (by simp [hy0])
theorem Snd.first {T : List Nd} (h : Snd T) : ∃ r, T[0]? = some r ∧ r.p = pRt ∧ r.o = 0 := by
  obtain ⟨r, hr, hp, ho⟩ := h.root
  cases T with
  | nil => cases hr
  | cons x U =>
    refine ⟨x, rfl, ?_⟩
    rcases List.mem_cons.1 hr with rfl | hr
    · exact ⟨hp, ho⟩
    · exfalso
      have h1 := (List.pairwise_cons.1 h.inv.srt).1 r hr
      rw [hp] at h1
      by_cases hx : x.p = pRt
      · rw [hx, O_self] at h1
        cases h1
      · have h2 := root_less (h.inv.nd x List.mem_cons_self).1 hx
        rw [O_anti x.p pRt, h1] at h2
        cases h2
theorem Snd.above {T : List Nd} (h : Snd T) {i : Nat} {x : Nd} (hi : 0 < i) (hx : T[i]? = some x) : x.p ≠ pRt ∧ ∃ k u, k < i ∧ T[k]? = some u ∧ u.p = parB x.p ∧ u.o = 0 := by
  have hil := (List.getElem?_eq_some_iff.1 hx).1
  have hxm := List.mem_of_getElem? hx
  obtain ⟨r, hr0, hrp, _⟩ := h.first
  have hlt : ∀ {j k : Nat} {y z : Nd}, T[j]? = some y → T[k]? = some z → j < k → O y.p z.p = -1 := fun {j k y z} hy hz hjk => by
    obtain ⟨hj, e1⟩ := List.getElem?_eq_some_iff.1 hy
    obtain ⟨hk, e2⟩ := List.getElem?_eq_some_iff.1 hz
    have := List.pairwise_iff_getElem.1 h.inv.srt j k hj hk hjk
    rw [e1, e2] at this
    exact this
  have hxr : x.p ≠ pRt := fun e => by
    have := hlt hr0 hx hi
    rw [hrp, e, O_self] at this
    cases this
  refine ⟨hxr, ?_⟩
  obtain ⟨u, hu, hup, huo⟩ := h.up x hxm hxr
  obtain ⟨k, hk⟩ := List.mem_iff_getElem?.1 hu
  refine ⟨k, u, ?_, hk, hup, huo⟩
  have h1 := par_less (h.inv.nd x hxm).1 hxr
  rcases Nat.lt_trichotomy k i with hki | hki | hki
  · exact hki
  · subst hki
    rw [hx] at hk
    obtain rfl := Option.some.inj hk
    rw [← hup, O_self] at h1
    cases h1
  · have h2 := hlt hx hk hki
    rw [hup] at h2
    rw [O_anti x.p (parB x.p), h2] at h1
    cases h1
theorem Snd.order {T : List Nd} (h : Snd T) {i : Nat} {x y : Nd} (hy : T[i]? = some y) (hx : T[i + 1]? = some x) : O y.p x.p = -1 := by
  obtain ⟨hj, e1⟩ := List.getElem?_eq_some_iff.1 hy
  obtain ⟨hk, e2⟩ := List.getElem?_eq_some_iff.1 hx
  have := List.pairwise_iff_getElem.1 h.inv.srt i (i + 1) hj hk (by omega)
  rw [e1, e2] at this
  exact this
theorem parC_zero {p : ByteArray} (hp : (parse p).1 = 0) (hr : p ≠ pRt) : parC p = 0 := by
  obtain ⟨xs, k, x, hx, hl, _, _⟩ := names_of hp hr
  unfold parC
  rw [hx, if_pos rfl, if_neg (fun e => by rw [show xs = [] from e] at hl; simp at hl)]
theorem numT_any (e0 : Int) (w : World) : Calls Tryz.prog 12 #[.int .i64 e0] w fun e w' => e = .returned (.int .i64 e0) ∧ w' = w := by
  go_enter Tryz.func12, Tryz.ntmps12
  go_wp2
  go_ret
  exact ⟨rfl, rfl⟩
/-- Is one of the first ones there, and not brief? -/
def thereB (T : List Nd) (p : ByteArray) : Bool := T.any (fun y => decide (y.p = p) && decide (y.o = 0))
theorem there_snoc {T : List Nd} {p : ByteArray} {q : Nat} {x : Nd} (hx : T[q]? = some x) : thereB (T.take (q + 1)) p = (thereB (T.take q) p || (decide (x.p = p) && decide (x.o = 0))) := by
  unfold thereB
  rw [List.take_add_one, hx, List.any_append]
  simp
theorem there_of {T : List Nd} {p : ByteArray} {q k : Nat} {u : Nd} (hk : k < q) (hu : T[k]? = some u) (hp : u.p = p) (ho : u.o = 0) : thereB (T.take q) p = true := by
  unfold thereB
  rw [List.any_eq_true]
  refine ⟨u, List.mem_of_getElem? (i := k) (by rw [List.getElem?_take, if_pos hk]; exact hu), by simp [hp, ho]⟩
end Go.Proofs.YtliafokjdngejaaGreatDoor
