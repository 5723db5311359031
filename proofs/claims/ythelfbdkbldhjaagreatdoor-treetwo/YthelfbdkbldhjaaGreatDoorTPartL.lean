/-
  tree: fulls of the law.
-/
import Derived.Test.YthelfbdkbldhjaaGreatDoorTLoad
import Derived.Test.YthelfbdkbldhjaaGreatDoorTRefA
import Derived.Test.YthelfbdkbldhjaaGreatDoorTRefF
import Derived.Test.YthelfbdkbldhjaaGreatDoorCovers
import Derived.Test.YthelfbdkbldhjaaGreatDoorTSound
import Derived.Test.YthelfbdkbldhjaaGreatDoorTUntouched
import Derived.Test.YthelfbdkbldhjaaGreatDoorTPart
namespace Go.Proofs.YthelfbdkbldhjaaGreatDoor
open Go.RowKit Go.Maps Go.WideShapes
set_option linter.unusedVariables false
set_option linter.unusedSimpArgs false
attribute [local go_sem ↓] Go.wp_at_zero Go.wp_at_succ

set_option maxHeartbeats 6400000 in
set_option maxRecDepth 100000 in
theorem fullsT_any (B1 B2 : Nat) (va vb : Value) (T : List Nd) (w : World) (h1 : w.ownsRow B1 45 7 va T.length (T.flatMap Nd.cs)) (h2 : w.ownsRow B2 50 7 vb T.length (T.flatMap Nd.cs)) (hl : T.length ≤ 1000) :
    Calls Tryz.prog 13 #[va, vb] w fun e w' => e = .returned (.bool true) ∧ Below w.heap.size w w' := by
  obtain ⟨a, c, rfl⟩ := slice_of h1
  obtain ⟨b, d, rfl⟩ := slice_of h2
  have H1 : Hid _ := h1
  have H2 : Hid _ := h2
  obtain ⟨N, hN⟩ : ∃ N, T.length = N := ⟨_, rfl⟩
  have HN : Hid (T.length = N) := hN
  rw [hN] at hl ⊢
  clear h1 h2 hN
  go_enter Tryz.func13, Tryz.ntmps13
  go_wp2_with fail
  go_loopw [5] (fun i wr => ∃ q : Nat, i = .int .i64 q ∧ q ≤ N ∧ Hid (Below w.heap.size w wr)) (fun i _ => N - (intOf i).toNat)
  case atStart => exact ⟨0, rfl, Nat.zero_le _, Below.refl _ _⟩
  case round =>
    obtain ⟨q, rfl, hq, HB⟩ := hrel
    by_cases hlt : q < N
    · have hlt' : (q : Int) < (N : Int) := by omega
      obtain ⟨x, hx⟩ : ∃ x, T[q]? = some x := ⟨T[q]'(by rw [HN.out]; exact hlt), List.getElem?_eq_getElem _⟩
      obtain ⟨g1, c1, e1⟩ := form_n H1.out (by rw [HN.out]; omega)
      obtain ⟨g2, c2, e2⟩ := form_n H2.out (by rw [HN.out]; omega)
      obtain ⟨rfl, rfl⟩ : a = some ⟨g1, 0, none⟩ ∧ c = c1 := by simpa using e1
      obtain ⟨rfl, rfl⟩ : b = some ⟨g2, 0, none⟩ ∧ d = c2 := by simpa using e2
      have l1 : g1 < w.heap.size := (World.ownsRow.lt H1.out g1 rfl).2
      have l2 : g2 < w.heap.size := (World.ownsRow.lt H2.out g2 rfl).2
      have hk1 : ∀ j v, x.cs[j]? = some v → wr.cell? ⟨g1, q * 7 + j, none⟩ = some v := fun j v hv => by rw [HB.out.cell (p := ⟨g1, q * 7 + j, none⟩) l1]; exact Fa.cell_n H1.out (Fa.flat_at (cells := Nd.cs) (fun _ => rfl) hx hv)
      have hk2 : ∀ j v, x.cs[j]? = some v → wr.cell? ⟨g2, q * 7 + j, none⟩ = some v := fun j v hv => by rw [HB.out.cell (p := ⟨g2, q * 7 + j, none⟩) l2]; exact Fa.cell_n H2.out (Fa.flat_at (cells := Nd.cs) (fun _ => rfl) hx hv)
      have k0 : wr.cell? ⟨g1, q * 7, none⟩ = some (.string x.p) := hk1 0 _ rfl
      have k1 := hk1 1 _ rfl
      have k2 := hk1 2 _ rfl
      have k3 := hk1 3 _ rfl
      have k4 := hk1 4 _ rfl
      have k5 := hk1 5 _ rfl
      have k6 := hk1 6 _ rfl
      have m0 : wr.cell? ⟨g2, q * 7, none⟩ = some (.string x.p) := hk2 0 _ rfl
      have m1 := hk2 1 _ rfl
      have m2 := hk2 2 _ rfl
      have m3 := hk2 3 _ rfl
      have m4 := hk2 4 _ rfl
      have m5 := hk2 5 _ rfl
      have m6 := hk2 6 _ rfl
      clear hx e1 e2 hk1 hk2
      go_upto_region 6 with fail
      go_quiet (fail)
      go_wp2_with fail
      go_roundw
      case rel => exact ⟨q + 1, by go_num, by omega, below_dN HB.out _⟩
      case measure => simp [intOf]; omega
    · obtain rfl : q = N := by omega
      go_wp2_with fail
      go_ret
      exact ⟨rfl, HB.out⟩
end Go.Proofs.YthelfbdkbldhjaaGreatDoor
namespace Go.Proofs.YthelfbdkbldhjaaGreatDoor
open Go.RowKit Go.Maps Go.WideShapes
set_option linter.unusedVariables false
set_option linter.unusedSimpArgs false

set_option maxHeartbeats 3200000 in
set_option maxRecDepth 100000 in
theorem ply_else (W w : World) (db tb q : Nat) (dv : Value) (a : Option Addr) (c : Nat) (T : List Nd) (h : Sit W w db tb q dv a T) (k s st nn : Int) (oa : Option Addr) (n oc : Nat) (pl : ByteArray) (h1 : ¬ k = 1) (h2 : ¬ k = 2) (h3 : ¬ k = 3) (h4 : ¬ k = 4) (h5 : ¬ k = 5) :
    Calls Tryz.prog 11 #[.pointer (some ⟨tb, 0, none⟩), rtV a T.length c, .agg (stCs k s st oa n oc pl nn), .pointer (some ⟨db, 0, none⟩)] w (PlE W w db tb q dv T) := by
  obtain ⟨N, hN⟩ : ∃ N, T.length = N := ⟨_, rfl⟩
  have HN : Hid (T.length = N) := hN
  have H : Hid _ := h
  rw [hN]
  clear hN h
  have HS : Hid _ := plI_start w (.slice a N c) (stCs k s st oa n oc pl nn)
  go_enter Tryz.func11, Tryz.ntmps11
  go_wp2_with fail
  have q0 := cells_1 HS.out.tr
  have q1 := cells_1 HS.out.rs
  have g1 := free_1 HS.out.rs
  go_region_held3 (fun w' => w'.cell? ⟨w.heap.size, 0, none⟩ = some (.slice a N c)) (first | go_keep | exact q0 | (rw [cellN (by omega)]; exact q0)) (fail)
  go_wp2_with fail
  exact bodyPost_ret (results_tmp_cell_tmp rfl _ _ (w.heap.size + 1 + 1) 27 #[.slice a N c] (0, 0) _ (.pointer (some ⟨tb, 0, none⟩)) (.bool true) rfl rfl rfl ((heap_drew_at _ _).trans (heap_alloc_new' (by simp))) Tryz.underlying27 rfl (by kernel_rfl)) rfl (PlE.low H.out c HN.out (below_drew ((((Below.refl _ _).alloc (Nat.le_refl _) _).alloc (by simp) _).alloc (by simp; omega) _)))
set_option maxHeartbeats 3200000 in
set_option maxRecDepth 100000 in
theorem ply_nodes (W w : World) (db tb q : Nat) (dv : Value) (a : Option Addr) (c : Nat) (T : List Nd) (h : Sit W w db tb q dv a T) (s st nn : Int) (oa : Option Addr) (n oc : Nat) (pl : ByteArray) :
    Calls Tryz.prog 11 #[.pointer (some ⟨tb, 0, none⟩), rtV a T.length c, .agg (stCs 4 s st oa n oc pl nn), .pointer (some ⟨db, 0, none⟩)] w (PlE W w db tb q dv T) := by
  have h64 : T.length ≤ 64 := h.tr.snd.inv.len
  have HNO : Hid (∀ w', Below w.heap.size w w' → _) := fun w' hb => nodes_tr W.heap.size tb q T w' (h.tr.below hb)
  have HRN : Hid (∀ w', Below w.heap.size w w' → _) := fun w' hb => refNodes_any a c T w' (h.nds.below hb) h64
  obtain ⟨N, hN⟩ : ∃ N, T.length = N := ⟨_, rfl⟩
  have HN : Hid (T.length = N) := hN
  have H : Hid _ := h
  have HFU : Hid (∀ (w' : World) (B1 B2 : Nat) (va vb : Value), w'.ownsRow B1 45 7 va N (T.flatMap Nd.cs) → w'.ownsRow B2 50 7 vb N (T.flatMap Nd.cs) → Calls Tryz.prog 13 #[va, vb] w' fun e w'' => e = .returned (.bool true) ∧ Below w'.heap.size w' w'') := fun w' B1 B2 va vb h1 h2 => fullsT_any B1 B2 va vb T w' (by rw [hN]; exact h1) (by rw [hN]; exact h2) (by omega)
  rw [hN] at HNO HRN ⊢
  clear hN h
  have HS : Hid _ := plI_start w (.slice a N c) (stCs 4 s st oa n oc pl nn)
  go_enter Tryz.func11, Tryz.ntmps11
  go_wp2_with fail
  refine Calls.mono (HNO.out _ HS.out.low) ?_
  rintro e w1 ⟨g, cap, rfl, hr1, hb1⟩
  have H1 : Hid (PlI w w1 (.slice a N c) (stCs 4 s st oa n oc pl nn)) := HS.out.below hb1
  have HR1 : Hid _ := hr1
  have r0 := cells_1 H1.out.tr
  clear hb1 hr1
  go_wp2_with fail
  go_region_held3 (fun w' => w'.cell? ⟨w.heap.size, 0, none⟩ = some (.slice a N c)) (first | go_keep | exact q0 | (rw [cellN (by omega)]; exact q0) | exact z0)
    (first
    | (go_at_call 14; refine Calls.mono (HRN.out _ (below_drew H1.out.low)) ?_; rintro e w2 ⟨v2, rfl, hr2, hb2⟩
       have H2 : Hid (PlI w w2 (.slice a N c) (stCs 4 s st oa n oc pl nn)) := H1.out.below (of_drew hb2)
       have HR2 : Hid _ := owns_chg HR1.out (Chg.of_below (of_drew hb2) (fun _ => False)) (fun _ _ => id)
       have HV2 : Hid _ := hr2
       have z0 := cells_1 H2.out.tr
       clear hb2 hr2)
    | (go_at_call 13; refine Calls.mono (HFU.out _ _ _ _ _ HR2.out HV2.out) ?_; rintro e w3 ⟨rfl, hb3⟩
       have H3 : Hid (PlI w w3 (.slice a N c) (stCs 4 s st oa n oc pl nn)) := H2.out.below hb3
       have q0 := cells_1 H3.out.tr
       have q1 := cells_1 H3.out.rs
       have g1 := free_1 H3.out.rs
       clear hb3)
    | fail)
  go_wp2_with fail
  exact bodyPost_ret (results_tmp_cell_tmp rfl _ _ (w.heap.size + 1 + 1) 27 #[.slice a N c] (0, 0) _ (.pointer (some ⟨tb, 0, none⟩)) (.bool true) rfl rfl rfl (same_blk H3.out.rs rfl) Tryz.underlying27 rfl (by kernel_rfl)) rfl (PlE.low H.out c HN.out (H3.out.low.setCell (by simp; omega) _))
end Go.Proofs.YthelfbdkbldhjaaGreatDoor
namespace Go.Proofs.YthelfbdkbldhjaaGreatDoor
open Go.RowKit

theorem refIs_any (s : ByteArray) (w : World) :
    Calls Tryz.prog 40 #[.string s] w fun e w' => e = .returned (.bool (isP s)) ∧ Below w.heap.size w w' := by
  obtain ⟨p, hp⟩ : ∃ p, p = parse s := ⟨_, rfl⟩
  unfold isP
  have HP : Hid (∀ w, Calls Tryz.prog 67 #[.string s] w fun e w' => ∃ a c, e = .returned (.tuple #[.slice a p.2.length c, .int .i64 p.1]) ∧ Below w.heap.size w w') := fun w => by
    refine (refParse_any s w).mono ?_
    rintro e w' ⟨a, c, h1, h2, _, h3⟩
    rw [hp]
    exact ⟨a, c, h1, h3⟩
  rw [← hp]
  clear hp
  go_enter Tryz.func40, Tryz.ntmps40
  go_wp2_with (first | (go_at_call 67; refine (HP.out _).mono ?_; rintro e w1 ⟨a, c, rfl, hb⟩; have HB : Hid _ := hb; clear hb))
  go_ret
  exact ⟨rfl, HB.out⟩

theorem refParse_is {s : ByteArray} {code : Int} {xs : List ByteArray} (h : parse s = (code, xs)) (w : World) :
    Calls Tryz.prog 67 #[.string s] w fun e w' => ∃ a c, e = .returned (.tuple #[.slice a xs.length c, .int .i64 code]) ∧ Lst w' a xs ∧ Below w.heap.size w w' := by
  refine (refParse_any s w).mono ?_
  rintro e w' ⟨a, c, h1, h2, _, h3⟩
  rw [h] at h1 h2
  exact ⟨a, c, h1, h2, h3⟩

theorem bel_miss {xs ys : List ByteArray} {k : Nat} {x y : ByteArray} (hx : xs[k]? = some x) (hy : ys[k]? = some y) (h : (x.toList != y.toList) = true) : decide (Bel ys xs) = false := by
  rw [decide_eq_false_iff_not]
  rintro ⟨_, h2⟩
  have hk : k < ys.length := by
    rw [List.getElem?_eq_some_iff] at hy
    exact hy.1
  have h3 := congrArg (·[k]?) h2
  simp only [List.getElem?_take, if_pos hk, hx, hy, Option.some.injEq] at h3
  subst h3
  simp at h
theorem take_next {xs ys : List ByteArray} {k : Nat} {x y : ByteArray} (hx : xs[k]? = some x) (hy : ys[k]? = some y) (h : (x.toList != y.toList) = false) (ht : xs.take k = ys.take k) : xs.take (k + 1) = ys.take (k + 1) := by
  have e : x = y := by
    have h1 : x.toList = y.toList := by simpa [bne] using h
    rw [ByteArray.toList_eq, ByteArray.toList_eq] at h1
    rw [← mk_data x, ← mk_data y, h1]
  rw [List.take_add_one, List.take_add_one, hx, hy, ht, e]

set_option maxHeartbeats 1600000 in
set_option maxRecDepth 100000 in
theorem refBelow_any {text above : ByteArray} {c1 c2 : Int} {xs ys : List ByteArray} (hx : parse text = (c1, xs)) (hy : parse above = (c2, ys)) (w : World) :
    Calls Tryz.prog 42 #[.string text, .string above] w fun e w' => e = .returned (.bool (decide (Bel ys xs))) ∧ Below w.heap.size w w' := by
  have lx := (parse_len hx).1
  have ly := (parse_len hy).1
  have HP1 : Hid _ := refParse_is hx
  have HP2 : Hid _ := refParse_is hy
  clear hx hy
  by_cases hle : xs.length ≤ ys.length
  · have e : decide (Bel ys xs) = false := by rw [decide_eq_false_iff_not]; rintro ⟨h, _⟩; omega
    rw [e]
    clear e
    go_enter Tryz.func42, Tryz.ntmps42
    go_wp2_with fail
    refine (HP1.out _).mono ?_
    rintro e w1 ⟨a1, k1, rfl, _, hb1⟩
    have HB1 : Hid _ := hb1
    clear hb1
    go_wp2_with fail
    refine (HP2.out _).mono ?_
    rintro e w2 ⟨a2, k2, rfl, _, hb2⟩
    have HB2 : Hid _ := trans2 HB1.out hb2
    clear hb2
    go_wp2
    go_ret
    exact ⟨rfl, HB2.out⟩
  · go_enter Tryz.func42, Tryz.ntmps42
    go_wp2_with fail
    refine (HP1.out _).mono ?_
    rintro e w1 ⟨a1, k1, rfl, hl1, hb1⟩
    have HB1 : Hid _ := hb1
    have HL1 : Hid _ := hl1
    clear hb1 hl1
    go_wp2_with fail
    refine (HP2.out _).mono ?_
    rintro e w2 ⟨a2, k2, rfl, hl2, hb2⟩
    have HB2 : Hid _ := trans2 HB1.out hb2
    have hl1 := Lst.below HL1.out hb2
    rcases hl1 with h0 | ⟨b1, o1, rfl, _, hs1⟩
    · rw [h0] at hle
      simp at hle
    have HS1 : Hid _ := hs1
    clear hb2 hs1
    by_cases hye : ys = []
    · subst hye
      have hxe : ¬ xs = [] := by rintro rfl; simp at hle
      have e : decide (Bel [] xs) = true := by
        rw [decide_eq_true_eq]
        exact ⟨by omega, rfl⟩
      have HE : Hid _ := e
      clear e
      go_wp2
      refine wp_loop_rounds 1 ?_
      rw [rounds_succ]
      go_wp2
      go_ret
      exact ⟨by rw [HE.out]; rfl, HB2.out⟩
    · rcases hl2 with h0 | ⟨b2, o2, rfl, _, hs2⟩
      · exact absurd h0 hye
      have HS2 : Hid _ := hs2
      clear hs2 hye
      go_wp2
      go_loopw [9] (fun i wr => ∃ k m : Nat, i = .int .i64 k ∧ wr = w2.drewN m ∧ k ≤ ys.length ∧ Hid (xs.take k = ys.take k)) (fun i _ => ys.length - (intOf i).toNat)
      case atStart => exact ⟨0, 0, rfl, rfl, by omega, rfl⟩
      case round =>
        obtain ⟨k, m, rfl, rfl, hk, HT⟩ := hrel
        by_cases hlt : k < ys.length
        · obtain ⟨y, hy⟩ : ∃ y, ys[k]? = some y := ⟨ys[k], List.getElem?_eq_getElem hlt⟩
          obtain ⟨x, hx⟩ : ∃ x, xs[k]? = some x := ⟨xs[k]'(by omega), List.getElem?_eq_getElem (by omega)⟩
          have hc1 := HS1.out k x hx
          have hc2 := HS2.out k y hy
          have hlt1 : (k : Int) < (xs.length : Int) := by omega
          have hlt2 : (k : Int) < (ys.length : Int) := by omega
          have HX : Hid _ := hx
          have HY : Hid _ := hy
          clear hx hy
          go_wp2
          go_quiet (fail)
          go_wp2
          · have hne : (x.toList != y.toList) = true := by assumption
            go_ret
            exact ⟨by rw [bel_miss HX.out HY.out hne]; rfl, below_drewN (below_drewN HB2.out _) _⟩
          · have heq : (x.toList != y.toList) = false := by assumption
            go_roundw
            case rel => exact ⟨k + 1, m + nq, by go_num, rfl, by omega, take_next HX.out HY.out heq HT.out⟩
            case measure => simp [intOf]; omega
        · obtain rfl : k = ys.length := by omega
          have e : decide (Bel ys xs) = true := by
            have := HT.out
            rw [List.take_length] at this
            rw [decide_eq_true_eq]
            exact ⟨by omega, this⟩
          have HE : Hid _ := e
          clear e
          go_wp2
          go_ret
          exact ⟨by rw [HE.out]; rfl, below_drewN HB2.out _⟩

end Go.Proofs.YthelfbdkbldhjaaGreatDoor
namespace Go.Proofs.YthelfbdkbldhjaaGreatDoor
open Go.RowKit Go.Maps Go.WideShapes
set_option linter.unusedVariables false
set_option linter.unusedSimpArgs false
attribute [local go_sem ↓] Go.wp_at_zero Go.wp_at_succ

set_option maxHeartbeats 4000000 in
set_option maxRecDepth 100000 in
theorem refEnd_low (a : Option Addr) (c n : Nat) (s : Int) (w : World) (hs : s < 1) :
    Calls Tryz.prog 23 #[rtV a n c, .int .i64 s] w fun e w' => e = .returned (.tuple #[rtV a n c, .slice none 0 0]) ∧ Below w.heap.size w w' := by
  go_enter Tryz.func23, Tryz.ntmps23
  go_upto_region 1 with fail
  obtain ⟨w1, hw1⟩ : ∃ y, (w.alloc (.cells #[.slice a n c] 27)).alloc (.cells #[.slice none 0 0] 27) = y := ⟨_, rfl⟩
  obtain ⟨tb, htb⟩ : ∃ y, w.heap.size = y := ⟨_, rfl⟩
  have HB1 : Hid (Below w.heap.size w w1) := by rw [← hw1]; exact ((Below.refl _ _).alloc (Nat.le_refl _) _).alloc (by simp) _
  have HX1 : Hid (w1.heap[tb]? = some (.cells #[.slice a n c] 27 (0, 0))) := by rw [← hw1, ← htb]; exact heap_alloc2_old _ _ _
  have HY1 : Hid (w1.heap[tb + 1]? = some (.cells #[.slice none 0 0] 27 (0, 0))) := by rw [← hw1, ← htb]; exact heap_alloc2_new _ _ _
  have HTB : Hid (w.heap.size = tb) := htb
  rw [hw1, htb]
  clear hw1 htb
  have x0 := cells_1 HX1.out
  have y0 := cells_1 HY1.out
  have yf := free_1 HY1.out
  have hyl : tb + 1 < w1.heap.size := (Array.getElem?_eq_some_iff.1 HY1.out).1
  go_wp2_with fail
  exact bodyPost_ret (results_cell_tmp rfl _ _ (tb + 1) 27 _ (0, 0) _ (.slice none 0 0) rfl rfl (fill_1 HY1.out) Tryz.underlying27 rfl (by kernel_rfl)) rfl ⟨rfl, HB1.out.setCell (by rw [HTB.out]; show tb ≤ tb + 1; omega) _⟩

theorem nds_one {w : World} {g : Nat} {x : Nd} (h : w.heap[g]? = some (.cells #[.string x.p, .string x.d, .int .i64 x.v, .int .i64 x.m, .int .i64 x.c, .int .i64 x.o, .int .i64 x.k] 50 (0, 0))) : NdsAt w (some ⟨g, 0, none⟩) [x] := fun i y hy => by
  match i, hy with
  | 0, hy =>
    obtain rfl : x = y := by simpa using hy
    refine ⟨g, 0, rfl, (Array.getElem?_eq_some_iff.1 h).1, ⟨_, h⟩, fun j v hv => ?_⟩
    obtain ⟨c0, c1, c2, c3, c4, c5, c6⟩ := cells_7 h
    match j, hv with
    | 0, hv => rw [← Option.some.inj hv]; exact c0
    | 1, hv => rw [← Option.some.inj hv]; exact c1
    | 2, hv => rw [← Option.some.inj hv]; exact c2
    | 3, hv => rw [← Option.some.inj hv]; exact c3
    | 4, hv => rw [← Option.some.inj hv]; exact c4
    | 5, hv => rw [← Option.some.inj hv]; exact c5
    | 6, hv => rw [← Option.some.inj hv]; exact c6
    | _ + 7, hv => exact absurd hv (by simp [Nd.cs])
  | _ + 1, hy => simp at hy
set_option maxHeartbeats 4000000 in
set_option maxRecDepth 100000 in
theorem refNew_any (w : World) :
    Calls Tryz.prog 10 #[] w fun e w' => ∃ g, e = .returned (rtV (some ⟨g, 0, none⟩) 1 1) ∧ NdsAt w' (some ⟨g, 0, none⟩) [⟨⟨#[47]⟩, ⟨#[]⟩, 0, 0, 0, 0, 0⟩] ∧ Below w.heap.size w w' := by
  go_enter Tryz.func10, Tryz.ntmps10
  go_wp2_with fail
  refine bodyPost_ret (results_cell1 rfl _ _ w.heap.size 27 _ (0, 0) _ rfl (heap_alloc2_old _ _ _) Tryz.underlying27 rfl (by kernel_rfl)) rfl ⟨w.heap.size + 1, rfl, ?_, ((Below.refl _ _).alloc (Nat.le_refl _) _).alloc (by simp) _⟩
  exact nds_one (heap_alloc2_new _ _ _)
end Go.Proofs.YthelfbdkbldhjaaGreatDoor
namespace Go.Proofs.YthelfbdkbldhjaaGreatDoor
open Go.RowKit Go.Maps Go.WideShapes
set_option linter.unusedVariables false
set_option linter.unusedSimpArgs false
attribute [local go_sem ↓] Go.wp_at_zero Go.wp_at_succ

structure SnT where
  p : ByteArray
  d : ByteArray
  v : Int
abbrev SnT.cs (x : SnT) : List Value := [.string x.p, .string x.d, .int .i64 x.v]
def snN (k : Int) (x : Nd) : SnT := ⟨x.p, sd k x.d, sv k x.v⟩
def parT (T : List Nd) (k : Int) (p : ByteArray) : List SnT := (T.filter (fun x => covers k p 1 x.p)).map (snN k)
theorem parT_len (T : List Nd) (k : Int) (p : ByteArray) : (parT T k p).length ≤ T.length := by
  unfold parT
  rw [List.length_map]
  exact List.length_filter_le _ _
theorem seenCs_T {D : DataW Value} {T : List Nd} (h : Rep D T) (k : Int) : ∀ U : List Nd, (∀ x ∈ U, x ∈ T) → seenCs k D (U.map Nd.by) = (U.map (snN k)).flatMap SnT.cs
  | [], _ => rfl
  | x :: r, hU => by
    have e : (⟨(Nd.by x).toArray⟩ : ByteArray) = x.p := ByteArray.ext (by simp [Nd.by])
    have ih := seenCs_T h k r (fun y hy => hU y (List.mem_cons_of_mem _ hy))
    unfold seenCs at ih ⊢
    rw [List.map_cons, List.map_cons, List.flatten_cons, ih, List.map_cons, List.flatMap_cons, e, h.look x (hU x List.mem_cons_self)]
    congr 1
    unfold seenOf snN sd sv
    by_cases hk : k = 2 <;> simp [hk, cellsOf]
theorem part_tr (B tb q : Nat) (T : List Nd) (k : Int) (p : ByteArray) (w : World) (hg : Ground w) (h : TrAt w B tb q T) (hp : (parse p).1 = 0) (hk : k = 1 ∨ k = 2 ∨ k = 3) :
    Calls Tryz.prog 26 #[.pointer (some ⟨tb, 0, none⟩), .string p, .int .i64 k] w fun e w' => ∃ a cap, e = .returned (.tuple #[.slice a (parT T k p).length cap, .int .i64 0]) ∧ w'.ownsRow w.heap.size 102 3 (.slice a (parT T k p).length cap) (parT T k p).length ((parT T k p).flatMap SnT.cs) ∧ Below w.heap.size w w' := by
  obtain ⟨mb, n, D, h1, h2, h3⟩ := h.at'
  refine Calls.mono (part_any sorts_to sorts_nil B tb mb n D k p w hg h1 (by rw [h2.size]; have := h.snd.inv.len; omega) (h2.wf h.snd.inv.sml) (by simpa [isP] using hp) hk) ?_
  rintro e w' ⟨a, cap, ts, rfl, hpm, ha, hr, hb⟩
  have h4 := (h.snd.inv.srt.filter (fun x => wF k p x.by)).only (hpm.trans (filter_keys h2 (wF k p))) ha
  have e1 : T.filter (fun x => wF k p x.by) = T.filter (fun x => covers k p 1 x.p) := rfl
  rw [e1] at h4
  subst h4
  rw [seenCs_T h2 k _ (fun x hx => (List.mem_filter.1 hx).1)] at hr
  have e2 : ((T.filter (fun x => covers k p 1 x.p)).map Nd.by).length = (parT T k p).length := by unfold parT; simp
  rw [e2] at hr ⊢
  exact ⟨a, cap, rfl, hr, hb⟩
set_option maxHeartbeats 3200000 in
theorem part_bad (B tb q : Nat) (T : List Nd) (k : Int) (p : ByteArray) (w : World) (hg : Ground w) (h : TrAt w B tb q T) (hp : (parse p).1 ≠ 0) :
    Calls Tryz.prog 26 #[.pointer (some ⟨tb, 0, none⟩), .string p, .int .i64 k] w fun e w' => e = .returned (.tuple #[.slice none 0 0, .int .i64 10]) ∧ Below w.heap.size w w' := by
  obtain ⟨mb, n, D, h1, _⟩ := h.at'
  have HN : Hid _ := isNone_at tb (some mb) w (cells_1 h1.box)
  have HP : Hid (Calls Tryz.prog 44 #[.string p] w (Parsed p w)) := parse_any p w hg
  obtain ⟨pc, hpc⟩ : ∃ pc, (parse p).1 = pc := ⟨_, rfl⟩
  have HPC : Hid ((parse p).1 = pc) := hpc
  rw [hpc] at hp
  have e1 : (pc != 0) = true := by simpa using hp
  clear hpc hp h h1 hg
  go_enter Tryz.func26, Tryz.ntmps26
  go_wp2_with (first
    | (go_at_call 31; refine Calls.mono HN.out ?_; rintro e w0 ⟨rfl, rfl⟩)
    | fail)
  refine Calls.mono HP.out ?_
  rintro e w1 ⟨a, c, rfl, _, hb⟩
  have HB : Hid _ := hb
  rw [HPC.out]
  clear hb
  go_wp2_with fail
  go_ret2
  exact ⟨rfl, HB.out⟩
set_option maxHeartbeats 3200000 in
theorem part_arg (B tb q : Nat) (T : List Nd) (k : Int) (p : ByteArray) (w : World) (hg : Ground w) (h : TrAt w B tb q T) (hp : (parse p).1 = 0) (hk : k < 1 ∨ 3 < k) :
    Calls Tryz.prog 26 #[.pointer (some ⟨tb, 0, none⟩), .string p, .int .i64 k] w fun e w' => e = .returned (.tuple #[.slice none 0 0, .int .i64 1]) ∧ Below w.heap.size w w' := by
  obtain ⟨mb, n, D, h1, _⟩ := h.at'
  have HN : Hid _ := isNone_at tb (some mb) w (cells_1 h1.box)
  have HP : Hid (Calls Tryz.prog 44 #[.string p] w (Parsed p w)) := parse_any p w hg
  have HPC : Hid ((parse p).1 = 0) := hp
  have e1 : (k != 1) = true := by simp; omega
  have e2 : (k != 2) = true := by simp; omega
  have e3 : (k != 3) = true := by simp; omega
  clear hp h h1 hg hk
  go_enter Tryz.func26, Tryz.ntmps26
  go_wp2_with (first
    | (go_at_call 31; refine Calls.mono HN.out ?_; rintro e w0 ⟨rfl, rfl⟩)
    | fail)
  refine Calls.mono HP.out ?_
  rintro e w1 ⟨a, c, rfl, _, hb⟩
  have HB : Hid _ := hb
  rw [HPC.out]
  clear hb
  go_wp2_with fail
  go_ret2
  exact ⟨rfl, HB.out⟩
/-- What is seen in a row. -/
theorem sn_cell {w : World} {B g cap : Nat} {L : List SnT} (h : w.ownsRow B 102 3 (.slice (some ⟨g, 0, none⟩) L.length cap) L.length (L.flatMap SnT.cs)) {q j : Nat} {x : SnT} {v : Value} (hx : L[q]? = some x) (hv : x.cs[j]? = some v) : w.cell? ⟨g, q * 3 + j, none⟩ = some v :=
  cell_n h (flat_at SnT.cs 3 (fun _ => rfl) L q j x v hx hv)
set_option maxHeartbeats 3200000 in
set_option maxRecDepth 100000 in
theorem seenT_any (B1 B2 : Nat) (va vb : Value) (L : List SnT) (w : World) (h1 : w.ownsRow B1 102 3 va L.length (L.flatMap SnT.cs)) (h2 : w.ownsRow B2 102 3 vb L.length (L.flatMap SnT.cs)) (hl : L.length ≤ 1000) :
    Calls Tryz.prog 28 #[va, vb] w fun e w' => e = .returned (.bool true) ∧ Below w.heap.size w w' := by
  obtain ⟨a, c, rfl⟩ := slice_of h1
  obtain ⟨b, d, rfl⟩ := slice_of h2
  have H1 : Hid _ := h1
  have H2 : Hid _ := h2
  obtain ⟨N, hN⟩ : ∃ N, L.length = N := ⟨_, rfl⟩
  have HN : Hid (L.length = N) := hN
  rw [hN] at hl ⊢
  clear h1 h2 hN
  go_enter Tryz.func28, Tryz.ntmps28
  go_wp2_with fail
  go_loopw [5] (fun i wr => ∃ q : Nat, i = .int .i64 q ∧ q ≤ N ∧ Hid (Below w.heap.size w wr)) (fun i _ => N - (intOf i).toNat)
  case atStart => exact ⟨0, rfl, Nat.zero_le _, Below.refl _ _⟩
  case round =>
    obtain ⟨q, rfl, hq, HB⟩ := hrel
    by_cases hlt : q < N
    · have hlt' : (q : Int) < (N : Int) := by omega
      obtain ⟨x, hx⟩ : ∃ x, L[q]? = some x := ⟨L[q]'(by rw [HN.out]; exact hlt), List.getElem?_eq_getElem _⟩
      obtain ⟨g1, c1, e1⟩ := form_n H1.out (by rw [HN.out]; omega)
      obtain ⟨g2, c2, e2⟩ := form_n H2.out (by rw [HN.out]; omega)
      obtain ⟨rfl, rfl⟩ : a = some ⟨g1, 0, none⟩ ∧ c = c1 := by simpa using e1
      obtain ⟨rfl, rfl⟩ : b = some ⟨g2, 0, none⟩ ∧ d = c2 := by simpa using e2
      have l1 : g1 < w.heap.size := (World.ownsRow.lt H1.out g1 rfl).2
      have l2 : g2 < w.heap.size := (World.ownsRow.lt H2.out g2 rfl).2
      have hk1 : ∀ j v, x.cs[j]? = some v → wr.cell? ⟨g1, q * 3 + j, none⟩ = some v := fun j v hv => by rw [HB.out.cell (p := ⟨g1, q * 3 + j, none⟩) l1]; exact sn_cell H1.out hx hv
      have hk2 : ∀ j v, x.cs[j]? = some v → wr.cell? ⟨g2, q * 3 + j, none⟩ = some v := fun j v hv => by rw [HB.out.cell (p := ⟨g2, q * 3 + j, none⟩) l2]; exact sn_cell H2.out hx hv
      have k0 : wr.cell? ⟨g1, q * 3, none⟩ = some (.string x.p) := hk1 0 _ rfl
      have k1 := hk1 1 _ rfl
      have k2 := hk1 2 _ rfl
      have m0 : wr.cell? ⟨g2, q * 3, none⟩ = some (.string x.p) := hk2 0 _ rfl
      have m1 := hk2 1 _ rfl
      have m2 := hk2 2 _ rfl
      clear hx e1 e2 hk1 hk2
      go_upto_region 6 with fail
      go_quiet (fail)
      go_wp2_with fail
      go_roundw
      case rel => exact ⟨q + 1, by go_num, by omega, below_dN HB.out _⟩
      case measure => simp [intOf]; omega
    · obtain rfl : q = N := by omega
      go_wp2_with fail
      go_ret
      exact ⟨rfl, HB.out⟩
/-- What lies below a place that is not there is not there. -/
theorem Snd.below {T : List Nd} (h : Snd T) {p : ByteArray} (hp : (parse p).1 = 0) : ∀ (n : Nat) (y : Nd), y ∈ T → (parse y.p).2.length ≤ n → Bel (parse p).2 (parse y.p).2 → ∃ u ∈ T, u.p = p
  | n, y, hy, hn, hb => by
    have hyp := (h.inv.nd y hy).1
    have hyr : y.p ≠ pRt := fun e => by
      have h9 := hb
      rw [e, show parse pRt = (0, []) by kernel_rfl] at h9
      obtain ⟨h1, _⟩ := h9
      simp at h1
    obtain ⟨xs, k, x, hx, hl, hk, _⟩ := names_of hyp hyr
    obtain ⟨u, hu, hup, _⟩ := h.up y hy hyr
    rw [par_of (x := x) hx hl] at hup
    have hlen := parse_len hx
    have hup2 : parse u.p = (0, xs.take k) := by
      rw [hup]
      exact parse_place (by rw [List.length_take]; omega) (all_take hlen.2 k)
    rw [hx] at hb hn
    have hn : xs.length ≤ n := hn
    obtain ⟨h1, h2⟩ := hb
    by_cases hek : (parse p).2.length = k
    · refine ⟨u, hu, ?_⟩
      rw [hup]
      have h3 : (parse p).2 = xs.take k := by rw [← hek]; exact h2.symm
      rw [← h3]
      exact parse_back (by rw [← hp])
    · match n, hn with
      | 0, hn => omega
      | n + 1, hn =>
        refine Snd.below h hp n u hu (by rw [hup2]; simp; omega) ?_
        rw [hup2]
        refine ⟨by rw [List.length_take]; show _ < _; have : (parse p).2.length < xs.length := h1; omega, ?_⟩
        rw [List.take_take, Nat.min_eq_left (by have : (parse p).2.length < xs.length := h1; omega)]
        exact h2
theorem part_none {T : List Nd} (h : Snd T) {p : ByteArray} (hp : (parse p).1 = 0) (hf : fnd T p = none) (k : Int) : parT T k p = [] := by
  unfold parT
  rw [List.map_eq_nil_iff, List.filter_eq_nil_iff]
  intro y hy hc
  have hyp := (h.inv.nd y hy).1
  have hne := fnd_none hf y hy
  have e1 : eqB y.p p = false := beq_ne hne
  have hbel : Bel (parse p).2 (parse y.p).2 → False := fun hb => by
    obtain ⟨u, hu, e⟩ := h.below hp _ y hy (Nat.le_refl _) hb
    exact fnd_none hf u hu e
  have e3 : belB p y.p = false := by
    unfold belB
    exact decide_eq_false hbel
  have e2 : childB p y.p = false := by
    cases hcb : childB p y.p with
    | false => rfl
    | true =>
      exfalso
      by_cases hyr : y.p = pRt
      · rw [hyr] at hcb
        cases hcb
      · obtain ⟨xs, j, x, hx, hl, _, _⟩ := names_of hyp hyr
        have h9 : parB y.p = p := by
          unfold childB at hcb
          rw [hx] at hcb
          simp only [hl, Nat.add_sub_cancel] at hcb
          rw [← par_of (x := x) hx hl] at hcb
          have h8 : (parB y.p).toList = p.toList := by
            have := (Bool.and_eq_true _ _ ▸ hcb).2
            simpa using this
          rw [ByteArray.toList_eq, ByteArray.toList_eq] at h8
          exact ByteArray.ext (Array.ext' h8)
        obtain ⟨u, hu, hup, _⟩ := h.up y hy hyr
        exact fnd_none hf u hu (hup.trans h9)
  unfold covers cov at hc
  rw [e1, e2, e3] at hc
  simp at hc
end Go.Proofs.YthelfbdkbldhjaaGreatDoor
