/-
  tree: changes and reply of the law.
-/
import Derived.Test.YthelfbdkbldhjaaGreatDoorTUntouched
import Derived.Test.YthelfbdkbldhjaaGreatDoorTSound
namespace Go.Proofs.YthelfbdkbldhjaaGreatDoor
open Go.RowKit Go.Maps Go.WideShapes
set_option linter.unusedVariables false
set_option linter.unusedSimpArgs false
attribute [local go_sem ↓] Go.wp_at_zero Go.wp_at_succ

set_option maxHeartbeats 3200000 in
set_option maxRecDepth 100000 in
theorem changesT_any (B1 B2 : Nat) (va vb : Value) (C : List ChT) (w : World) (h1 : w.ownsRow B1 85 4 va C.length (chCs C)) (h2 : w.ownsRow B2 85 4 vb C.length (chCs C)) (hl : C.length ≤ 1000) :
    Calls Tryz.prog 22 #[va, vb] w fun e w' => e = .returned (.bool true) ∧ Below w.heap.size w w' := by
  obtain ⟨a, c, rfl⟩ := slice_of h1
  obtain ⟨b, d, rfl⟩ := slice_of h2
  have H1 : Hid _ := h1
  have H2 : Hid _ := h2
  obtain ⟨N, hN⟩ : ∃ N, C.length = N := ⟨_, rfl⟩
  have HN : Hid (C.length = N) := hN
  rw [hN] at hl ⊢
  clear h1 h2 hN
  go_enter Tryz.func22, Tryz.ntmps22
  go_wp2_with fail
  go_loopw [5] (fun i wr => ∃ q : Nat, i = .int .i64 q ∧ q ≤ N ∧ Hid (Below w.heap.size w wr)) (fun i _ => N - (intOf i).toNat)
  case atStart => exact ⟨0, rfl, Nat.zero_le _, Below.refl _ _⟩
  case round =>
    obtain ⟨q, rfl, hq, HB⟩ := hrel
    by_cases hlt : q < N
    · have hlt' : (q : Int) < (N : Int) := by omega
      obtain ⟨x, hx⟩ : ∃ x, C[q]? = some x := ⟨C[q]'(by rw [HN.out]; exact hlt), List.getElem?_eq_getElem _⟩
      obtain ⟨g1, c1, e1⟩ := form_n H1.out (by rw [HN.out]; omega)
      obtain ⟨g2, c2, e2⟩ := form_n H2.out (by rw [HN.out]; omega)
      obtain ⟨rfl, rfl⟩ : a = some ⟨g1, 0, none⟩ ∧ c = c1 := by simpa using e1
      obtain ⟨rfl, rfl⟩ : b = some ⟨g2, 0, none⟩ ∧ d = c2 := by simpa using e2
      have l1 : g1 < w.heap.size := (World.ownsRow.lt H1.out g1 rfl).2
      have l2 : g2 < w.heap.size := (World.ownsRow.lt H2.out g2 rfl).2
      have hk1 : ∀ j v, x.cells[j]? = some v → wr.cell? ⟨g1, q * 4 + j, none⟩ = some v := fun j v hv => by rw [HB.out.cell (p := ⟨g1, q * 4 + j, none⟩) l1]; exact ch_cell H1.out hx hv
      have hk2 : ∀ j v, x.cells[j]? = some v → wr.cell? ⟨g2, q * 4 + j, none⟩ = some v := fun j v hv => by rw [HB.out.cell (p := ⟨g2, q * 4 + j, none⟩) l2]; exact ch_cell H2.out hx hv
      have k0 : wr.cell? ⟨g1, q * 4, none⟩ = some (.int .i64 x.k) := hk1 0 _ rfl
      have k1 := hk1 1 _ rfl
      have k2 := hk1 2 _ rfl
      have k3 := hk1 3 _ rfl
      have m0 : wr.cell? ⟨g2, q * 4, none⟩ = some (.int .i64 x.k) := hk2 0 _ rfl
      have m1 := hk2 1 _ rfl
      have m2 := hk2 2 _ rfl
      have m3 := hk2 3 _ rfl
      clear hx e1 e2 hk1 hk2
      go_upto_region 6 with fail
      go_quiet (fail)
      go_wp2_with fail
      go_roundw
      case rel => exact ⟨q + 1, by go_num, by omega, below_dN HB.out _⟩
      case measure => simp [intOf]; omega
    · obtain rfl : q = N := by omega
      go_wp2_with fail
      go_ret
      exact ⟨rfl, HB.out⟩
theorem rs_cell {w : World} {B g cap : Nat} {L : List RsT} (h : RsAt w B (.slice (some ⟨g, 0, none⟩) L.length cap) L.length L) {q j : Nat} {x : RsT} {v : Value} (hx : L[q]? = some x) (hv : x.cs[j]? = some v) : w.cell? ⟨g, q * 7 + j, none⟩ = some v := by
  have hr := h.row
  rw [Nat.sub_self] at hr
  have e : Fa.fl (L.map RsT.el ++ List.replicate 0 zEl) = L.flatMap RsT.cs := by
    show (L.map RsT.el ++ []).flatMap (fun e : Fa.El 7 => e.1) = _
    rw [List.append_nil, List.flatMap_map]
    rfl
  rw [e] at hr
  exact cell_n hr (flat_at RsT.cs 7 (fun _ => rfl) L q j x v hx hv)
set_option maxHeartbeats 6400000 in
set_option maxRecDepth 100000 in
theorem replyT_any (B1 B2 : Nat) (st cd at' : Int) (rv1 rv2 : Value) (L1 L2 : List RsT) (w : World) (h1 : RsAt w B1 rv1 L1.length L1) (h2 : RsAt w B2 rv2 L2.length L2) (hL : L1.map RsT.r = L2.map RsT.r) (hl : L1.length ≤ 1000) (hk : ∀ x ∈ L1, x.r.kids.length ≤ 1000) :
    Calls Tryz.prog 21 #[.agg #[.int .i64 st, .int .i64 cd, .int .i64 at', rv1], .agg #[.int .i64 st, .int .i64 cd, .int .i64 at', rv2]] w fun e w' => e = .returned (.bool true) ∧ Below w.heap.size w w' := by
  obtain ⟨a1, c1, rfl⟩ := slice_of h1.row
  obtain ⟨a2, c2, rfl⟩ := slice_of h2.row
  have hlen : L2.length = L1.length := by have := congrArg List.length hL; simpa using this.symm
  have HL : Hid _ := hL
  have HKL : Hid _ := hk
  have H1 : Hid (RsAt w B1 (.slice a1 L1.length c1) L1.length L1) := h1
  have H2 : Hid (RsAt w B2 (.slice a2 L2.length c2) L2.length L2) := h2
  obtain ⟨N, hN⟩ : ∃ N, L1.length = N := ⟨_, rfl⟩
  have HN : Hid (L1.length = N) := hN
  have HN2 : Hid (L2.length = N) := by show _ = _; rw [hlen]; exact hN
  rw [hlen, hN]
  rw [hN] at hl
  clear h1 h2 hL hN hlen hk
  go_enter Tryz.func21, Tryz.ntmps21
  go_upto_region 1 with fail
  obtain ⟨w2, hw2⟩ : ∃ y, (w.alloc (.cells #[.int .i64 st, .int .i64 cd, .int .i64 at', .slice a1 N c1] 54)).alloc (.cells #[.int .i64 st, .int .i64 cd, .int .i64 at', .slice a2 N c2] 54) = y := ⟨_, rfl⟩
  obtain ⟨sb, hsb⟩ : ∃ y, w.heap.size = y := ⟨_, rfl⟩
  have HB2 : Hid (Below w.heap.size w w2) := by rw [← hw2]; exact ((Below.refl _ _).alloc (Nat.le_refl _) _).alloc (by simp) _
  have HS2 : Hid (w2.heap[sb]? = some (.cells #[.int .i64 st, .int .i64 cd, .int .i64 at', .slice a1 N c1] 54 (0, 0))) := by rw [← hw2, ← hsb]; exact heap_alloc2_old _ _ _
  have HR2 : Hid (w2.heap[sb + 1]? = some (.cells #[.int .i64 st, .int .i64 cd, .int .i64 at', .slice a2 N c2] 54 (0, 0))) := by rw [← hw2, ← hsb]; exact heap_alloc2_new _ _ _
  rw [hw2, hsb]
  clear hw2 hsb
  obtain ⟨s0, s1, s2, s3⟩ := cells_4 HS2.out
  obtain ⟨r0, r1, r2, r3⟩ := cells_4 HR2.out
  go_wp2_with fail
  clear s0 s1 s2 s3 r0 r1 r2 r3
  go_loopw [5] (fun i wr => ∃ q : Nat, i = .int .i64 q ∧ q ≤ N ∧ Hid (Below w2.heap.size w2 wr)) (fun i _ => N - (intOf i).toNat)
  case atStart => exact ⟨0, rfl, Nat.zero_le _, Below.refl _ _⟩
  case round =>
    obtain ⟨q, rfl, hq, HB⟩ := hrel
    have HS3 : Hid _ := kept_block HB.out HS2.out
    have HR3 : Hid _ := kept_block HB.out HR2.out
    obtain ⟨s0, s1, s2, s3⟩ := cells_4 HS3.out
    obtain ⟨r0, r1, r2, r3⟩ := cells_4 HR3.out
    have hsl : sb + 1 < wr.heap.size := (Array.getElem?_eq_some_iff.1 HR3.out).1
    by_cases hlt : q < N
    · have hlt' : (q : Int) < (N : Int) := by omega
      obtain ⟨x, hx⟩ : ∃ x, L1[q]? = some x := ⟨L1[q]'(by rw [HN.out]; exact hlt), List.getElem?_eq_getElem _⟩
      obtain ⟨y, hy⟩ : ∃ y, L2[q]? = some y := ⟨L2[q]'(by rw [HN2.out]; exact hlt), List.getElem?_eq_getElem _⟩
      have hxy : x.r = y.r := by
        have h9 : (L1.map RsT.r)[q]? = (L2.map RsT.r)[q]? := by rw [HL.out]
        rw [List.getElem?_map, List.getElem?_map, hx, hy] at h9
        simpa using h9
      have hbw : Below w.heap.size w wr := trans2 HB2.out HB.out
      obtain ⟨g1, d1, e1⟩ := form_n H1.out.row (by rw [HN.out]; omega)
      obtain ⟨g2, d2, e2⟩ := form_n H2.out.row (by rw [HN2.out]; omega)
      obtain ⟨rfl, rfl⟩ : a1 = some ⟨g1, 0, none⟩ ∧ c1 = d1 := by simpa using e1
      obtain ⟨rfl, rfl⟩ : a2 = some ⟨g2, 0, none⟩ ∧ c2 = d2 := by simpa using e2
      have l1 : g1 < w.heap.size := (H1.out.row.lt g1 rfl).2
      have l2 : g2 < w.heap.size := (H2.out.row.lt g2 rfl).2
      have hk1 : ∀ j v, x.cs[j]? = some v → wr.cell? ⟨g1, q * 7 + j, none⟩ = some v := fun j v hv => by rw [hbw.cell (p := ⟨g1, q * 7 + j, none⟩) l1]; exact rs_cell H1.out hx hv
      have hk2 : ∀ j v, y.cs[j]? = some v → wr.cell? ⟨g2, q * 7 + j, none⟩ = some v := fun j v hv => by rw [hbw.cell (p := ⟨g2, q * 7 + j, none⟩) l2]; exact rs_cell H2.out hy hv
      obtain ⟨⟨p, d, v, m, c, o, kids⟩, xa, xn, xc⟩ := x
      obtain ⟨yr, ya, yn, yc⟩ := y
      obtain rfl : (⟨p, d, v, m, c, o, kids⟩ : ResT) = yr := hxy
      have hkx := H1.out.kids _ (List.mem_of_getElem? hx)
      have hky := H2.out.kids _ (List.mem_of_getElem? hy)
      have hkn := HKL.out _ (List.mem_of_getElem? hx)
      have k0 : wr.cell? ⟨g1, q * 7, none⟩ = some (.string p) := hk1 0 _ rfl
      have k1 := hk1 1 _ rfl
      have k2 := hk1 2 _ rfl
      have k3 := hk1 3 _ rfl
      have k4 := hk1 4 _ rfl
      have k5 := hk1 5 _ rfl
      have k6 := hk1 6 _ rfl
      have m0 : wr.cell? ⟨g2, q * 7, none⟩ = some (.string p) := hk2 0 _ rfl
      have m1 := hk2 1 _ rfl
      have m2 := hk2 2 _ rfl
      have m3 := hk2 3 _ rfl
      have m4 := hk2 4 _ rfl
      have m5 := hk2 5 _ rfl
      have m6 := hk2 6 _ rfl
      have hg1 : g1 < wr.heap.size := Nat.lt_of_lt_of_le l1 hbw.size
      have hg2 : g2 < wr.heap.size := Nat.lt_of_lt_of_le l2 hbw.size
      have HTX : Hid (∀ W, Below w.heap.size w W → Calls Tryz.prog 38 #[.slice xa xn xc, .slice ya yn yc] W fun e w' => e = .returned (.bool true) ∧ Below W.heap.size W w') := fun W hb => textsT_any B1 B2 _ _ kids W (owns_chg hkx (Chg.of_below hb (fun _ => False)) (fun _ _ => id)) (owns_chg hky (Chg.of_below hb (fun _ => False)) (fun _ _ => id)) hkn
      have HBW : Hid (Below w.heap.size w wr) := hbw
      clear hx hy e1 e2 hk1 hk2 hkx hky hkn hbw
      go_wp2_with fail
      refine Calls.mono (HTX.out _ ((HBW.out.alloc HBW.out.size _).alloc (by have := HBW.out.size; simp; omega) _)) ?_
      rintro e w5 ⟨rfl, hb5⟩
      have HB5 : Hid (Below w2.heap.size w2 w5) := trans2 ((HB.out.alloc HB.out.size _).alloc (by have := HB.out.size; simp; omega) _) hb5
      clear hb5
      go_wp2_with fail
      go_roundw
      case rel => exact ⟨q + 1, by go_num, by omega, HB5.out⟩
      case measure => simp [intOf]; omega
    · obtain rfl : q = N := by omega
      go_wp2_with fail
      go_ret
      exact ⟨rfl, trans2 HB2.out HB.out⟩
end Go.Proofs.YthelfbdkbldhjaaGreatDoor
namespace Go.Proofs.YthelfbdkbldhjaaGreatDoor
open Go.RowKit Go.Maps Go.WideShapes
set_option linter.unusedVariables false
set_option linter.unusedSimpArgs false
attribute [local go_sem ↓] Go.wp_at_zero Go.wp_at_succ

theorem NdR.nums {x : Nd} (h : NdR x) (hv : 0 ≤ x.v ∧ x.v ≤ 2147483647) : ∀ (q : Nat) (y : Int), [x.v, x.m, x.c, x.o][q]? = some y → 0 ≤ y ∧ y ≤ 2147483647 := fun q y hy => by
  match q, hy with
  | 0, hy => obtain rfl : x.v = y := by simpa using hy
             exact hv
  | 1, hy => obtain rfl : x.m = y := by simpa using hy
             exact h.1
  | 2, hy => obtain rfl : x.c = y := by simpa using hy
             exact h.2.1
  | 3, hy => obtain rfl : x.o = y := by simpa using hy
             exact h.2.2.1
  | q + 4, hy => simp at hy
set_option maxHeartbeats 8000000 in
set_option maxRecDepth 100000 in
theorem mayHave_any (b n : Nat) (D : DataW Value) (x up : Nd) (th : Bool) (w : World) (hg : GroundT w) (hm : MapAt w b n D) (hx : NdR x) (hv : 0 ≤ x.v ∧ x.v ≤ 2147483647) (hd : x.d.size ≤ 64) (hk : 0 ≤ x.k ∧ x.k ≤ 100000) (hp : (parse x.p).1 = 0) (hl : look D (parB x.p) = up.V) (hh : Maps.has D (ky (parB x.p)) = th) (hr : (x.p = pRt ∧ x.o = 0) ∨ (x.p ≠ pRt ∧ th = true ∧ up.o = 0)) :
    Calls Tryz.prog 48 #[.map (some b), x.V] w fun e w' => e = .returned (.bool true) ∧ Below w.heap.size w w' := by
  have HPM : Hid (∀ W, Below w.heap.size w W → _) := fun W hb => parent_map b n D x.p up.p up.d up.v up.m up.c up.o up.k th W (hg.below hb) (map_below hm hb) (by have := par_size hp; unfold maxLen; omega) hl hh
  have HIB : Hid (∀ (y : Nd) W, _) := fun y W => fIsBrief_any y.p y.d y.v y.m y.c y.o y.k W
  have HX : Hid _ := hx
  have HV : Hid _ := hv
  have hd' : ¬ (64 : Int) < (x.d.size : Int) := by omega
  have hk0 : ¬ x.k < 0 := by omega
  have hk1 : ¬ (100000 : Int) < x.k := by omega
  clear hg hm hx hv hd hk hp hl hh
  go_enter Tryz.func48, Tryz.ntmps48
  go_upto_region 1 with fail
  obtain ⟨w1, hw1⟩ : ∃ y, w.alloc (.cells #[.string x.p, .string x.d, .int .i64 x.v, .int .i64 x.m, .int .i64 x.c, .int .i64 x.o, .int .i64 x.k] 45) = y := ⟨_, rfl⟩
  obtain ⟨nb, hnb⟩ : ∃ y, w.heap.size = y := ⟨_, rfl⟩
  have HB1 : Hid (Below w.heap.size w w1) := by rw [← hw1]; exact (Below.refl _ _).alloc (Nat.le_refl _) _
  have HN1 : Hid (w1.heap[nb]? = some (.cells #[.string x.p, .string x.d, .int .i64 x.v, .int .i64 x.m, .int .i64 x.c, .int .i64 x.o, .int .i64 x.k] 45 (0, 0))) := by rw [← hw1, ← hnb]; exact heap_alloc_new _ _
  rw [hw1, hnb]
  clear hw1 hnb
  obtain ⟨n0, n1, n2, n3, n4, n5, n6⟩ := cells_7 HN1.out
  go_wp2_with fail
  go_loopw [32] (fun i wr => ∃ q : Nat, i = .int .i64 q ∧ q ≤ 4 ∧ wr = w1) (fun i _ => 4 - (intOf i).toNat)
  case atStart => exact ⟨0, rfl, Nat.zero_le _, rfl⟩
  case round =>
    obtain ⟨q, rfl, hq, hwr⟩ := hrel
    have hwr' := hwr.symm
    subst hwr'
    by_cases hlt : q < 4
    · have hnum := NdR.nums HX.out HV.out
      rcases (show q = 0 ∨ q = 1 ∨ q = 2 ∨ q = 3 by omega) with rfl | rfl | rfl | rfl
      · have r1 := (hnum 0 _ rfl).1
        have ix : ∀ W, (Instr.index 144 (.agg #[.int .i64 x.v, .int .i64 x.m, .int .i64 x.c, .int .i64 x.o]) (.int .i64 0)).run Tryz.prog W = .ok (.int .i64 x.v) W := fun _ => by kernel_rfl
        have r2 := (hnum 0 _ rfl).2
        have r3 : ¬ x.v < 0 := by omega
        have r4 : ¬ (2147483647 : Int) < x.v := by omega
        clear hnum
        go_wp2_with fail
        go_roundw
        case rel => exact ⟨1, rfl, by omega, by trivial⟩
        case measure => simp [intOf]
      · have r1 := (hnum 1 _ rfl).1
        have ix : ∀ W, (Instr.index 144 (.agg #[.int .i64 x.v, .int .i64 x.m, .int .i64 x.c, .int .i64 x.o]) (.int .i64 1)).run Tryz.prog W = .ok (.int .i64 x.m) W := fun _ => by kernel_rfl
        have r2 := (hnum 1 _ rfl).2
        have r3 : ¬ x.m < 0 := by omega
        have r4 : ¬ (2147483647 : Int) < x.m := by omega
        clear hnum
        go_wp2_with fail
        go_roundw
        case rel => exact ⟨2, rfl, by omega, by trivial⟩
        case measure => simp [intOf]
      · have r1 := (hnum 2 _ rfl).1
        have ix : ∀ W, (Instr.index 144 (.agg #[.int .i64 x.v, .int .i64 x.m, .int .i64 x.c, .int .i64 x.o]) (.int .i64 2)).run Tryz.prog W = .ok (.int .i64 x.c) W := fun _ => by kernel_rfl
        have r2 := (hnum 2 _ rfl).2
        have r3 : ¬ x.c < 0 := by omega
        have r4 : ¬ (2147483647 : Int) < x.c := by omega
        clear hnum
        go_wp2_with fail
        go_roundw
        case rel => exact ⟨3, rfl, by omega, by trivial⟩
        case measure => simp [intOf]
      · have r1 := (hnum 3 _ rfl).1
        have ix : ∀ W, (Instr.index 144 (.agg #[.int .i64 x.v, .int .i64 x.m, .int .i64 x.c, .int .i64 x.o]) (.int .i64 3)).run Tryz.prog W = .ok (.int .i64 x.o) W := fun _ => by kernel_rfl
        have r2 := (hnum 3 _ rfl).2
        have r3 : ¬ x.o < 0 := by omega
        have r4 : ¬ (2147483647 : Int) < x.o := by omega
        clear hnum
        go_wp2_with fail
        go_roundw
        case rel => exact ⟨4, rfl, by omega, by trivial⟩
        case measure => simp [intOf]
    · obtain rfl : q = 4 := by omega
      go_wp2_with fail
      refine Calls.mono (HIB.out x w1) ?_
      rintro e w2 ⟨rfl, hb2⟩
      have HB2 : Hid (Below w.heap.size w w2) := trans2 HB1.out hb2
      have HN2 : Hid _ := kept_block hb2 HN1.out
      clear hb2 n0 n1 n2 n3 n4 n5 n6
      obtain ⟨n0, n1, n2, n3, n4, n5, n6⟩ := cells_7 HN2.out
      rcases hr with ⟨h1, h2⟩ | ⟨h1, h2, h3⟩
      · have e2 : decide (x.o ≠ 0) = false := by simp [h2]
        have HP2 : Hid (x.p = pRt) := h1
        rw [e2]
        rw [h1] at n0
        clear h1 h2 e2
        go_wp2_with fail
        refine Calls.mono (by have h9 := HPM.out w2 HB2.out; rw [HP2.out] at h9; exact h9) ?_
        rintro e w3 ⟨rfl, hb3⟩
        have HB3 : Hid (Below w.heap.size w w3) := trans2 HB2.out hb3
        have HN3 : Hid _ := kept_block hb3 HN2.out
        have hnl : nb < w3.heap.size := (Array.getElem?_eq_some_iff.1 HN3.out).1
        clear hb3 n0 n1 n2 n3 n4 n5 n6
        obtain ⟨n0, n1, n2, n3, n4, n5, n6⟩ := cells_7 HN3.out
        rw [HP2.out] at n0
        go_wp2_with fail
        go_ret
        exact ⟨rfl, HB3.out.alloc HB3.out.size _⟩
      · have hc : (x.p.toList == pRt.toList) = false := beq_ne h1
        have hc2 : (x.p.toList == [47]) = false := by
          cases h9 : (x.p.toList == [47]) with
          | false => rfl
          | true =>
            exfalso
            have h8 : x.p.toList = [47] := by simpa using h9
            rw [ByteArray.toList_eq] at h8
            exact h1 (ByteArray.ext (Array.ext' h8))
        subst h2
        have HU0 : Hid (up.o = 0) := h3
        have hob : (decide (x.o ≠ 0) = false) ∨ (decide (x.o ≠ 0) = true ∧ x.k = 0) := by
          by_cases ho : x.o = 0
          · exact .inl (by simp [ho])
          · exact .inr ⟨by simp [ho], HX.out.2.2.2 ho⟩
        clear h1 h3
        rcases hob with e2 | ⟨e2, e3⟩
        · rw [e2]
          clear e2
          go_wp2_with fail
          refine Calls.mono (HPM.out w2 HB2.out) ?_
          rintro e w3 ⟨rfl, hb3⟩
          have HB3 : Hid (Below w.heap.size w w3) := trans2 HB2.out hb3
          have HN3 : Hid _ := kept_block hb3 HN2.out
          have hnl : nb < w3.heap.size := (Array.getElem?_eq_some_iff.1 HN3.out).1
          clear hb3 n0 n1 n2 n3 n4 n5 n6
          obtain ⟨n0, n1, n2, n3, n4, n5, n6⟩ := cells_7 HN3.out
          go_wp2_with fail
          refine Calls.mono (HIB.out up _) ?_
          rintro e w4 ⟨rfl, hb4⟩
          have HB4 : Hid (Below w.heap.size w w4) := trans2 (HB3.out.alloc HB3.out.size _) hb4
          have e4 : decide (up.o ≠ 0) = false := by simp [HU0.out]
          rw [e4]
          clear hb4 e4
          go_wp2_with fail
          go_ret
          exact ⟨rfl, HB4.out⟩
        · rw [e2]
          rw [e3] at n6
          clear e2
          go_wp2_with fail
          refine Calls.mono (HPM.out w2 HB2.out) ?_
          rintro e w3 ⟨rfl, hb3⟩
          have HB3 : Hid (Below w.heap.size w w3) := trans2 HB2.out hb3
          have HN3 : Hid _ := kept_block hb3 HN2.out
          have hnl : nb < w3.heap.size := (Array.getElem?_eq_some_iff.1 HN3.out).1
          clear hb3 n0 n1 n2 n3 n4 n5 n6
          obtain ⟨n0, n1, n2, n3, n4, n5, n6⟩ := cells_7 HN3.out
          go_wp2_with fail
          refine Calls.mono (HIB.out up _) ?_
          rintro e w4 ⟨rfl, hb4⟩
          have HB4 : Hid (Below w.heap.size w w4) := trans2 (HB3.out.alloc HB3.out.size _) hb4
          have e4 : decide (up.o ≠ 0) = false := by simp [HU0.out]
          rw [e4]
          clear hb4 e4
          go_wp2_with fail
          go_ret
          exact ⟨rfl, HB4.out⟩
end Go.Proofs.YthelfbdkbldhjaaGreatDoor
