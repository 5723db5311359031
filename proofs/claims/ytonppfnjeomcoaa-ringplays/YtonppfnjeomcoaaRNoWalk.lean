/-
  RingOfNothing: the walk.
-/
import Derived.Test.YtonppfnjeomcoaaRPlayed
namespace Go.Proofs.Ytonppfnjeomcoaa
open Go.RowKit Classical
set_option linter.unusedVariables false
set_option linter.unusedSimpArgs false

theorem played_zero (p : Option Addr) (bx : Nat) (A : ActT) (a : Option Addr) (c n : Nat) (w : World) (h : RP w p zeroR) (hx : XZ w bx) (ho : Os w a A.e.ops) (hn : A.e.ops.length = n) (hl : (n + 2) * 56 ≤ 140737488355328) :
    Calls Try.prog 24 #[.pointer p, .pointer (some ⟨bx, 0, none⟩), A.val (.slice a n c)] w fun e' w' => e' = .returned (.bool true) ∧ Below w.heap.size w w' := by
  by_cases k1 : A.kd = 1
  · exact played_1 p bx A a c n w h hx ho hn hl k1
  by_cases k2 : A.kd = 2
  · exact played_2 p bx A a c n w h hx ho hn hl k2
  by_cases k3 : A.kd = 3
  · exact played_3 p bx A a c n w h hx k3
  by_cases k4 : A.kd = 4
  · exact played_4 p bx A a c n w h hx k4
  by_cases k5 : A.kd = 5
  · exact played_5 p bx A a c n w h hx k5
  by_cases k6 : A.kd = 6
  · exact played_6 p bx A a c n w h hx k6
  by_cases k7 : A.kd = 7
  · exact played_7 p bx A a c n w h hx k7
  by_cases k8 : A.kd = 8
  · exact played_8 p bx A a c n w h hx k8
  by_cases k9 : A.kd = 9
  · exact played_9 p bx A a c n w h hx k9
  by_cases k10 : A.kd = 10
  · exact played_10 p bx A a c n w h hx k10
  by_cases k11 : A.kd = 11
  · exact played_11 p bx A a c n w h hx k11
  by_cases k12 : A.kd = 12
  · exact played_12 p bx A a c n w h hx k12
  exact played_else p bx A a c n w h hx k1 k2 k3 k4 k5 k6 k7 k8 k9 k10 k11 k12
/-- An act, and where its ops lie. -/
structure PAct where
  A : ActT
  a : Option Addr
  c : Nat
abbrev PAct.cells (x : PAct) : List Value := [.int .i64 x.A.kd, .int .i64 x.A.n, .int .i64 x.A.m, .int .i64 x.A.e.s, .int .i64 x.A.e.v, .int .i64 x.A.e.k, .int .i64 x.A.e.se, .int .i64 x.A.e.rq, .slice x.a x.A.e.ops.length x.c]
theorem pact_len (x : PAct) : x.cells.length = 9 := rfl
/-- A script that came in. -/
structure Acts (w : World) (a : Option Addr) (l : List PAct) : Prop where
  ls : Ls PAct.cells 9 w a l
  ops : ∀ x ∈ l, Os w x.a x.A.e.ops ∧ (x.A.e.ops.length + 2) * 56 ≤ 140737488355328
theorem Acts.below {w w' : World} {a : Option Addr} {l : List PAct} (h : Acts w a l) (hb : Below w.heap.size w w') : Acts w' a l := ⟨h.ls.below hb, fun x hx => ⟨(h.ops x hx).1.below hb, (h.ops x hx).2⟩⟩
theorem Acts.at {w : World} {a : Option Addr} {l : List PAct} (h : Acts w a l) {i : Nat} {x : PAct} (hi : l[i]? = some x) : ∃ b o, a = some ⟨b, o, none⟩ ∧ b < w.heap.size ∧ w.cell? ⟨b, o + i * 9, none⟩ = some (.int .i64 x.A.kd) ∧ w.cell? ⟨b, o + i * 9 + 1, none⟩ = some (.int .i64 x.A.n) ∧ w.cell? ⟨b, o + i * 9 + 2, none⟩ = some (.int .i64 x.A.m) ∧ w.cell? ⟨b, o + i * 9 + 3, none⟩ = some (.int .i64 x.A.e.s) ∧ w.cell? ⟨b, o + i * 9 + 4, none⟩ = some (.int .i64 x.A.e.v) ∧ w.cell? ⟨b, o + i * 9 + 5, none⟩ = some (.int .i64 x.A.e.k) ∧ w.cell? ⟨b, o + i * 9 + 6, none⟩ = some (.int .i64 x.A.e.se) ∧ w.cell? ⟨b, o + i * 9 + 7, none⟩ = some (.int .i64 x.A.e.rq) ∧ w.cell? ⟨b, o + i * 9 + 8, none⟩ = some (.slice x.a x.A.e.ops.length x.c) := by
  rcases h.ls with rfl | ⟨b, o, ha, hlt, hs⟩
  · cases hi
  · exact ⟨b, o, ha, hlt, hs i x hi 0 _ rfl, hs i x hi 1 _ rfl, hs i x hi 2 _ rfl, hs i x hi 3 _ rfl, hs i x hi 4 _ rfl, hs i x hi 5 _ rfl, hs i x hi 6 _ rfl, hs i x hi 7 _ rfl, hs i x hi 8 _ rfl⟩
set_option maxHeartbeats 3200000 in
set_option maxRecDepth 100000 in
theorem nothing_walk (a : Option Addr) (c : Nat) (l : List PAct) (w : World) (h : Acts w a l) (hl : l.length ≤ maxLen) :
    Calls Try.prog 7 #[.slice a l.length c] w fun e' w' => e' = .returned (.bool true) ∧ Below w.heap.size w w' := by
  unfold maxLen at hl
  have hz := (zero_of_info zero_ring).1
  have hs := (zero_of_info zero_ring).2
  obtain ⟨Z, hZ⟩ : ∃ Z, Z = zeroCs := ⟨_, rfl⟩
  rw [← hZ] at hz
  have HZ : Hid (Z = zeroCs) := hZ
  have HB : Hid _ := begins_any w
  have HAC : Hid (Acts w a l) := h
  clear hZ h
  go_enter Try.func7, Try.ntmps7
  go_wp2_with fail
  refine Calls.mono HB.out ?_
  rintro e' w1 ⟨rfl, hb1⟩
  have HB1 : Hid (Below w.heap.size w w1) := hb1
  clear hb1 HB
  go_wp2_with fail
  obtain ⟨V, hV⟩ : ∃ V, V = ((w1.alloc (.cells Z 61)).alloc (.cells #[.int .i64 0, .int .i64 0, .int .i64 0, .int .i64 0, .slice none 0 0, .int .i64 0] 64)).alloc (.cells #[.int .i64 0, .int .i64 0, .int .i64 0, .int .i64 0, .slice none 0 0, .int .i64 0] 64) := ⟨_, rfl⟩
  rw [← hV]
  have HBV : Hid (Below w.heap.size w V) := by
    show Below _ _ _
    rw [hV]
    exact ((HB1.out.alloc HB1.out.size _).alloc (by simp; exact Nat.le_succ_of_le HB1.out.size) _).alloc (by simp; have := HB1.out.size; omega) _
  have HX : Hid (XZ V (w1.heap.size + 1)) := by
    show _ = _
    rw [hV]
    exact new_old (heap_new' (by simp)) _
  have HY : Hid (XZ V (w1.heap.size + 1 + 1)) := by
    show _ = _
    rw [hV]
    exact heap_new' (by simp)
  have HR : Hid (RP V (some ⟨w1.heap.size, 0, none⟩) zeroR) := by
    have hx : V.heap[w1.heap.size]? = some (.cells Z 61 (0, 0)) := by rw [hV]; exact new_old (new_old (heap_alloc_new _ _) _) _
    refine .inr ⟨w1.heap.size, rfl, ⟨⟨by decide, by decide, by decide, by decide, by decide, fun e he => (by cases he)⟩, ⟨Z, hx, by rw [HZ.out]; exact zeroCs_size⟩, ?_, ?_, ?_, ?_, ?_, fun k e hk => by cases hk⟩⟩
    all_goals rw [cell_blk hx, HZ.out]
    · exact zeroCs_at.1
    · exact zeroCs_at.2.1
    · exact zeroCs_at.2.2.1
    · exact zeroCs_at.2.2.2.1
    · exact zeroCs_at.2.2.2.2
  have HAV : Hid (Acts V a l) := HAC.out.below HBV.out
  have HS1 : Hid (∀ w', Below V.heap.size V w' → _) := fun w' hb => stands_zero none (w1.heap.size + 1) w' (.inl ⟨rfl, rfl⟩) (HX.out.below hb)
  have HS2 : Hid (∀ w', Below V.heap.size V w' → _) := fun w' hb => stands_zero (some ⟨w1.heap.size, 0, none⟩) (w1.heap.size + 1 + 1) w' (HR.out.below hb) (HY.out.below hb)
  have HP1 : Hid (∀ w' (x : PAct), x ∈ l → Below V.heap.size V w' → _) := fun w' x hx hb => played_zero none (w1.heap.size + 1) x.A x.a x.c x.A.e.ops.length w' (.inl ⟨rfl, rfl⟩) (HX.out.below hb) ((HAV.out.ops x hx).1.below hb) rfl (HAV.out.ops x hx).2
  have HP2 : Hid (∀ w' (x : PAct), x ∈ l → Below V.heap.size V w' → _) := fun w' x hx hb => played_zero (some ⟨w1.heap.size, 0, none⟩) (w1.heap.size + 1 + 1) x.A x.a x.c x.A.e.ops.length w' (HR.out.below hb) (HY.out.below hb) ((HAV.out.ops x hx).1.below hb) rfl (HAV.out.ops x hx).2
  clear hV hz hs HZ
  obtain ⟨m, hm⟩ : ∃ m, l.length = m := ⟨_, rfl⟩
  rw [hm] at hl ⊢
  have HM : Hid (l.length = m) := hm
  clear hm
  go_loopw [8] (fun i wr => ∃ q : Nat, i = .int .i64 q ∧ q ≤ m ∧ Hid (Below V.heap.size V wr)) (fun i _ => m - (intOf i).toNat)
  case atStart => exact ⟨0, rfl, Nat.zero_le _, Below.refl _ _⟩
  case round =>
    obtain ⟨q, rfl, hq, HBr⟩ := hrel
    by_cases hlt : q < m ∧ q < 40
    · obtain ⟨hlt, h40⟩ := hlt
      have hlt' : (q : Int) < (m : Int) := by omega
      have h40' : (q : Int) < 40 := by omega
      obtain ⟨x, hx⟩ : ∃ x, l[q]? = some x := ⟨l[q]'(by rw [HM.out]; exact hlt), List.getElem?_eq_getElem _⟩
      obtain ⟨b, o, rfl, hb, x0, x1, x2, x3, x4, x5, x6, x7, x8⟩ := (HAV.out.below HBr.out).at hx
      have HXM : Hid (x ∈ l) := List.mem_of_getElem? hx
      clear hx
      go_wp2_with fail
      refine Calls.mono (HP1.out _ x HXM.out HBr.out) ?_
      rintro e' w2 ⟨rfl, hb2⟩
      have HB2 : Hid (Below V.heap.size V w2) := trans2 HBr.out hb2
      have hq2 : ∀ o v, wr.cell? ⟨b, o, none⟩ = some v → w2.cell? ⟨b, o, none⟩ = some v := fun o v hv => by rw [hb2.cell (p := ⟨b, o, none⟩) hb]; exact hv
      have x0 := hq2 _ _ x0
      have x1 := hq2 _ _ x1
      have x2 := hq2 _ _ x2
      have x3 := hq2 _ _ x3
      have x4 := hq2 _ _ x4
      have x5 := hq2 _ _ x5
      have x6 := hq2 _ _ x6
      have x7 := hq2 _ _ x7
      have x8 := hq2 _ _ x8
      clear hb2 hq2
      go_wp2_with fail
      refine Calls.mono (HP2.out _ x HXM.out HB2.out) ?_
      rintro e' w3 ⟨rfl, hb3⟩
      have HB3 : Hid (Below V.heap.size V w3) := trans2 HB2.out hb3
      clear hb3
      go_wp2_with fail
      refine Calls.mono (HS1.out _ HB3.out) ?_
      rintro e' w4 ⟨rfl, hb4⟩
      have HB4 : Hid (Below V.heap.size V w4) := trans2 HB3.out hb4
      clear hb4
      go_wp2_with fail
      refine Calls.mono (HS2.out _ HB4.out) ?_
      rintro e' w5 ⟨rfl, hb5⟩
      have HB5 : Hid (Below V.heap.size V w5) := trans2 HB4.out hb5
      clear hb5
      go_wp2_with fail
      go_roundw
      case rel => exact ⟨q + 1, by go_num, by omega, HB5⟩
      case measure => simp [intOf]; omega
    · have hor : ¬ q < m ∨ (q < m ∧ ¬ q < 40) := by omega
      rcases hor with h1 | ⟨h1, h2⟩
      · have h1' : ¬ (q : Int) < (m : Int) := by omega
        go_wp2_with fail
        refine Calls.mono (HS1.out _ HBr.out) ?_
        rintro e' w4 ⟨rfl, hb4⟩
        have HB4 : Hid (Below V.heap.size V w4) := trans2 HBr.out hb4
        clear hb4
        go_wp2_with fail
        refine Calls.mono (HS2.out _ HB4.out) ?_
        rintro e' w5 ⟨rfl, hb5⟩
        have HB5 : Hid (Below V.heap.size V w5) := trans2 HB4.out hb5
        clear hb5
        go_wp2_with fail
        go_ret
        exact ⟨rfl, trans2 HBV.out HB5.out⟩
      · have h1' : (q : Int) < (m : Int) := by omega
        have h2' : ¬ (q : Int) < 40 := by omega
        go_wp2_with fail
        refine Calls.mono (HS1.out _ HBr.out) ?_
        rintro e' w4 ⟨rfl, hb4⟩
        have HB4 : Hid (Below V.heap.size V w4) := trans2 HBr.out hb4
        clear hb4
        go_wp2_with fail
        refine Calls.mono (HS2.out _ HB4.out) ?_
        rintro e' w5 ⟨rfl, hb5⟩
        have HB5 : Hid (Below V.heap.size V w5) := trans2 HB4.out hb5
        clear hb5
        go_wp2_with fail
        go_ret
        exact ⟨rfl, trans2 HBV.out HB5.out⟩
end Go.Proofs.Ytonppfnjeomcoaa
