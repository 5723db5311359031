/-
  tree: read of the law (written by mktread.py).
-/
import Derived.Test.YtliafokjdngejaaGreatDoorTReadA
namespace Go.Proofs.YtliafokjdngejaaGreatDoor
open Go.RowKit Go.Maps Go.WideShapes
set_option linter.unusedVariables false
set_option linter.unusedSimpArgs false
attribute [local go_sem ↓] Go.wp_at_zero Go.wp_at_succ

def kidL (T : List Nd) (at' : ByteArray) : List ByteArray := (T.filter (fun y => decide (parC y.p = 0 ∧ parB y.p = at'))).map (fun y => lastN y.p)
theorem kidL_snoc {T : List Nd} {at' : ByteArray} {q : Nat} {x : Nd} (hx : T[q]? = some x) : kidL (T.take (q + 1)) at' = kidL (T.take q) at' ++ (if parC x.p = 0 ∧ parB x.p = at' then [lastN x.p] else []) := by
  unfold kidL
  rw [List.take_add_one, hx, List.filter_append, List.map_append]
  by_cases h : parC x.p = 0 ∧ parB x.p = at' <;> simp [h]
theorem kidL_len (T : List Nd) (at' : ByteArray) : (kidL T at').length ≤ T.length := by
  unfold kidL
  rw [List.length_map]
  exact List.length_filter_le _ _
theorem kids_eq {T : List Nd} (h : Inv T) {at' : ByteArray} (hp : (parse at').1 = 0) : kidsM T at' = kidL T at' := by
  unfold kidsM kidL
  congr 1
  apply List.filter_congr
  intro y hy
  have hyp := (h.nd y hy).1
  unfold kidP wF
  rw [show (⟨(Nd.by y).toArray⟩ : ByteArray) = y.p from rfl]
  by_cases hr : y.p = pRt
  · have e1 : parC y.p = 47 := by rw [hr]; kernel_rfl
    have hc : childB at' y.p = false := by rw [hr]; rfl
    rw [e1]
    unfold covers cov
    rw [hc]
    simp
    intro _ _ _ h9
    unfold eqB at h9
    have h8 : y.p.toList = at'.toList := by simpa using h9
    rw [ByteArray.toList_eq, ByteArray.toList_eq] at h8
    exact ByteArray.ext (Array.ext' h8)
  · obtain ⟨xs, k, x, hxs, hl, _, _⟩ := names_of hyp hr
    have e1 := parC_zero hyp hr
    have e2 := par_of (x := x) hxs hl
    have hne : xs.isEmpty = false := by cases xs with | nil => simp at hl | cons _ _ => rfl
    have hless := par_less hyp hr
    by_cases hpa : parB y.p = at'
    · have h1 := kid_of_par hyp hp hr hpa
      rw [h1]
      have hne2 : y.p ≠ at' := fun e => by
        rw [hpa, ← e, O_self] at hless
        cases hless
      simp [hne2, e1, hpa]
    · have hc : childB at' y.p = false := by
        unfold childB
        rw [hxs]
        simp only [hne, hl, Nat.add_sub_cancel]
        rw [← e2]
        simp
        intro e
        rw [ByteArray.toList_eq, ByteArray.toList_eq] at e
        exact hpa (ByteArray.ext (Array.ext' e))
      unfold covers cov
      rw [hc]
      by_cases hya : y.p = at'
      · simp [hya, hpa]
        intro _
        rw [hya] at hpa
        exact hpa
      · have : eqB y.p at' = false := beq_ne hya
        rw [this]
        simp [hpa]

set_option maxHeartbeats 6400000 in
set_option maxRecDepth 100000 in
theorem read_4 (B g cap kb : Nat) (T : List Nd) (x : Nd) (ka : Option Addr) (kn kc : Nat) (w : World) (hT : Inv T) (hxp : (parse x.p).1 = 0) (hr : w.ownsRow B 54 7 (.slice (some ⟨g, 0, none⟩) T.length cap) T.length (T.flatMap Nd.cs)) (hK : w.ownsRow kb 9 1 (.slice ka kn kc) (([] : List ByteArray)).length ((([] : List ByteArray)).map Value.string)) (hg : Ground w) :
    Calls Tryz.prog 22 #[.agg #[.string x.p, .string ⟨#[]⟩, .int .i64 x.v, .int .i64 x.m, .int .i64 x.c, .int .i64 x.o, .slice ka kn kc], .int .i64 4, .slice (some ⟨g, 0, none⟩) T.length cap, x.V] w fun e w' => e = .returned (.bool true) ∧ Below w.heap.size w w' := by
  obtain ⟨i0, hi, hz0, hz1, hz2⟩ := info_parts Tryz.infoT
  have HK : Hid (w.ownsRow kb 9 1 (.slice ka kn kc) _ _) := hK
  have HG : Hid (Ground w) := hg
  have hgl : g < w.heap.size := (hr.lt g rfl).2
  have HND : Hid (∀ (wr : World), Below w.heap.size w wr → ∀ q x v, T[q]? = some x → x.cs[0]? = some v → wr.cell? ⟨g, q * 7, none⟩ = some v) := fun wr hb q x v hx hv => by rw [hb.cell (p := ⟨g, q * 7, none⟩) hgl]; exact nd_cell (j := 0) hr hx hv
  obtain ⟨N, hN⟩ : ∃ N, T.length = N := ⟨_, rfl⟩
  have HN : Hid (T.length = N) := hN
  have hN64 : N ≤ 64 := by rw [← hN]; exact hT.len
  have HNM : Hid (∀ p W, Ground W → _) := fun p W h => name_any p W h
  have HPA : Hid (∀ p W, Ground W → _) := fun p W h => parentOf_any p W h
  rw [hN]
  clear hT hr hK hg hN
  go_enter Tryz.func22, Tryz.ntmps22
  go_upto_region 1 with fail
  obtain ⟨w2, hw2⟩ : ∃ y, (w.alloc (.cells #[.string x.p, .string ⟨#[]⟩, .int .i64 x.v, .int .i64 x.m, .int .i64 x.c, .int .i64 x.o, .slice ka kn kc] 40)).alloc (.cells #[.string x.p, .string x.d, .int .i64 x.v, .int .i64 x.m, .int .i64 x.c, .int .i64 x.o, .int .i64 x.k] 54) = y := ⟨_, rfl⟩
  obtain ⟨rb, hrb⟩ : ∃ y, w.heap.size = y := ⟨_, rfl⟩
  have HRB : Hid (w.heap.size = rb) := hrb
  have HB2 : Hid (Below w.heap.size w w2) := by rw [← hw2]; exact ((Below.refl _ _).alloc (Nat.le_refl _) _).alloc (by simp) _
  have HO2 : Hid (w2.heap[rb]? = some (.cells #[.string x.p, .string ⟨#[]⟩, .int .i64 x.v, .int .i64 x.m, .int .i64 x.c, .int .i64 x.o, .slice ka kn kc] 40 (0, 0))) := by rw [← hw2, ← hrb]; exact heap_alloc2_old _ _ _
  have HZ2 : Hid (w2.heap[rb + 1]? = some (.cells #[.string x.p, .string x.d, .int .i64 x.v, .int .i64 x.m, .int .i64 x.c, .int .i64 x.o, .int .i64 x.k] 54 (0, 0))) := by rw [← hw2, ← hrb]; exact heap_alloc2_new _ _ _
  rw [hw2, hrb]
  clear hw2 hrb
  go_wp2_with fail
  go_loopw [9, 10] (fun v i wr => i = .int .i64 0 ∧ v = .slice none 0 0 ∧ Hid (Below w2.heap.size w2 wr)) (fun _ i _ => 0)
  case atStart => exact ⟨rfl, rfl, Below.refl _ _⟩
  case round =>
    obtain ⟨rfl, rfl, HB⟩ := hrel
    have hsplit : (0 : Int) < (N : Int) ∨ ¬ (0 : Int) < (N : Int) := by omega
    rcases hsplit with hs0 | hs0
    all_goals (
      have HO3 : Hid _ := kept_block HB.out HO2.out
      have HZ3 : Hid _ := kept_block HB.out HZ2.out
      obtain ⟨r0, r1, r2, r3, r4, r5, r6⟩ := cells_7 HO3.out
      obtain ⟨n0, n1, n2, n3, n4, n5, n6⟩ := cells_7 HZ3.out
      have HBW : Hid (Below w.heap.size w wr) := trans2 HB2.out HB.out
      have HTX : Hid _ := textsT_any kb w2.heap.size (.slice ka kn kc) (.slice none 0 0) [] wr (owns_chg HK.out (Chg.of_below HBW.out (fun _ => False)) (fun _ _ => id)) (World.ownsRow_nil _ _ _ _) (by simp)
      go_wp2_with fail
      refine Calls.mono HTX.out ?_
      rintro e w5 ⟨rfl, hb5⟩
      have HB5 : Hid (Below w.heap.size w w5) := trans2 HBW.out hb5
      clear hb5
      go_wp2_with fail
      go_ret
      exact ⟨rfl, HB5.out⟩)

set_option maxHeartbeats 6400000 in
set_option maxRecDepth 100000 in
theorem read_5 (B g cap kb : Nat) (T : List Nd) (x : Nd) (ka : Option Addr) (kn kc : Nat) (w : World) (hT : Inv T) (hxp : (parse x.p).1 = 0) (hr : w.ownsRow B 54 7 (.slice (some ⟨g, 0, none⟩) T.length cap) T.length (T.flatMap Nd.cs)) (hK : w.ownsRow kb 9 1 (.slice ka kn kc) (([] : List ByteArray)).length ((([] : List ByteArray)).map Value.string)) (hg : Ground w) :
    Calls Tryz.prog 22 #[.agg #[.string x.p, .string x.d, .int .i64 x.v, .int .i64 x.m, .int .i64 x.c, .int .i64 x.o, .slice ka kn kc], .int .i64 5, .slice (some ⟨g, 0, none⟩) T.length cap, x.V] w fun e w' => e = .returned (.bool true) ∧ Below w.heap.size w w' := by
  obtain ⟨i0, hi, hz0, hz1, hz2⟩ := info_parts Tryz.infoT
  have HK : Hid (w.ownsRow kb 9 1 (.slice ka kn kc) _ _) := hK
  have HG : Hid (Ground w) := hg
  have hgl : g < w.heap.size := (hr.lt g rfl).2
  have HND : Hid (∀ (wr : World), Below w.heap.size w wr → ∀ q x v, T[q]? = some x → x.cs[0]? = some v → wr.cell? ⟨g, q * 7, none⟩ = some v) := fun wr hb q x v hx hv => by rw [hb.cell (p := ⟨g, q * 7, none⟩) hgl]; exact nd_cell (j := 0) hr hx hv
  obtain ⟨N, hN⟩ : ∃ N, T.length = N := ⟨_, rfl⟩
  have HN : Hid (T.length = N) := hN
  have hN64 : N ≤ 64 := by rw [← hN]; exact hT.len
  have HNM : Hid (∀ p W, Ground W → _) := fun p W h => name_any p W h
  have HPA : Hid (∀ p W, Ground W → _) := fun p W h => parentOf_any p W h
  rw [hN]
  clear hT hr hK hg hN
  go_enter Tryz.func22, Tryz.ntmps22
  go_upto_region 1 with fail
  obtain ⟨w2, hw2⟩ : ∃ y, (w.alloc (.cells #[.string x.p, .string x.d, .int .i64 x.v, .int .i64 x.m, .int .i64 x.c, .int .i64 x.o, .slice ka kn kc] 40)).alloc (.cells #[.string x.p, .string x.d, .int .i64 x.v, .int .i64 x.m, .int .i64 x.c, .int .i64 x.o, .int .i64 x.k] 54) = y := ⟨_, rfl⟩
  obtain ⟨rb, hrb⟩ : ∃ y, w.heap.size = y := ⟨_, rfl⟩
  have HRB : Hid (w.heap.size = rb) := hrb
  have HB2 : Hid (Below w.heap.size w w2) := by rw [← hw2]; exact ((Below.refl _ _).alloc (Nat.le_refl _) _).alloc (by simp) _
  have HO2 : Hid (w2.heap[rb]? = some (.cells #[.string x.p, .string x.d, .int .i64 x.v, .int .i64 x.m, .int .i64 x.c, .int .i64 x.o, .slice ka kn kc] 40 (0, 0))) := by rw [← hw2, ← hrb]; exact heap_alloc2_old _ _ _
  have HZ2 : Hid (w2.heap[rb + 1]? = some (.cells #[.string x.p, .string x.d, .int .i64 x.v, .int .i64 x.m, .int .i64 x.c, .int .i64 x.o, .int .i64 x.k] 54 (0, 0))) := by rw [← hw2, ← hrb]; exact heap_alloc2_new _ _ _
  rw [hw2, hrb]
  clear hw2 hrb
  go_wp2_with fail
  go_loopw [9, 10] (fun v i wr => i = .int .i64 0 ∧ v = .slice none 0 0 ∧ Hid (Below w2.heap.size w2 wr)) (fun _ i _ => 0)
  case atStart => exact ⟨rfl, rfl, Below.refl _ _⟩
  case round =>
    obtain ⟨rfl, rfl, HB⟩ := hrel
    have hsplit : (0 : Int) < (N : Int) ∨ ¬ (0 : Int) < (N : Int) := by omega
    rcases hsplit with hs0 | hs0
    all_goals (
      have HO3 : Hid _ := kept_block HB.out HO2.out
      have HZ3 : Hid _ := kept_block HB.out HZ2.out
      obtain ⟨r0, r1, r2, r3, r4, r5, r6⟩ := cells_7 HO3.out
      obtain ⟨n0, n1, n2, n3, n4, n5, n6⟩ := cells_7 HZ3.out
      have HBW : Hid (Below w.heap.size w wr) := trans2 HB2.out HB.out
      have HTX : Hid _ := textsT_any kb w2.heap.size (.slice ka kn kc) (.slice none 0 0) [] wr (owns_chg HK.out (Chg.of_below HBW.out (fun _ => False)) (fun _ _ => id)) (World.ownsRow_nil _ _ _ _) (by simp)
      go_wp2_with fail
      refine Calls.mono HTX.out ?_
      rintro e w5 ⟨rfl, hb5⟩
      have HB5 : Hid (Below w.heap.size w w5) := trans2 HBW.out hb5
      clear hb5
      go_wp2_with fail
      go_ret
      exact ⟨rfl, HB5.out⟩)

set_option maxHeartbeats 6400000 in
set_option maxRecDepth 100000 in
theorem read_6 (B g cap kb : Nat) (T : List Nd) (x : Nd) (ka : Option Addr) (kn kc : Nat) (w : World) (hT : Inv T) (hxp : (parse x.p).1 = 0) (hr : w.ownsRow B 54 7 (.slice (some ⟨g, 0, none⟩) T.length cap) T.length (T.flatMap Nd.cs)) (hK : w.ownsRow kb 9 1 (.slice ka kn kc) (([] : List ByteArray)).length ((([] : List ByteArray)).map Value.string)) (hg : Ground w) :
    Calls Tryz.prog 22 #[.agg #[.string x.p, .string ⟨#[]⟩, .int .i64 x.v, .int .i64 x.m, .int .i64 x.c, .int .i64 x.o, .slice ka kn kc], .int .i64 6, .slice (some ⟨g, 0, none⟩) T.length cap, x.V] w fun e w' => e = .returned (.bool true) ∧ Below w.heap.size w w' := by
  obtain ⟨i0, hi, hz0, hz1, hz2⟩ := info_parts Tryz.infoT
  have HK : Hid (w.ownsRow kb 9 1 (.slice ka kn kc) _ _) := hK
  have HG : Hid (Ground w) := hg
  have hgl : g < w.heap.size := (hr.lt g rfl).2
  have HND : Hid (∀ (wr : World), Below w.heap.size w wr → ∀ q x v, T[q]? = some x → x.cs[0]? = some v → wr.cell? ⟨g, q * 7, none⟩ = some v) := fun wr hb q x v hx hv => by rw [hb.cell (p := ⟨g, q * 7, none⟩) hgl]; exact nd_cell (j := 0) hr hx hv
  obtain ⟨N, hN⟩ : ∃ N, T.length = N := ⟨_, rfl⟩
  have HN : Hid (T.length = N) := hN
  have hN64 : N ≤ 64 := by rw [← hN]; exact hT.len
  have HNM : Hid (∀ p W, Ground W → _) := fun p W h => name_any p W h
  have HPA : Hid (∀ p W, Ground W → _) := fun p W h => parentOf_any p W h
  rw [hN]
  clear hT hr hK hg hN
  go_enter Tryz.func22, Tryz.ntmps22
  go_upto_region 1 with fail
  obtain ⟨w2, hw2⟩ : ∃ y, (w.alloc (.cells #[.string x.p, .string ⟨#[]⟩, .int .i64 x.v, .int .i64 x.m, .int .i64 x.c, .int .i64 x.o, .slice ka kn kc] 40)).alloc (.cells #[.string x.p, .string x.d, .int .i64 x.v, .int .i64 x.m, .int .i64 x.c, .int .i64 x.o, .int .i64 x.k] 54) = y := ⟨_, rfl⟩
  obtain ⟨rb, hrb⟩ : ∃ y, w.heap.size = y := ⟨_, rfl⟩
  have HRB : Hid (w.heap.size = rb) := hrb
  have HB2 : Hid (Below w.heap.size w w2) := by rw [← hw2]; exact ((Below.refl _ _).alloc (Nat.le_refl _) _).alloc (by simp) _
  have HO2 : Hid (w2.heap[rb]? = some (.cells #[.string x.p, .string ⟨#[]⟩, .int .i64 x.v, .int .i64 x.m, .int .i64 x.c, .int .i64 x.o, .slice ka kn kc] 40 (0, 0))) := by rw [← hw2, ← hrb]; exact heap_alloc2_old _ _ _
  have HZ2 : Hid (w2.heap[rb + 1]? = some (.cells #[.string x.p, .string x.d, .int .i64 x.v, .int .i64 x.m, .int .i64 x.c, .int .i64 x.o, .int .i64 x.k] 54 (0, 0))) := by rw [← hw2, ← hrb]; exact heap_alloc2_new _ _ _
  rw [hw2, hrb]
  clear hw2 hrb
  go_wp2_with fail
  go_loopw [9, 10] (fun v i wr => i = .int .i64 0 ∧ v = .slice none 0 0 ∧ Hid (Below w2.heap.size w2 wr)) (fun _ i _ => 0)
  case atStart => exact ⟨rfl, rfl, Below.refl _ _⟩
  case round =>
    obtain ⟨rfl, rfl, HB⟩ := hrel
    have hsplit : (0 : Int) < (N : Int) ∨ ¬ (0 : Int) < (N : Int) := by omega
    rcases hsplit with hs0 | hs0
    all_goals (
      have HO3 : Hid _ := kept_block HB.out HO2.out
      have HZ3 : Hid _ := kept_block HB.out HZ2.out
      obtain ⟨r0, r1, r2, r3, r4, r5, r6⟩ := cells_7 HO3.out
      obtain ⟨n0, n1, n2, n3, n4, n5, n6⟩ := cells_7 HZ3.out
      have HBW : Hid (Below w.heap.size w wr) := trans2 HB2.out HB.out
      have HTX : Hid _ := textsT_any kb w2.heap.size (.slice ka kn kc) (.slice none 0 0) [] wr (owns_chg HK.out (Chg.of_below HBW.out (fun _ => False)) (fun _ _ => id)) (World.ownsRow_nil _ _ _ _) (by simp)
      go_wp2_with fail
      refine Calls.mono HTX.out ?_
      rintro e w5 ⟨rfl, hb5⟩
      have HB5 : Hid (Below w.heap.size w w5) := trans2 HBW.out hb5
      clear hb5
      go_wp2_with fail
      go_ret
      exact ⟨rfl, HB5.out⟩)

set_option maxHeartbeats 6400000 in
set_option maxRecDepth 100000 in
theorem read_7 (B g cap kb : Nat) (T : List Nd) (x : Nd) (ka : Option Addr) (kn kc : Nat) (w : World) (hT : Inv T) (hxp : (parse x.p).1 = 0) (hr : w.ownsRow B 54 7 (.slice (some ⟨g, 0, none⟩) T.length cap) T.length (T.flatMap Nd.cs)) (hK : w.ownsRow kb 9 1 (.slice ka kn kc) (kidsM T x.p).length ((kidsM T x.p).map Value.string)) (hg : Ground w) :
    Calls Tryz.prog 22 #[.agg #[.string x.p, .string ⟨#[]⟩, .int .i64 x.v, .int .i64 x.m, .int .i64 x.c, .int .i64 x.o, .slice ka kn kc], .int .i64 7, .slice (some ⟨g, 0, none⟩) T.length cap, x.V] w fun e w' => e = .returned (.bool true) ∧ Below w.heap.size w w' := by
  rw [kids_eq hT hxp] at hK
  obtain ⟨i0, hi, hz0, hz1, hz2⟩ := info_parts Tryz.infoT
  have HK : Hid (w.ownsRow kb 9 1 (.slice ka kn kc) _ _) := hK
  have HG : Hid (Ground w) := hg
  have hgl : g < w.heap.size := (hr.lt g rfl).2
  have HND : Hid (∀ (wr : World), Below w.heap.size w wr → ∀ q x v, T[q]? = some x → x.cs[0]? = some v → wr.cell? ⟨g, q * 7, none⟩ = some v) := fun wr hb q x v hx hv => by rw [hb.cell (p := ⟨g, q * 7, none⟩) hgl]; exact nd_cell (j := 0) hr hx hv
  obtain ⟨N, hN⟩ : ∃ N, T.length = N := ⟨_, rfl⟩
  have HN : Hid (T.length = N) := hN
  have hN64 : N ≤ 64 := by rw [← hN]; exact hT.len
  have HNM : Hid (∀ p W, Ground W → _) := fun p W h => name_any p W h
  have HPA : Hid (∀ p W, Ground W → _) := fun p W h => parentOf_any p W h
  rw [hN]
  clear hT hr hK hg hN
  go_enter Tryz.func22, Tryz.ntmps22
  go_upto_region 1 with fail
  obtain ⟨w2, hw2⟩ : ∃ y, (w.alloc (.cells #[.string x.p, .string ⟨#[]⟩, .int .i64 x.v, .int .i64 x.m, .int .i64 x.c, .int .i64 x.o, .slice ka kn kc] 40)).alloc (.cells #[.string x.p, .string x.d, .int .i64 x.v, .int .i64 x.m, .int .i64 x.c, .int .i64 x.o, .int .i64 x.k] 54) = y := ⟨_, rfl⟩
  obtain ⟨rb, hrb⟩ : ∃ y, w.heap.size = y := ⟨_, rfl⟩
  have HRB : Hid (w.heap.size = rb) := hrb
  have HB2 : Hid (Below w.heap.size w w2) := by rw [← hw2]; exact ((Below.refl _ _).alloc (Nat.le_refl _) _).alloc (by simp) _
  have HO2 : Hid (w2.heap[rb]? = some (.cells #[.string x.p, .string ⟨#[]⟩, .int .i64 x.v, .int .i64 x.m, .int .i64 x.c, .int .i64 x.o, .slice ka kn kc] 40 (0, 0))) := by rw [← hw2, ← hrb]; exact heap_alloc2_old _ _ _
  have HZ2 : Hid (w2.heap[rb + 1]? = some (.cells #[.string x.p, .string x.d, .int .i64 x.v, .int .i64 x.m, .int .i64 x.c, .int .i64 x.o, .int .i64 x.k] 54 (0, 0))) := by rw [← hw2, ← hrb]; exact heap_alloc2_new _ _ _
  rw [hw2, hrb]
  clear hw2 hrb
  go_wp2_with fail
  go_loopw [9, 10] (fun v i wr => ∃ q : Nat, i = .int .i64 q ∧ q ≤ N ∧ Hid (wr.ownsRow w2.heap.size 9 1 v (kidL (T.take q) x.p).length ((kidL (T.take q) x.p).map Value.string)) ∧ Hid (Below w2.heap.size w2 wr)) (fun _ i _ => N - (intOf i).toNat)
  case atStart => exact ⟨0, rfl, Nat.zero_le _, World.ownsRow_nil _ _ _ _, Below.refl _ _⟩
  case round =>
    obtain ⟨q, rfl, hq, HO, HB⟩ := hrel
    by_cases hlt : q < N
    · have hlt' : (q : Int) < (N : Int) := by omega
      obtain ⟨y, hy⟩ : ∃ y, T[q]? = some y := ⟨T[q]'(by rw [HN.out]; exact hlt), List.getElem?_eq_getElem _⟩
      have HBW : Hid (Below w.heap.size w wr) := trans2 HB2.out HB.out
      have HY : Hid (∀ W, Below w.heap.size w W → W.cell? ⟨g, q * 7, none⟩ = some (.string y.p)) := fun W hb => HND.out W hb q y _ hy rfl
      have y0 := HY.out wr HBW.out
      have HSN : Hid (kidL (T.take (q + 1)) x.p = kidL (T.take q) x.p ++ (if parC y.p = 0 ∧ parB y.p = x.p then [lastN y.p] else [])) := kidL_snoc hy
      have HLL : Hid ((kidL (T.take q) x.p).length ≤ 64) := Nat.le_trans (kidL_len _ _) (by rw [List.length_take]; omega)
      obtain ⟨L, hL⟩ : ∃ L, kidL (T.take q) x.p = L := ⟨_, rfl⟩
      rw [hL] at HO HLL HSN
      clear hL hy
      go_wp2_with fail
      refine Calls.mono (HPA.out y.p wr (HG.out.below HBW.out)) ?_
      rintro e w3 ⟨rfl, hb3⟩
      have HB3 : Hid (Below w2.heap.size w2 w3) := trans2 HB.out hb3
      have HO3 : Hid (w3.ownsRow w2.heap.size 9 1 u9 L.length (L.map Value.string)) := owns_chg HO.out (Chg.of_below hb3 (fun _ => False)) (fun _ _ => id)
      have HBW3 : Hid (Below w.heap.size w w3) := trans2 HBW.out hb3
      clear hb3 y0
      have y0 := HY.out w3 HBW3.out
      go_wp2_with fail
      refine Calls.mono (HNM.out y.p w3 (HG.out.below HBW3.out)) ?_
      rintro e w4 ⟨rfl, hb4⟩
      have HB4 : Hid (Below w2.heap.size w2 w4) := trans2 HB3.out hb4
      have HO4 : Hid (w4.ownsRow w2.heap.size 9 1 u9 L.length (L.map Value.string)) := owns_chg HO3.out (Chg.of_below hb4 (fun _ => False)) (fun _ _ => id)
      have HZ4 : Hid _ := kept_block HB4.out HZ2.out
      have hs4 := HB4.out.size
      clear hb4 y0
      obtain ⟨n0, n1, n2, n3, n4, n5, n6⟩ := cells_7 HZ4.out
      by_cases hpc : parC y.p = 0
      · have HPC : Hid (parC y.p = 0) := hpc
        rw [hpc]
        by_cases hpb : parB y.p = x.p
        · have hc : ((parB y.p).toList == x.p.toList) = true := by rw [hpb]; simp
          have HE : Hid (kidL (T.take (q + 1)) x.p = L ++ [lastN y.p]) := by show _ = _; rw [HSN.out, if_pos ⟨hpc, hpb⟩]
          clear hpb hpc
          go_wp2_with (first
            | (go_at_call 12; refine Calls.mono (numT_any _ _) ?_; rintro e w' ⟨rfl, rfl⟩)
            | (at_builtin; refine wpList_append_own _ rfl _ _ 38 rfl w2.heap.size 9 i0 (.string ⟨#[]⟩) 1 16 Tryz.underlying38 hi hz0 hz1 hz2 rfl (by decide) _ _ _ rfl (World.ownsRow.alloc HO4.out _) ⟨w'.heap.size, 0, none⟩ 1 1 [.string (lastN y.p)] rfl rfl (cell_one_new _ _ _) (by simp [Value.oneCell']) (by have := HLL.out; unfold maxLen; omega) (by have := HLL.out; omega) (by simp; omega) ?_; intro v' w6 hown6 hg6 hnil6; go_frame)
            | fail)
          go_roundw
          case rel =>
            refine ⟨q + 1, by go_num, by omega, ?_, ?_⟩
            · show World.ownsRow _ _ _ _ _ _ _
              rw [HE.out]
              simpa using hown6
            · exact (HB4.out.alloc hs4 _).grown hg6 (by simp; omega) (fun j hj => (HO4.out.lt j hj).1)
          case measure => simp [intOf]; omega
        · have hc : ((parB y.p).toList == x.p.toList) = false := beq_ne hpb
          have HE : Hid (kidL (T.take (q + 1)) x.p = L) := by show _ = _; rw [HSN.out, if_neg (fun h => hpb h.2), List.append_nil]
          clear hpb hpc
          go_wp2_with (first
            | (go_at_call 12; refine Calls.mono (numT_any _ _) ?_; rintro e w' ⟨rfl, rfl⟩)
            | fail)
          go_roundw
          case rel => exact ⟨q + 1, by go_num, by omega, by show World.ownsRow _ _ _ _ _ _ _; rw [HE.out]; exact HO4.out, HB4.out⟩
          case measure => simp [intOf]; omega
      · have hc : (parC y.p == 0) = false := by simpa using hpc
        have HE : Hid (kidL (T.take (q + 1)) x.p = L) := by show _ = _; rw [HSN.out, if_neg (fun h => hpc h.1), List.append_nil]
        clear hpc
        go_wp2_with (first
          | (go_at_call 12; refine Calls.mono (numT_any _ _) ?_; rintro e w' ⟨rfl, rfl⟩)
          | fail)
        go_roundw
        case rel => exact ⟨q + 1, by go_num, by omega, by show World.ownsRow _ _ _ _ _ _ _; rw [HE.out]; exact HO4.out, HB4.out⟩
        case measure => simp [intOf]; omega
    · obtain rfl : q = N := by omega
      have HOE : Hid (wr.ownsRow w2.heap.size 9 1 u9 (kidL T x.p).length ((kidL T x.p).map Value.string)) := by
        have h9 := HO.out
        rw [List.take_of_length_le (by rw [HN.out]; exact Nat.le_refl _)] at h9
        exact h9
      have HO3 : Hid _ := kept_block HB.out HO2.out
      have HZ3 : Hid _ := kept_block HB.out HZ2.out
      obtain ⟨r0, r1, r2, r3, r4, r5, r6⟩ := cells_7 HO3.out
      obtain ⟨n0, n1, n2, n3, n4, n5, n6⟩ := cells_7 HZ3.out
      have HBW : Hid (Below w.heap.size w wr) := trans2 HB2.out HB.out
      have HTX : Hid _ := textsT_any kb w2.heap.size (.slice ka kn kc) u9 (kidL T x.p) wr (owns_chg HK.out (Chg.of_below HBW.out (fun _ => False)) (fun _ _ => id)) HOE.out (Nat.le_trans (kidL_len _ _) (by rw [HN.out]; omega))
      go_wp2_with fail
      refine Calls.mono HTX.out ?_
      rintro e w5 ⟨rfl, hb5⟩
      have HB5 : Hid (Below w.heap.size w w5) := trans2 HBW.out hb5
      clear hb5
      go_wp2_with fail
      go_ret
      exact ⟨rfl, HB5.out⟩

end Go.Proofs.YtliafokjdngejaaGreatDoor
