/-
  note: checks of ops, watches, nodes, shots, parts, results, entries.
-/
import Derived.Test.YtdjfeomdiljaeaaGreatDoorNtLst
namespace Go.Proofs.YtdjfeomdiljaeaaGreatDoor
open Go.RowKit
set_option linter.unusedVariables false
set_option linter.unusedSimpArgs false

theorem must_ckB (b : Bool) (w : World) : Calls Tryz.prog 70 #[.bool b] w (CK (b = true) w) := (must_ck b w).mono fun e w' h => ⟨h.1, by rw [h.2]; exact Below.refl _ _⟩
theorem rowC_new (W : World) (l : List Int) (hl : l.length ≤ maxLen) {ty : TypeId} : RowC (W.alloc (.cells (l.map intV).toArray ty)) (some ⟨W.heap.size, 0, none⟩) 1 (l.map intC) := by
  refine ⟨by rw [List.length_map]; exact hl, .inr ⟨W.heap.size, 0, rfl, by simp, fun j t cs v hj hv => ?_⟩⟩
  rw [List.getElem?_map] at hj
  obtain ⟨x, hx, rfl⟩ := Option.map_eq_some_iff.1 hj
  have h0 : t = 0 ∧ v = intV x := by
    cases t with
    | zero => exact ⟨rfl, by simpa using hv.symm⟩
    | succ t => simp [intC] at hv
  obtain ⟨rfl, rfl⟩ := h0
  have hb := heap_alloc_new W (.cells (l.map intV).toArray ty)
  unfold World.cell?
  simp only [Nat.zero_add, Nat.mul_one, Nat.add_zero]
  rw [hb]
  simp [hx]
theorem emp_iff (s : ByteArray) : s.toList.isEmpty = decide (s.size = 0) := by
  have h : s.toList.length = s.size := by rw [ByteArray.toList_eq]; rfl
  cases hl : s.toList with
  | nil => rw [hl] at h; simp [← h]
  | cons x l =>
    rw [hl] at h
    have h' : s.size ≠ 0 := by rw [← h]; simp
    simp [h']
theorem below_of {w w1 w2 : World} (h : Below w.heap.size w w1) (k : Below w1.heap.size w1 w2) : Below w.heap.size w w2 := xtransN h k
theorem cells_3N {w : World} {b : Nat} {x0 x1 x2 : Value} {t : TypeId} (h : w.heap[b]? = some (.cells #[x0, x1, x2] t (0, 0))) : w.cell? ⟨b, 0, none⟩ = some x0 ∧ w.cell? ⟨b, 1, none⟩ = some x1 ∧ w.cell? ⟨b, 2, none⟩ = some x2 := by
  simp [World.cell?, h]
theorem cells_4N {w : World} {b : Nat} {x0 x1 x2 x3 : Value} {t : TypeId} (h : w.heap[b]? = some (.cells #[x0, x1, x2, x3] t (0, 0))) : w.cell? ⟨b, 0, none⟩ = some x0 ∧ w.cell? ⟨b, 1, none⟩ = some x1 ∧ w.cell? ⟨b, 2, none⟩ = some x2 ∧ w.cell? ⟨b, 3, none⟩ = some x3 := by
  simp [World.cell?, h]
theorem cells_5N {w : World} {b : Nat} {x0 x1 x2 x3 x4 : Value} {t : TypeId} (h : w.heap[b]? = some (.cells #[x0, x1, x2, x3, x4] t (0, 0))) : w.cell? ⟨b, 0, none⟩ = some x0 ∧ w.cell? ⟨b, 1, none⟩ = some x1 ∧ w.cell? ⟨b, 2, none⟩ = some x2 ∧ w.cell? ⟨b, 3, none⟩ = some x3 ∧ w.cell? ⟨b, 4, none⟩ = some x4 := by
  simp [World.cell?, h]
theorem cells_6N {w : World} {b : Nat} {x0 x1 x2 x3 x4 x5 : Value} {t : TypeId} (h : w.heap[b]? = some (.cells #[x0, x1, x2, x3, x4, x5] t (0, 0))) : w.cell? ⟨b, 0, none⟩ = some x0 ∧ w.cell? ⟨b, 1, none⟩ = some x1 ∧ w.cell? ⟨b, 2, none⟩ = some x2 ∧ w.cell? ⟨b, 3, none⟩ = some x3 ∧ w.cell? ⟨b, 4, none⟩ = some x4 ∧ w.cell? ⟨b, 5, none⟩ = some x5 := by
  simp [World.cell?, h]
theorem cells_7N {w : World} {b : Nat} {x0 x1 x2 x3 x4 x5 x6 : Value} {t : TypeId} (h : w.heap[b]? = some (.cells #[x0, x1, x2, x3, x4, x5, x6] t (0, 0))) : w.cell? ⟨b, 0, none⟩ = some x0 ∧ w.cell? ⟨b, 1, none⟩ = some x1 ∧ w.cell? ⟨b, 2, none⟩ = some x2 ∧ w.cell? ⟨b, 3, none⟩ = some x3 ∧ w.cell? ⟨b, 4, none⟩ = some x4 ∧ w.cell? ⟨b, 5, none⟩ = some x5 ∧ w.cell? ⟨b, 6, none⟩ = some x6 := by
  simp [World.cell?, h]

def OpN.Ok : OpN → Prop := fun ⟨K, p, d, v, fl⟩ => nums [K, fl] ∧ ((-1) ≤ v ∧ v ≤ 2147483647) ∧ (p.size : Int) ≤ 256 ∧ (d.size : Int) ≤ 256
set_option maxHeartbeats 3200000 in
theorem Op_core (K : Int) (p : ByteArray) (d : ByteArray) (v : Int) (fl : Int) (w : World) : Calls Tryz.prog 69 #[.agg #[.int .i64 K, .string p, .string d, .int .i64 v, .int .i64 fl]] w (CK (nums [K, fl] ∧ ((-1) ≤ v ∧ v ≤ 2147483647) ∧ (p.size : Int) ≤ 256 ∧ (d.size : Int) ≤ 256) w) := by
  obtain ⟨ok, hok⟩ : ∃ ok : Prop, (nums [K, fl] ∧ ((-1) ≤ v ∧ v ≤ 2147483647) ∧ (p.size : Int) ≤ 256 ∧ (d.size : Int) ≤ 256 : Prop) = ok := ⟨_, rfl⟩
  have HOK : Hid (ok = (nums [K, fl] ∧ ((-1) ≤ v ∧ v ≤ 2147483647) ∧ (p.size : Int) ≤ 256 ∧ (d.size : Int) ≤ 256)) := hok.symm
  rw [hok]
  clear hok
  obtain ⟨w0, hw0⟩ : ∃ w0, w.alloc (.cells #[.int .i64 K, .string p, .string d, .int .i64 v, .int .i64 fl] 60) = w0 := ⟨_, rfl⟩
  have HB0 : Hid (Below w.heap.size w w0) := by rw [← hw0]; exact (Below.refl _ _).alloc (Nat.le_refl _) _
  have HE0 : Hid (w0.heap[w.heap.size]? = some (.cells #[.int .i64 K, .string p, .string d, .int .i64 v, .int .i64 fl] 60 (0, 0))) := by show _ = _; rw [← hw0]; exact heap_alloc_new _ _
  have HW : Hid (w.alloc (.cells #[.int .i64 K, .string p, .string d, .int .i64 v, .int .i64 fl] 60) = w0) := hw0
  clear hw0
  go_enter Tryz.func69, Tryz.ntmps69
  go_upto_region 1 with fail
  rw [HW.out]
  obtain ⟨c0, c1, c2, c3, c4⟩ := cells_5N HE0.out
  go_wp2_with (first
    | (have hq := HB3; clear hq; go_at_call 106; refine Calls.mono (text_ck _ _ _) ?_; rintro e w4 ⟨⟨rfl, h⟩ | ⟨rfl, h⟩, hb⟩
       rotate_left
       · exact ⟨rfl, .inr ⟨rfl, by rw [HOK.out]; exact fun g => h (g.2.2.2)⟩, xtransN HB3.out hb⟩
       have H3 : Hid ((d.size : Int) ≤ 256) := h
       have HB4 : Hid (Below w.heap.size w w4) := xtransN HB3.out hb
       have HE4 : Hid (w4.heap[w.heap.size]? = some (.cells #[.int .i64 K, .string p, .string d, .int .i64 v, .int .i64 fl] 60 (0, 0))) := kept_block (below_of (Below.refl _ _) hb) HE3.out
       clear h hb c0 c1 c2 c3 c4
       obtain ⟨c0, c1, c2, c3, c4⟩ := cells_5N HE4.out)
    | (have hq := HB2; clear hq; go_at_call 106; refine Calls.mono (text_ck _ _ _) ?_; rintro e w3 ⟨⟨rfl, h⟩ | ⟨rfl, h⟩, hb⟩
       rotate_left
       · exact ⟨rfl, .inr ⟨rfl, by rw [HOK.out]; exact fun g => h (g.2.2.1)⟩, xtransN HB2.out hb⟩
       have H2 : Hid ((p.size : Int) ≤ 256) := h
       have HB3 : Hid (Below w.heap.size w w3) := xtransN HB2.out hb
       have HE3 : Hid (w3.heap[w.heap.size]? = some (.cells #[.int .i64 K, .string p, .string d, .int .i64 v, .int .i64 fl] 60 (0, 0))) := kept_block (below_of (Below.refl _ _) hb) HE2.out
       clear h hb c0 c1 c2 c3 c4
       obtain ⟨c0, c1, c2, c3, c4⟩ := cells_5N HE3.out)
    | (have hq := HB1; clear hq; go_at_call 67; refine Calls.mono (number_ck _ _ _) ?_; rintro e w2 ⟨⟨rfl, h⟩ | ⟨rfl, h⟩, hb⟩
       rotate_left
       · exact ⟨rfl, .inr ⟨rfl, by rw [HOK.out]; exact fun g => h (g.2.1)⟩, xtransN HB1.out hb⟩
       have H1 : Hid (((-1) ≤ v ∧ v ≤ 2147483647)) := h
       have HB2 : Hid (Below w.heap.size w w2) := xtransN HB1.out hb
       have HE2 : Hid (w2.heap[w.heap.size]? = some (.cells #[.int .i64 K, .string p, .string d, .int .i64 v, .int .i64 fl] 60 (0, 0))) := kept_block (below_of (Below.refl _ _) hb) HE1.out
       clear h hb c0 c1 c2 c3 c4
       obtain ⟨c0, c1, c2, c3, c4⟩ := cells_5N HE2.out)
    | (have hq := HB0; clear hq; go_at_call 105; refine Calls.mono (numbers_ck _ _ [K, fl] _ (rowC_new _ [K, fl] (show 2 ≤ maxLen by decide))) ?_; rintro e w1 ⟨⟨rfl, h⟩ | ⟨rfl, h⟩, hb⟩
       rotate_left
       · exact ⟨rfl, .inr ⟨rfl, by rw [HOK.out]; exact fun g => h (g.1)⟩, xtransN (ext_alloc HB0.out _) hb⟩
       have H0 : Hid (nums [K, fl]) := h
       have HB1 : Hid (Below w.heap.size w w1) := xtransN (ext_alloc HB0.out _) hb
       have HE1 : Hid (w1.heap[w.heap.size]? = some (.cells #[.int .i64 K, .string p, .string d, .int .i64 v, .int .i64 fl] 60 (0, 0))) := kept_block (below_of (ext_alloc (Below.refl _ _) _) hb) HE0.out
       clear h hb c0 c1 c2 c3 c4
       obtain ⟨c0, c1, c2, c3, c4⟩ := cells_5N HE1.out)
    | fail)
  all_goals exact bodyPost_end (results_none rfl _ _ _) rfl ⟨.inl ⟨rfl, by rw [HOK.out]; exact ⟨H0.out, H1.out, H2.out, H3.out⟩⟩, HB4.out⟩
theorem Op_ck (x : OpN) (w : World) : Calls Tryz.prog 69 #[x.val] w (CK x.Ok w) := by
  obtain ⟨K, p, d, v, fl⟩ := x
  exact Op_core K p d v fl w
def WaN.Ok : WaN → Prop := fun ⟨i, p, k, f⟩ => (1 ≤ i ∧ i ≤ 2147483647) ∧ (parse p).1 = 0 ∧ (1 ≤ k ∧ k ≤ 3) ∧ (0 ≤ f ∧ f ≤ 2147483647)
set_option maxHeartbeats 3200000 in
theorem Wa_core (i : Int) (p : ByteArray) (k : Int) (f : Int) (w : World) (hg : Ground w) : Calls Tryz.prog 209 #[.agg #[.int .i64 i, .string p, .int .i64 k, .int .i64 f]] w (CK ((1 ≤ i ∧ i ≤ 2147483647) ∧ (parse p).1 = 0 ∧ (1 ≤ k ∧ k ≤ 3) ∧ (0 ≤ f ∧ f ≤ 2147483647)) w) := by
  obtain ⟨ok, hok⟩ : ∃ ok : Prop, ((1 ≤ i ∧ i ≤ 2147483647) ∧ (parse p).1 = 0 ∧ (1 ≤ k ∧ k ≤ 3) ∧ (0 ≤ f ∧ f ≤ 2147483647) : Prop) = ok := ⟨_, rfl⟩
  have HOK : Hid (ok = ((1 ≤ i ∧ i ≤ 2147483647) ∧ (parse p).1 = 0 ∧ (1 ≤ k ∧ k ≤ 3) ∧ (0 ≤ f ∧ f ≤ 2147483647))) := hok.symm
  rw [hok]
  clear hok
  have HG : Hid (Ground w) := hg
  clear hg
  obtain ⟨w0, hw0⟩ : ∃ w0, w.alloc (.cells #[.int .i64 i, .string p, .int .i64 k, .int .i64 f] 85) = w0 := ⟨_, rfl⟩
  have HB0 : Hid (Below w.heap.size w w0) := by rw [← hw0]; exact (Below.refl _ _).alloc (Nat.le_refl _) _
  have HE0 : Hid (w0.heap[w.heap.size]? = some (.cells #[.int .i64 i, .string p, .int .i64 k, .int .i64 f] 85 (0, 0))) := by show _ = _; rw [← hw0]; exact heap_alloc_new _ _
  have HW : Hid (w.alloc (.cells #[.int .i64 i, .string p, .int .i64 k, .int .i64 f] 85) = w0) := hw0
  clear hw0
  go_enter Tryz.func209, Tryz.ntmps209
  go_upto_region 1 with fail
  rw [HW.out]
  obtain ⟨c0, c1, c2, c3⟩ := cells_4N HE0.out
  go_wp2_with (first
    | (have hq := HB3; clear hq; go_at_call 67; refine Calls.mono (number_ck _ _ _) ?_; rintro e w4 ⟨⟨rfl, h⟩ | ⟨rfl, h⟩, hb⟩
       rotate_left
       · exact ⟨rfl, .inr ⟨rfl, by rw [HOK.out]; exact fun g => h (g.2.2.2)⟩, xtransN HB3.out hb⟩
       have H3 : Hid ((0 ≤ f ∧ f ≤ 2147483647)) := h
       have HB4 : Hid (Below w.heap.size w w4) := xtransN HB3.out hb
       have HE4 : Hid (w4.heap[w.heap.size]? = some (.cells #[.int .i64 i, .string p, .int .i64 k, .int .i64 f] 85 (0, 0))) := kept_block (below_of (Below.refl _ _) hb) HE3.out
       clear h hb c0 c1 c2 c3
       obtain ⟨c0, c1, c2, c3⟩ := cells_4N HE4.out)
    | (have hq := HB2; clear hq; go_at_call 260; refine Calls.mono (kind_ck _ _) ?_; rintro e w3 ⟨⟨rfl, h⟩ | ⟨rfl, h⟩, hb⟩
       rotate_left
       · exact ⟨rfl, .inr ⟨rfl, by rw [HOK.out]; exact fun g => h (g.2.2.1)⟩, xtransN HB2.out hb⟩
       have H2 : Hid ((1 ≤ k ∧ k ≤ 3)) := h
       have HB3 : Hid (Below w.heap.size w w3) := xtransN HB2.out hb
       have HE3 : Hid (w3.heap[w.heap.size]? = some (.cells #[.int .i64 i, .string p, .int .i64 k, .int .i64 f] 85 (0, 0))) := kept_block (below_of (Below.refl _ _) hb) HE2.out
       clear h hb c0 c1 c2 c3
       obtain ⟨c0, c1, c2, c3⟩ := cells_4N HE3.out)
    | (have hq := HB1; clear hq; go_at_call 246; refine Calls.mono (place_ck _ _ (HG.out.below HB1.out)) ?_; rintro e w2 ⟨⟨rfl, h⟩ | ⟨rfl, h⟩, hb⟩
       rotate_left
       · exact ⟨rfl, .inr ⟨rfl, by rw [HOK.out]; exact fun g => h (g.2.1)⟩, xtransN HB1.out hb⟩
       have H1 : Hid ((parse p).1 = 0) := h
       have HB2 : Hid (Below w.heap.size w w2) := xtransN HB1.out hb
       have HE2 : Hid (w2.heap[w.heap.size]? = some (.cells #[.int .i64 i, .string p, .int .i64 k, .int .i64 f] 85 (0, 0))) := kept_block (below_of (Below.refl _ _) hb) HE1.out
       clear h hb c0 c1 c2 c3
       obtain ⟨c0, c1, c2, c3⟩ := cells_4N HE2.out)
    | (have hq := HB0; clear hq; go_at_call 67; refine Calls.mono (number_ck _ _ _) ?_; rintro e w1 ⟨⟨rfl, h⟩ | ⟨rfl, h⟩, hb⟩
       rotate_left
       · exact ⟨rfl, .inr ⟨rfl, by rw [HOK.out]; exact fun g => h (g.1)⟩, xtransN HB0.out hb⟩
       have H0 : Hid ((1 ≤ i ∧ i ≤ 2147483647)) := h
       have HB1 : Hid (Below w.heap.size w w1) := xtransN HB0.out hb
       have HE1 : Hid (w1.heap[w.heap.size]? = some (.cells #[.int .i64 i, .string p, .int .i64 k, .int .i64 f] 85 (0, 0))) := kept_block (below_of (Below.refl _ _) hb) HE0.out
       clear h hb c0 c1 c2 c3
       obtain ⟨c0, c1, c2, c3⟩ := cells_4N HE1.out)
    | fail)
  all_goals exact bodyPost_end (results_none rfl _ _ _) rfl ⟨.inl ⟨rfl, by rw [HOK.out]; exact ⟨H0.out, H1.out, H2.out, H3.out⟩⟩, HB4.out⟩
theorem Wa_ck (x : WaN) (w : World) (hg : Ground w) : Calls Tryz.prog 209 #[x.val] w (CK x.Ok w) := by
  obtain ⟨i, p, k, f⟩ := x
  exact Wa_core i p k f w hg
def SeN.Ok : SeN → Prop := fun ⟨p, d, v⟩ => (parse p).1 = 0 ∧ (d.size : Int) ≤ 64 ∧ (0 ≤ v ∧ v ≤ 2147483647)
set_option maxHeartbeats 3200000 in
theorem Se_core (p : ByteArray) (d : ByteArray) (v : Int) (w : World) (hg : Ground w) : Calls Tryz.prog 281 #[.agg #[.string p, .string d, .int .i64 v]] w (CK ((parse p).1 = 0 ∧ (d.size : Int) ≤ 64 ∧ (0 ≤ v ∧ v ≤ 2147483647)) w) := by
  obtain ⟨ok, hok⟩ : ∃ ok : Prop, ((parse p).1 = 0 ∧ (d.size : Int) ≤ 64 ∧ (0 ≤ v ∧ v ≤ 2147483647) : Prop) = ok := ⟨_, rfl⟩
  have HOK : Hid (ok = ((parse p).1 = 0 ∧ (d.size : Int) ≤ 64 ∧ (0 ≤ v ∧ v ≤ 2147483647))) := hok.symm
  rw [hok]
  clear hok
  have HG : Hid (Ground w) := hg
  clear hg
  obtain ⟨w0, hw0⟩ : ∃ w0, w.alloc (.cells #[.string p, .string d, .int .i64 v] 138) = w0 := ⟨_, rfl⟩
  have HB0 : Hid (Below w.heap.size w w0) := by rw [← hw0]; exact (Below.refl _ _).alloc (Nat.le_refl _) _
  have HE0 : Hid (w0.heap[w.heap.size]? = some (.cells #[.string p, .string d, .int .i64 v] 138 (0, 0))) := by show _ = _; rw [← hw0]; exact heap_alloc_new _ _
  have HW : Hid (w.alloc (.cells #[.string p, .string d, .int .i64 v] 138) = w0) := hw0
  clear hw0
  go_enter Tryz.func281, Tryz.ntmps281
  go_upto_region 1 with fail
  rw [HW.out]
  obtain ⟨c0, c1, c2⟩ := cells_3N HE0.out
  go_wp2_with (first
    | (have hq := HB2; clear hq; go_at_call 67; refine Calls.mono (number_ck _ _ _) ?_; rintro e w3 ⟨⟨rfl, h⟩ | ⟨rfl, h⟩, hb⟩
       rotate_left
       · exact ⟨rfl, .inr ⟨rfl, by rw [HOK.out]; exact fun g => h (g.2.2)⟩, xtransN HB2.out hb⟩
       have H2 : Hid ((0 ≤ v ∧ v ≤ 2147483647)) := h
       have HB3 : Hid (Below w.heap.size w w3) := xtransN HB2.out hb
       have HE3 : Hid (w3.heap[w.heap.size]? = some (.cells #[.string p, .string d, .int .i64 v] 138 (0, 0))) := kept_block (below_of (Below.refl _ _) hb) HE2.out
       clear h hb c0 c1 c2
       obtain ⟨c0, c1, c2⟩ := cells_3N HE3.out)
    | (have hq := HB1; clear hq; go_at_call 106; refine Calls.mono (text_ck _ _ _) ?_; rintro e w2 ⟨⟨rfl, h⟩ | ⟨rfl, h⟩, hb⟩
       rotate_left
       · exact ⟨rfl, .inr ⟨rfl, by rw [HOK.out]; exact fun g => h (g.2.1)⟩, xtransN HB1.out hb⟩
       have H1 : Hid ((d.size : Int) ≤ 64) := h
       have HB2 : Hid (Below w.heap.size w w2) := xtransN HB1.out hb
       have HE2 : Hid (w2.heap[w.heap.size]? = some (.cells #[.string p, .string d, .int .i64 v] 138 (0, 0))) := kept_block (below_of (Below.refl _ _) hb) HE1.out
       clear h hb c0 c1 c2
       obtain ⟨c0, c1, c2⟩ := cells_3N HE2.out)
    | (have hq := HB0; clear hq; go_at_call 246; refine Calls.mono (place_ck _ _ (HG.out.below HB0.out)) ?_; rintro e w1 ⟨⟨rfl, h⟩ | ⟨rfl, h⟩, hb⟩
       rotate_left
       · exact ⟨rfl, .inr ⟨rfl, by rw [HOK.out]; exact fun g => h (g.1)⟩, xtransN HB0.out hb⟩
       have H0 : Hid ((parse p).1 = 0) := h
       have HB1 : Hid (Below w.heap.size w w1) := xtransN HB0.out hb
       have HE1 : Hid (w1.heap[w.heap.size]? = some (.cells #[.string p, .string d, .int .i64 v] 138 (0, 0))) := kept_block (below_of (Below.refl _ _) hb) HE0.out
       clear h hb c0 c1 c2
       obtain ⟨c0, c1, c2⟩ := cells_3N HE1.out)
    | fail)
  all_goals exact bodyPost_end (results_none rfl _ _ _) rfl ⟨.inl ⟨rfl, by rw [HOK.out]; exact ⟨H0.out, H1.out, H2.out⟩⟩, HB3.out⟩
theorem Se_ck (x : SeN) (w : World) (hg : Ground w) : Calls Tryz.prog 281 #[x.val] w (CK x.Ok w) := by
  obtain ⟨p, d, v⟩ := x
  exact Se_core p d v w hg
def ShN.Ok : ShN → Prop := fun ⟨st, p, k, nodesA, nodesC, nodes⟩ => (0 ≤ st ∧ st ≤ 2147483647) ∧ (parse p).1 = 0 ∧ (1 ≤ k ∧ k ≤ 3) ∧ (((0 : Int) ≤ (nodes.length : Int) ∧ (nodes.length : Int) ≤ 64) ∧ ∀ x ∈ nodes, SeN.Ok x)
set_option maxHeartbeats 3200000 in
theorem Sh_core (st : Int) (p : ByteArray) (k : Int) (nodesA : Option Addr) (nodesC : Nat) (nodes : List SeN) (w : World) (hg : Ground w) (hA : ShN.At w ⟨st, p, k, nodesA, nodesC, nodes⟩) : Calls Tryz.prog 264 #[.agg #[.int .i64 st, .string p, .int .i64 k, .slice nodesA nodes.length nodesC]] w (CK ((0 ≤ st ∧ st ≤ 2147483647) ∧ (parse p).1 = 0 ∧ (1 ≤ k ∧ k ≤ 3) ∧ (((0 : Int) ≤ (nodes.length : Int) ∧ (nodes.length : Int) ≤ 64) ∧ ∀ x ∈ nodes, SeN.Ok x)) w) := by
  obtain ⟨ok, hok⟩ : ∃ ok : Prop, ((0 ≤ st ∧ st ≤ 2147483647) ∧ (parse p).1 = 0 ∧ (1 ≤ k ∧ k ≤ 3) ∧ (((0 : Int) ≤ (nodes.length : Int) ∧ (nodes.length : Int) ≤ 64) ∧ ∀ x ∈ nodes, SeN.Ok x) : Prop) = ok := ⟨_, rfl⟩
  have HOK : Hid (ok = ((0 ≤ st ∧ st ≤ 2147483647) ∧ (parse p).1 = 0 ∧ (1 ≤ k ∧ k ≤ 3) ∧ (((0 : Int) ≤ (nodes.length : Int) ∧ (nodes.length : Int) ≤ 64) ∧ ∀ x ∈ nodes, SeN.Ok x))) := hok.symm
  rw [hok]
  clear hok
  have HG : Hid (Ground w) := hg
  clear hg
  have HA : Hid (ShN.At w ⟨st, p, k, nodesA, nodesC, nodes⟩) := hA
  clear hA
  obtain ⟨w0, hw0⟩ : ∃ w0, w.alloc (.cells #[.int .i64 st, .string p, .int .i64 k, .slice nodesA nodes.length nodesC] 134) = w0 := ⟨_, rfl⟩
  have HB0 : Hid (Below w.heap.size w w0) := by rw [← hw0]; exact (Below.refl _ _).alloc (Nat.le_refl _) _
  have HE0 : Hid (w0.heap[w.heap.size]? = some (.cells #[.int .i64 st, .string p, .int .i64 k, .slice nodesA nodes.length nodesC] 134 (0, 0))) := by show _ = _; rw [← hw0]; exact heap_alloc_new _ _
  have HW : Hid (w.alloc (.cells #[.int .i64 st, .string p, .int .i64 k, .slice nodesA nodes.length nodesC] 134) = w0) := hw0
  clear hw0
  go_enter Tryz.func264, Tryz.ntmps264
  go_upto_region 1 with fail
  rw [HW.out]
  obtain ⟨c0, c1, c2, c3⟩ := cells_4N HE0.out
  go_wp2_with (first
    | (have hq := HB3; clear hq; go_at_call 280; refine Calls.mono (listSe 0 64 nodesA nodesC nodes SeN.Ok _ (fun x hx W hb => Se_ck x W (HG.out.below (below_of HB3.out hb))) (HA.out.nodes.below HB3.out)) ?_; rintro e w4 ⟨⟨rfl, h⟩ | ⟨rfl, h⟩, hb⟩
       rotate_left
       · exact ⟨rfl, .inr ⟨rfl, by rw [HOK.out]; exact fun g => h (g.2.2.2)⟩, xtransN HB3.out hb⟩
       have H3 : Hid ((((0 : Int) ≤ (nodes.length : Int) ∧ (nodes.length : Int) ≤ 64) ∧ ∀ x ∈ nodes, SeN.Ok x)) := h
       have HB4 : Hid (Below w.heap.size w w4) := xtransN HB3.out hb
       have HE4 : Hid (w4.heap[w.heap.size]? = some (.cells #[.int .i64 st, .string p, .int .i64 k, .slice nodesA nodes.length nodesC] 134 (0, 0))) := kept_block (below_of (Below.refl _ _) hb) HE3.out
       clear h hb c0 c1 c2 c3
       obtain ⟨c0, c1, c2, c3⟩ := cells_4N HE4.out)
    | (have hq := HB2; clear hq; go_at_call 260; refine Calls.mono (kind_ck _ _) ?_; rintro e w3 ⟨⟨rfl, h⟩ | ⟨rfl, h⟩, hb⟩
       rotate_left
       · exact ⟨rfl, .inr ⟨rfl, by rw [HOK.out]; exact fun g => h (g.2.2.1)⟩, xtransN HB2.out hb⟩
       have H2 : Hid ((1 ≤ k ∧ k ≤ 3)) := h
       have HB3 : Hid (Below w.heap.size w w3) := xtransN HB2.out hb
       have HE3 : Hid (w3.heap[w.heap.size]? = some (.cells #[.int .i64 st, .string p, .int .i64 k, .slice nodesA nodes.length nodesC] 134 (0, 0))) := kept_block (below_of (Below.refl _ _) hb) HE2.out
       clear h hb c0 c1 c2 c3
       obtain ⟨c0, c1, c2, c3⟩ := cells_4N HE3.out)
    | (have hq := HB1; clear hq; go_at_call 246; refine Calls.mono (place_ck _ _ (HG.out.below HB1.out)) ?_; rintro e w2 ⟨⟨rfl, h⟩ | ⟨rfl, h⟩, hb⟩
       rotate_left
       · exact ⟨rfl, .inr ⟨rfl, by rw [HOK.out]; exact fun g => h (g.2.1)⟩, xtransN HB1.out hb⟩
       have H1 : Hid ((parse p).1 = 0) := h
       have HB2 : Hid (Below w.heap.size w w2) := xtransN HB1.out hb
       have HE2 : Hid (w2.heap[w.heap.size]? = some (.cells #[.int .i64 st, .string p, .int .i64 k, .slice nodesA nodes.length nodesC] 134 (0, 0))) := kept_block (below_of (Below.refl _ _) hb) HE1.out
       clear h hb c0 c1 c2 c3
       obtain ⟨c0, c1, c2, c3⟩ := cells_4N HE2.out)
    | (have hq := HB0; clear hq; go_at_call 67; refine Calls.mono (number_ck _ _ _) ?_; rintro e w1 ⟨⟨rfl, h⟩ | ⟨rfl, h⟩, hb⟩
       rotate_left
       · exact ⟨rfl, .inr ⟨rfl, by rw [HOK.out]; exact fun g => h (g.1)⟩, xtransN HB0.out hb⟩
       have H0 : Hid ((0 ≤ st ∧ st ≤ 2147483647)) := h
       have HB1 : Hid (Below w.heap.size w w1) := xtransN HB0.out hb
       have HE1 : Hid (w1.heap[w.heap.size]? = some (.cells #[.int .i64 st, .string p, .int .i64 k, .slice nodesA nodes.length nodesC] 134 (0, 0))) := kept_block (below_of (Below.refl _ _) hb) HE0.out
       clear h hb c0 c1 c2 c3
       obtain ⟨c0, c1, c2, c3⟩ := cells_4N HE1.out)
    | fail)
  all_goals exact bodyPost_end (results_none rfl _ _ _) rfl ⟨.inl ⟨rfl, by rw [HOK.out]; exact ⟨H0.out, H1.out, H2.out, H3.out⟩⟩, HB4.out⟩
theorem Sh_ck (x : ShN) (w : World) (hg : Ground w) (hA : x.At w) : Calls Tryz.prog 264 #[x.val] w (CK x.Ok w) := by
  obtain ⟨st, p, k, nodesA, nodesC, nodes⟩ := x
  exact Sh_core st p k nodesA nodesC nodes w hg hA
def PaN.Ok : PaN → Prop := fun ⟨i, st, p, k, nodesA, nodesC, nodes⟩ => (1 ≤ i ∧ i ≤ 2147483647) ∧ ShN.Ok ⟨st, p, k, nodesA, nodesC, nodes⟩
set_option maxHeartbeats 3200000 in
theorem Pa_core (i : Int) (st : Int) (p : ByteArray) (k : Int) (nodesA : Option Addr) (nodesC : Nat) (nodes : List SeN) (w : World) (hg : Ground w) (hA : PaN.At w ⟨i, st, p, k, nodesA, nodesC, nodes⟩) : Calls Tryz.prog 219 #[.agg #[.int .i64 i, .int .i64 st, .string p, .int .i64 k, .slice nodesA nodes.length nodesC]] w (CK ((1 ≤ i ∧ i ≤ 2147483647) ∧ ShN.Ok ⟨st, p, k, nodesA, nodesC, nodes⟩) w) := by
  obtain ⟨ok, hok⟩ : ∃ ok : Prop, ((1 ≤ i ∧ i ≤ 2147483647) ∧ ShN.Ok ⟨st, p, k, nodesA, nodesC, nodes⟩ : Prop) = ok := ⟨_, rfl⟩
  have HOK : Hid (ok = ((1 ≤ i ∧ i ≤ 2147483647) ∧ ShN.Ok ⟨st, p, k, nodesA, nodesC, nodes⟩)) := hok.symm
  rw [hok]
  clear hok
  have HG : Hid (Ground w) := hg
  clear hg
  have HA : Hid (PaN.At w ⟨i, st, p, k, nodesA, nodesC, nodes⟩) := hA
  clear hA
  obtain ⟨w0, hw0⟩ : ∃ w0, w.alloc (.cells #[.int .i64 i, .int .i64 st, .string p, .int .i64 k, .slice nodesA nodes.length nodesC] 136) = w0 := ⟨_, rfl⟩
  have HB0 : Hid (Below w.heap.size w w0) := by rw [← hw0]; exact (Below.refl _ _).alloc (Nat.le_refl _) _
  have HE0 : Hid (w0.heap[w.heap.size]? = some (.cells #[.int .i64 i, .int .i64 st, .string p, .int .i64 k, .slice nodesA nodes.length nodesC] 136 (0, 0))) := by show _ = _; rw [← hw0]; exact heap_alloc_new _ _
  have HW : Hid (w.alloc (.cells #[.int .i64 i, .int .i64 st, .string p, .int .i64 k, .slice nodesA nodes.length nodesC] 136) = w0) := hw0
  clear hw0
  go_enter Tryz.func219, Tryz.ntmps219
  go_upto_region 1 with fail
  rw [HW.out]
  obtain ⟨c0, c1, c2, c3, c4⟩ := cells_5N HE0.out
  go_wp2_with (first
    | (have hq := HB1; clear hq; go_at_call 264; refine Calls.mono (Sh_ck ⟨st, p, k, nodesA, nodesC, nodes⟩ _ (HG.out.below HB1.out) ⟨HA.out.nodes.below HB1.out, HA.out.nodesL⟩) ?_; rintro e w2 ⟨⟨rfl, h⟩ | ⟨rfl, h⟩, hb⟩
       rotate_left
       · exact ⟨rfl, .inr ⟨rfl, by rw [HOK.out]; exact fun g => h (g.2)⟩, xtransN HB1.out hb⟩
       have H1 : Hid (ShN.Ok ⟨st, p, k, nodesA, nodesC, nodes⟩) := h
       have HB2 : Hid (Below w.heap.size w w2) := xtransN HB1.out hb
       have HE2 : Hid (w2.heap[w.heap.size]? = some (.cells #[.int .i64 i, .int .i64 st, .string p, .int .i64 k, .slice nodesA nodes.length nodesC] 136 (0, 0))) := kept_block (below_of (Below.refl _ _) hb) HE1.out
       clear h hb c0 c1 c2 c3 c4
       obtain ⟨c0, c1, c2, c3, c4⟩ := cells_5N HE2.out)
    | (have hq := HB0; clear hq; go_at_call 67; refine Calls.mono (number_ck _ _ _) ?_; rintro e w1 ⟨⟨rfl, h⟩ | ⟨rfl, h⟩, hb⟩
       rotate_left
       · exact ⟨rfl, .inr ⟨rfl, by rw [HOK.out]; exact fun g => h (g.1)⟩, xtransN HB0.out hb⟩
       have H0 : Hid ((1 ≤ i ∧ i ≤ 2147483647)) := h
       have HB1 : Hid (Below w.heap.size w w1) := xtransN HB0.out hb
       have HE1 : Hid (w1.heap[w.heap.size]? = some (.cells #[.int .i64 i, .int .i64 st, .string p, .int .i64 k, .slice nodesA nodes.length nodesC] 136 (0, 0))) := kept_block (below_of (Below.refl _ _) hb) HE0.out
       clear h hb c0 c1 c2 c3 c4
       obtain ⟨c0, c1, c2, c3, c4⟩ := cells_5N HE1.out)
    | fail)
  all_goals exact bodyPost_end (results_none rfl _ _ _) rfl ⟨.inl ⟨rfl, by rw [HOK.out]; exact ⟨H0.out, H1.out⟩⟩, HB2.out⟩
theorem Pa_ck (x : PaN) (w : World) (hg : Ground w) (hA : x.At w) : Calls Tryz.prog 219 #[x.val] w (CK x.Ok w) := by
  obtain ⟨i, st, p, k, nodesA, nodesC, nodes⟩ := x
  exact Pa_core i st p k nodesA nodesC nodes w hg hA
def RsN.Ok : RsN → Prop := fun ⟨p, d, v, md, ch, ow, kidsA, kidsC, kids⟩ => (p.size = 0 ∨ (parse p).1 = 0) ∧ (d.size : Int) ≤ 64 ∧ nums [v, md, ch, ow] ∧ (((0 : Int) ≤ (kids.length : Int) ∧ (kids.length : Int) ≤ 64) ∧ ∀ x ∈ kids, NmOk x)
set_option maxHeartbeats 3200000 in
theorem Rs_coreA (p : ByteArray) (d : ByteArray) (v : Int) (md : Int) (ch : Int) (ow : Int) (kidsA : Option Addr) (kidsC : Nat) (kids : List ByteArray) (w : World) (hg : Ground w) (hA : RsN.At w ⟨p, d, v, md, ch, ow, kidsA, kidsC, kids⟩) (hp : p.toList.isEmpty = true) : Calls Tryz.prog 186 #[.agg #[.string p, .string d, .int .i64 v, .int .i64 md, .int .i64 ch, .int .i64 ow, .slice kidsA kids.length kidsC]] w (CK ((d.size : Int) ≤ 64 ∧ nums [v, md, ch, ow] ∧ (((0 : Int) ≤ (kids.length : Int) ∧ (kids.length : Int) ≤ 64) ∧ ∀ x ∈ kids, NmOk x)) w) := by
  obtain ⟨ok, hok⟩ : ∃ ok : Prop, ((d.size : Int) ≤ 64 ∧ nums [v, md, ch, ow] ∧ (((0 : Int) ≤ (kids.length : Int) ∧ (kids.length : Int) ≤ 64) ∧ ∀ x ∈ kids, NmOk x) : Prop) = ok := ⟨_, rfl⟩
  have HOK : Hid (ok = ((d.size : Int) ≤ 64 ∧ nums [v, md, ch, ow] ∧ (((0 : Int) ≤ (kids.length : Int) ∧ (kids.length : Int) ≤ 64) ∧ ∀ x ∈ kids, NmOk x))) := hok.symm
  rw [hok]
  clear hok
  have HG : Hid (Ground w) := hg
  clear hg
  have HA : Hid (RsN.At w ⟨p, d, v, md, ch, ow, kidsA, kidsC, kids⟩) := hA
  clear hA
  obtain ⟨w0, hw0⟩ : ∃ w0, w.alloc (.cells #[.string p, .string d, .int .i64 v, .int .i64 md, .int .i64 ch, .int .i64 ow, .slice kidsA kids.length kidsC] 89) = w0 := ⟨_, rfl⟩
  have HB0 : Hid (Below w.heap.size w w0) := by rw [← hw0]; exact (Below.refl _ _).alloc (Nat.le_refl _) _
  have HE0 : Hid (w0.heap[w.heap.size]? = some (.cells #[.string p, .string d, .int .i64 v, .int .i64 md, .int .i64 ch, .int .i64 ow, .slice kidsA kids.length kidsC] 89 (0, 0))) := by show _ = _; rw [← hw0]; exact heap_alloc_new _ _
  have HW : Hid (w.alloc (.cells #[.string p, .string d, .int .i64 v, .int .i64 md, .int .i64 ch, .int .i64 ow, .slice kidsA kids.length kidsC] 89) = w0) := hw0
  clear hw0
  go_enter Tryz.func186, Tryz.ntmps186
  go_upto_region 1 with fail
  rw [HW.out]
  obtain ⟨c0, c1, c2, c3, c4, c5, c6⟩ := cells_7N HE0.out
  go_wp2_with (first
    | (have hq := HB2; clear hq; go_at_call 247; refine Calls.mono (listStr 0 64 kidsA kidsC kids NmOk _ (fun x hx W hb => name_ck x W (HG.out.below (below_of HB2.out hb))) (HA.out.kids.below HB2.out)) ?_; rintro e w3 ⟨⟨rfl, h⟩ | ⟨rfl, h⟩, hb⟩
       rotate_left
       · exact ⟨rfl, .inr ⟨rfl, by rw [HOK.out]; exact fun g => h (g.2.2)⟩, xtransN HB2.out hb⟩
       have H2 : Hid ((((0 : Int) ≤ (kids.length : Int) ∧ (kids.length : Int) ≤ 64) ∧ ∀ x ∈ kids, NmOk x)) := h
       have HB3 : Hid (Below w.heap.size w w3) := xtransN HB2.out hb
       have HE3 : Hid (w3.heap[w.heap.size]? = some (.cells #[.string p, .string d, .int .i64 v, .int .i64 md, .int .i64 ch, .int .i64 ow, .slice kidsA kids.length kidsC] 89 (0, 0))) := kept_block (below_of (Below.refl _ _) hb) HE2.out
       clear h hb c0 c1 c2 c3 c4 c5 c6
       obtain ⟨c0, c1, c2, c3, c4, c5, c6⟩ := cells_7N HE3.out)
    | (have hq := HB1; clear hq; go_at_call 105; refine Calls.mono (numbers_ck _ _ [v, md, ch, ow] _ (rowC_new _ [v, md, ch, ow] (show 4 ≤ maxLen by decide))) ?_; rintro e w2 ⟨⟨rfl, h⟩ | ⟨rfl, h⟩, hb⟩
       rotate_left
       · exact ⟨rfl, .inr ⟨rfl, by rw [HOK.out]; exact fun g => h (g.2.1)⟩, xtransN (ext_alloc HB1.out _) hb⟩
       have H1 : Hid (nums [v, md, ch, ow]) := h
       have HB2 : Hid (Below w.heap.size w w2) := xtransN (ext_alloc HB1.out _) hb
       have HE2 : Hid (w2.heap[w.heap.size]? = some (.cells #[.string p, .string d, .int .i64 v, .int .i64 md, .int .i64 ch, .int .i64 ow, .slice kidsA kids.length kidsC] 89 (0, 0))) := kept_block (below_of (ext_alloc (Below.refl _ _) _) hb) HE1.out
       clear h hb c0 c1 c2 c3 c4 c5 c6
       obtain ⟨c0, c1, c2, c3, c4, c5, c6⟩ := cells_7N HE2.out)
    | (have hq := HB0; clear hq; go_at_call 106; refine Calls.mono (text_ck _ _ _) ?_; rintro e w1 ⟨⟨rfl, h⟩ | ⟨rfl, h⟩, hb⟩
       rotate_left
       · exact ⟨rfl, .inr ⟨rfl, by rw [HOK.out]; exact fun g => h (g.1)⟩, xtransN HB0.out hb⟩
       have H0 : Hid ((d.size : Int) ≤ 64) := h
       have HB1 : Hid (Below w.heap.size w w1) := xtransN HB0.out hb
       have HE1 : Hid (w1.heap[w.heap.size]? = some (.cells #[.string p, .string d, .int .i64 v, .int .i64 md, .int .i64 ch, .int .i64 ow, .slice kidsA kids.length kidsC] 89 (0, 0))) := kept_block (below_of (Below.refl _ _) hb) HE0.out
       clear h hb c0 c1 c2 c3 c4 c5 c6
       obtain ⟨c0, c1, c2, c3, c4, c5, c6⟩ := cells_7N HE1.out)
    | fail)
  all_goals exact bodyPost_end (results_none rfl _ _ _) rfl ⟨.inl ⟨rfl, by rw [HOK.out]; exact ⟨H0.out, H1.out, H2.out⟩⟩, HB3.out⟩
set_option maxHeartbeats 3200000 in
theorem Rs_coreB (p : ByteArray) (d : ByteArray) (v : Int) (md : Int) (ch : Int) (ow : Int) (kidsA : Option Addr) (kidsC : Nat) (kids : List ByteArray) (w : World) (hg : Ground w) (hA : RsN.At w ⟨p, d, v, md, ch, ow, kidsA, kidsC, kids⟩) (hp : p.toList.isEmpty = false) : Calls Tryz.prog 186 #[.agg #[.string p, .string d, .int .i64 v, .int .i64 md, .int .i64 ch, .int .i64 ow, .slice kidsA kids.length kidsC]] w (CK ((parse p).1 = 0 ∧ (d.size : Int) ≤ 64 ∧ nums [v, md, ch, ow] ∧ (((0 : Int) ≤ (kids.length : Int) ∧ (kids.length : Int) ≤ 64) ∧ ∀ x ∈ kids, NmOk x)) w) := by
  obtain ⟨ok, hok⟩ : ∃ ok : Prop, ((parse p).1 = 0 ∧ (d.size : Int) ≤ 64 ∧ nums [v, md, ch, ow] ∧ (((0 : Int) ≤ (kids.length : Int) ∧ (kids.length : Int) ≤ 64) ∧ ∀ x ∈ kids, NmOk x) : Prop) = ok := ⟨_, rfl⟩
  have HOK : Hid (ok = ((parse p).1 = 0 ∧ (d.size : Int) ≤ 64 ∧ nums [v, md, ch, ow] ∧ (((0 : Int) ≤ (kids.length : Int) ∧ (kids.length : Int) ≤ 64) ∧ ∀ x ∈ kids, NmOk x))) := hok.symm
  rw [hok]
  clear hok
  have HG : Hid (Ground w) := hg
  clear hg
  have HA : Hid (RsN.At w ⟨p, d, v, md, ch, ow, kidsA, kidsC, kids⟩) := hA
  clear hA
  obtain ⟨w0, hw0⟩ : ∃ w0, w.alloc (.cells #[.string p, .string d, .int .i64 v, .int .i64 md, .int .i64 ch, .int .i64 ow, .slice kidsA kids.length kidsC] 89) = w0 := ⟨_, rfl⟩
  have HB0 : Hid (Below w.heap.size w w0) := by rw [← hw0]; exact (Below.refl _ _).alloc (Nat.le_refl _) _
  have HE0 : Hid (w0.heap[w.heap.size]? = some (.cells #[.string p, .string d, .int .i64 v, .int .i64 md, .int .i64 ch, .int .i64 ow, .slice kidsA kids.length kidsC] 89 (0, 0))) := by show _ = _; rw [← hw0]; exact heap_alloc_new _ _
  have HW : Hid (w.alloc (.cells #[.string p, .string d, .int .i64 v, .int .i64 md, .int .i64 ch, .int .i64 ow, .slice kidsA kids.length kidsC] 89) = w0) := hw0
  clear hw0
  go_enter Tryz.func186, Tryz.ntmps186
  go_upto_region 1 with fail
  rw [HW.out]
  obtain ⟨c0, c1, c2, c3, c4, c5, c6⟩ := cells_7N HE0.out
  go_wp2_with (first
    | (have hq := HB3; clear hq; go_at_call 247; refine Calls.mono (listStr 0 64 kidsA kidsC kids NmOk _ (fun x hx W hb => name_ck x W (HG.out.below (below_of HB3.out hb))) (HA.out.kids.below HB3.out)) ?_; rintro e w4 ⟨⟨rfl, h⟩ | ⟨rfl, h⟩, hb⟩
       rotate_left
       · exact ⟨rfl, .inr ⟨rfl, by rw [HOK.out]; exact fun g => h (g.2.2.2)⟩, xtransN HB3.out hb⟩
       have H3 : Hid ((((0 : Int) ≤ (kids.length : Int) ∧ (kids.length : Int) ≤ 64) ∧ ∀ x ∈ kids, NmOk x)) := h
       have HB4 : Hid (Below w.heap.size w w4) := xtransN HB3.out hb
       have HE4 : Hid (w4.heap[w.heap.size]? = some (.cells #[.string p, .string d, .int .i64 v, .int .i64 md, .int .i64 ch, .int .i64 ow, .slice kidsA kids.length kidsC] 89 (0, 0))) := kept_block (below_of (Below.refl _ _) hb) HE3.out
       clear h hb c0 c1 c2 c3 c4 c5 c6
       obtain ⟨c0, c1, c2, c3, c4, c5, c6⟩ := cells_7N HE4.out)
    | (have hq := HB2; clear hq; go_at_call 105; refine Calls.mono (numbers_ck _ _ [v, md, ch, ow] _ (rowC_new _ [v, md, ch, ow] (show 4 ≤ maxLen by decide))) ?_; rintro e w3 ⟨⟨rfl, h⟩ | ⟨rfl, h⟩, hb⟩
       rotate_left
       · exact ⟨rfl, .inr ⟨rfl, by rw [HOK.out]; exact fun g => h (g.2.2.1)⟩, xtransN (ext_alloc HB2.out _) hb⟩
       have H2 : Hid (nums [v, md, ch, ow]) := h
       have HB3 : Hid (Below w.heap.size w w3) := xtransN (ext_alloc HB2.out _) hb
       have HE3 : Hid (w3.heap[w.heap.size]? = some (.cells #[.string p, .string d, .int .i64 v, .int .i64 md, .int .i64 ch, .int .i64 ow, .slice kidsA kids.length kidsC] 89 (0, 0))) := kept_block (below_of (ext_alloc (Below.refl _ _) _) hb) HE2.out
       clear h hb c0 c1 c2 c3 c4 c5 c6
       obtain ⟨c0, c1, c2, c3, c4, c5, c6⟩ := cells_7N HE3.out)
    | (have hq := HB1; clear hq; go_at_call 106; refine Calls.mono (text_ck _ _ _) ?_; rintro e w2 ⟨⟨rfl, h⟩ | ⟨rfl, h⟩, hb⟩
       rotate_left
       · exact ⟨rfl, .inr ⟨rfl, by rw [HOK.out]; exact fun g => h (g.2.1)⟩, xtransN HB1.out hb⟩
       have H1 : Hid ((d.size : Int) ≤ 64) := h
       have HB2 : Hid (Below w.heap.size w w2) := xtransN HB1.out hb
       have HE2 : Hid (w2.heap[w.heap.size]? = some (.cells #[.string p, .string d, .int .i64 v, .int .i64 md, .int .i64 ch, .int .i64 ow, .slice kidsA kids.length kidsC] 89 (0, 0))) := kept_block (below_of (Below.refl _ _) hb) HE1.out
       clear h hb c0 c1 c2 c3 c4 c5 c6
       obtain ⟨c0, c1, c2, c3, c4, c5, c6⟩ := cells_7N HE2.out)
    | (have hq := HB0; clear hq; go_at_call 246; refine Calls.mono (place_ck _ _ (HG.out.below HB0.out)) ?_; rintro e w1 ⟨⟨rfl, h⟩ | ⟨rfl, h⟩, hb⟩
       rotate_left
       · exact ⟨rfl, .inr ⟨rfl, by rw [HOK.out]; exact fun g => h (g.1)⟩, xtransN HB0.out hb⟩
       have H0 : Hid ((parse p).1 = 0) := h
       have HB1 : Hid (Below w.heap.size w w1) := xtransN HB0.out hb
       have HE1 : Hid (w1.heap[w.heap.size]? = some (.cells #[.string p, .string d, .int .i64 v, .int .i64 md, .int .i64 ch, .int .i64 ow, .slice kidsA kids.length kidsC] 89 (0, 0))) := kept_block (below_of (Below.refl _ _) hb) HE0.out
       clear h hb c0 c1 c2 c3 c4 c5 c6
       obtain ⟨c0, c1, c2, c3, c4, c5, c6⟩ := cells_7N HE1.out)
    | fail)
  all_goals exact bodyPost_end (results_none rfl _ _ _) rfl ⟨.inl ⟨rfl, by rw [HOK.out]; exact ⟨H0.out, H1.out, H2.out, H3.out⟩⟩, HB4.out⟩
theorem Rs_ck (x : RsN) (w : World) (hg : Ground w) (hA : x.At w) : Calls Tryz.prog 186 #[x.val] w (CK x.Ok w) := by
  obtain ⟨p, d, v, md, ch, ow, kidsA, kidsC, kids⟩ := x
  by_cases hp : p.size = 0
  · exact (Rs_coreA p d v md ch ow kidsA kidsC kids w hg hA (by rw [emp_iff]; simpa using hp)).mono fun e w' h => h.congr ⟨fun h => ⟨.inl hp, h⟩, fun h => h.2⟩
  · exact (Rs_coreB p d v md ch ow kidsA kidsC kids w hg hA (by rw [emp_iff]; simpa using hp)).mono fun e w' h => h.congr ⟨fun h => ⟨.inr h.1, h.2⟩, fun h => ⟨h.1.resolve_left hp, h.2⟩⟩
def EnN.Ok : EnN → Prop := fun ⟨st, vw, K, se, rq, opsA, opsC, ops⟩ => (1 ≤ st ∧ st ≤ 2147483647) ∧ (0 ≤ vw ∧ vw ≤ 2147483647) ∧ (1 ≤ se ∧ se ≤ 2147483647) ∧ ((K = 1 ∧ (1 ≤ rq ∧ rq ≤ 2147483647) ∧ (((0 : Int) ≤ (ops.length : Int) ∧ (ops.length : Int) ≤ 4) ∧ ∀ x ∈ ops, OpN.Ok x)) ∨ ((K = 2 ∨ K = 3 ∨ K = 4) ∧ rq = 0 ∧ ops.length = 0))
set_option maxHeartbeats 3200000 in
theorem En_c1 (st : Int) (vw : Int) (se : Int) (rq : Int) (opsA : Option Addr) (opsC : Nat) (ops : List OpN) (w : World) (hA : EnN.At w ⟨st, vw, 1, se, rq, opsA, opsC, ops⟩) : Calls Tryz.prog 25 #[.agg #[.int .i64 st, .int .i64 vw, .int .i64 1, .int .i64 se, .int .i64 rq, .slice opsA ops.length opsC]] w (CK ((1 ≤ st ∧ st ≤ 2147483647) ∧ (0 ≤ vw ∧ vw ≤ 2147483647) ∧ (1 ≤ se ∧ se ≤ 2147483647) ∧ (1 ≤ rq ∧ rq ≤ 2147483647) ∧ (((0 : Int) ≤ (ops.length : Int) ∧ (ops.length : Int) ≤ 4) ∧ ∀ x ∈ ops, OpN.Ok x)) w) := by
  obtain ⟨ok, hok⟩ : ∃ ok : Prop, ((1 ≤ st ∧ st ≤ 2147483647) ∧ (0 ≤ vw ∧ vw ≤ 2147483647) ∧ (1 ≤ se ∧ se ≤ 2147483647) ∧ (1 ≤ rq ∧ rq ≤ 2147483647) ∧ (((0 : Int) ≤ (ops.length : Int) ∧ (ops.length : Int) ≤ 4) ∧ ∀ x ∈ ops, OpN.Ok x) : Prop) = ok := ⟨_, rfl⟩
  have HOK : Hid (ok = ((1 ≤ st ∧ st ≤ 2147483647) ∧ (0 ≤ vw ∧ vw ≤ 2147483647) ∧ (1 ≤ se ∧ se ≤ 2147483647) ∧ (1 ≤ rq ∧ rq ≤ 2147483647) ∧ (((0 : Int) ≤ (ops.length : Int) ∧ (ops.length : Int) ≤ 4) ∧ ∀ x ∈ ops, OpN.Ok x))) := hok.symm
  rw [hok]
  clear hok
  have HA : Hid (EnN.At w ⟨st, vw, 1, se, rq, opsA, opsC, ops⟩) := hA
  clear hA
  obtain ⟨w0, hw0⟩ : ∃ w0, w.alloc (.cells #[.int .i64 st, .int .i64 vw, .int .i64 1, .int .i64 se, .int .i64 rq, .slice opsA ops.length opsC] 24) = w0 := ⟨_, rfl⟩
  have HB0 : Hid (Below w.heap.size w w0) := by rw [← hw0]; exact (Below.refl _ _).alloc (Nat.le_refl _) _
  have HE0 : Hid (w0.heap[w.heap.size]? = some (.cells #[.int .i64 st, .int .i64 vw, .int .i64 1, .int .i64 se, .int .i64 rq, .slice opsA ops.length opsC] 24 (0, 0))) := by show _ = _; rw [← hw0]; exact heap_alloc_new _ _
  have HW : Hid (w.alloc (.cells #[.int .i64 st, .int .i64 vw, .int .i64 1, .int .i64 se, .int .i64 rq, .slice opsA ops.length opsC] 24) = w0) := hw0
  clear hw0
  go_enter Tryz.func25, Tryz.ntmps25
  go_upto_region 1 with fail
  rw [HW.out]
  obtain ⟨c0, c1, c2, c3, c4, c5⟩ := cells_6N HE0.out
  go_wp2_with (first
    | (have hq := HB4; clear hq; go_at_call 68; refine Calls.mono (listOp 0 4 opsA opsC ops OpN.Ok _ (fun x hx W hb => Op_ck x W) (HA.out.ops.below HB4.out)) ?_; rintro e w5 ⟨⟨rfl, h⟩ | ⟨rfl, h⟩, hb⟩
       rotate_left
       · exact ⟨rfl, .inr ⟨rfl, by rw [HOK.out]; exact fun g => h (g.2.2.2.2)⟩, xtransN HB4.out hb⟩
       have H4 : Hid ((((0 : Int) ≤ (ops.length : Int) ∧ (ops.length : Int) ≤ 4) ∧ ∀ x ∈ ops, OpN.Ok x)) := h
       have HB5 : Hid (Below w.heap.size w w5) := xtransN HB4.out hb
       have HE5 : Hid (w5.heap[w.heap.size]? = some (.cells #[.int .i64 st, .int .i64 vw, .int .i64 1, .int .i64 se, .int .i64 rq, .slice opsA ops.length opsC] 24 (0, 0))) := kept_block (below_of (Below.refl _ _) hb) HE4.out
       clear h hb c0 c1 c2 c3 c4 c5
       obtain ⟨c0, c1, c2, c3, c4, c5⟩ := cells_6N HE5.out)
    | (have hq := HB3; clear hq; go_at_call 67; refine Calls.mono (number_ck _ _ _) ?_; rintro e w4 ⟨⟨rfl, h⟩ | ⟨rfl, h⟩, hb⟩
       rotate_left
       · exact ⟨rfl, .inr ⟨rfl, by rw [HOK.out]; exact fun g => h (g.2.2.2.1)⟩, xtransN HB3.out hb⟩
       have H3 : Hid ((1 ≤ rq ∧ rq ≤ 2147483647)) := h
       have HB4 : Hid (Below w.heap.size w w4) := xtransN HB3.out hb
       have HE4 : Hid (w4.heap[w.heap.size]? = some (.cells #[.int .i64 st, .int .i64 vw, .int .i64 1, .int .i64 se, .int .i64 rq, .slice opsA ops.length opsC] 24 (0, 0))) := kept_block (below_of (Below.refl _ _) hb) HE3.out
       clear h hb c0 c1 c2 c3 c4 c5
       obtain ⟨c0, c1, c2, c3, c4, c5⟩ := cells_6N HE4.out)
    | (have hq := HB2; clear hq; go_at_call 67; refine Calls.mono (number_ck _ _ _) ?_; rintro e w3 ⟨⟨rfl, h⟩ | ⟨rfl, h⟩, hb⟩
       rotate_left
       · exact ⟨rfl, .inr ⟨rfl, by rw [HOK.out]; exact fun g => h (g.2.2.1)⟩, xtransN HB2.out hb⟩
       have H2 : Hid ((1 ≤ se ∧ se ≤ 2147483647)) := h
       have HB3 : Hid (Below w.heap.size w w3) := xtransN HB2.out hb
       have HE3 : Hid (w3.heap[w.heap.size]? = some (.cells #[.int .i64 st, .int .i64 vw, .int .i64 1, .int .i64 se, .int .i64 rq, .slice opsA ops.length opsC] 24 (0, 0))) := kept_block (below_of (Below.refl _ _) hb) HE2.out
       clear h hb c0 c1 c2 c3 c4 c5
       obtain ⟨c0, c1, c2, c3, c4, c5⟩ := cells_6N HE3.out)
    | (have hq := HB1; clear hq; go_at_call 67; refine Calls.mono (number_ck _ _ _) ?_; rintro e w2 ⟨⟨rfl, h⟩ | ⟨rfl, h⟩, hb⟩
       rotate_left
       · exact ⟨rfl, .inr ⟨rfl, by rw [HOK.out]; exact fun g => h (g.2.1)⟩, xtransN HB1.out hb⟩
       have H1 : Hid ((0 ≤ vw ∧ vw ≤ 2147483647)) := h
       have HB2 : Hid (Below w.heap.size w w2) := xtransN HB1.out hb
       have HE2 : Hid (w2.heap[w.heap.size]? = some (.cells #[.int .i64 st, .int .i64 vw, .int .i64 1, .int .i64 se, .int .i64 rq, .slice opsA ops.length opsC] 24 (0, 0))) := kept_block (below_of (Below.refl _ _) hb) HE1.out
       clear h hb c0 c1 c2 c3 c4 c5
       obtain ⟨c0, c1, c2, c3, c4, c5⟩ := cells_6N HE2.out)
    | (have hq := HB0; clear hq; go_at_call 67; refine Calls.mono (number_ck _ _ _) ?_; rintro e w1 ⟨⟨rfl, h⟩ | ⟨rfl, h⟩, hb⟩
       rotate_left
       · exact ⟨rfl, .inr ⟨rfl, by rw [HOK.out]; exact fun g => h (g.1)⟩, xtransN HB0.out hb⟩
       have H0 : Hid ((1 ≤ st ∧ st ≤ 2147483647)) := h
       have HB1 : Hid (Below w.heap.size w w1) := xtransN HB0.out hb
       have HE1 : Hid (w1.heap[w.heap.size]? = some (.cells #[.int .i64 st, .int .i64 vw, .int .i64 1, .int .i64 se, .int .i64 rq, .slice opsA ops.length opsC] 24 (0, 0))) := kept_block (below_of (Below.refl _ _) hb) HE0.out
       clear h hb c0 c1 c2 c3 c4 c5
       obtain ⟨c0, c1, c2, c3, c4, c5⟩ := cells_6N HE1.out)
    | fail)
  all_goals exact bodyPost_end (results_none rfl _ _ _) rfl ⟨.inl ⟨rfl, by rw [HOK.out]; exact ⟨H0.out, H1.out, H2.out, H3.out, H4.out⟩⟩, HB5.out⟩
set_option maxHeartbeats 3200000 in
theorem En_c2 (st : Int) (vw : Int) (se : Int) (opsA : Option Addr) (opsC : Nat) (ops : List OpN) (w : World) (hA : EnN.At w ⟨st, vw, 2, se, 0, opsA, opsC, ops⟩) : Calls Tryz.prog 25 #[.agg #[.int .i64 st, .int .i64 vw, .int .i64 2, .int .i64 se, .int .i64 0, .slice opsA ops.length opsC]] w (CK ((1 ≤ st ∧ st ≤ 2147483647) ∧ (0 ≤ vw ∧ vw ≤ 2147483647) ∧ (1 ≤ se ∧ se ≤ 2147483647) ∧ True ∧ (ops.length : Int) = 0) w) := by
  obtain ⟨ok, hok⟩ : ∃ ok : Prop, ((1 ≤ st ∧ st ≤ 2147483647) ∧ (0 ≤ vw ∧ vw ≤ 2147483647) ∧ (1 ≤ se ∧ se ≤ 2147483647) ∧ True ∧ (ops.length : Int) = 0 : Prop) = ok := ⟨_, rfl⟩
  have HOK : Hid (ok = ((1 ≤ st ∧ st ≤ 2147483647) ∧ (0 ≤ vw ∧ vw ≤ 2147483647) ∧ (1 ≤ se ∧ se ≤ 2147483647) ∧ True ∧ (ops.length : Int) = 0)) := hok.symm
  rw [hok]
  clear hok
  have HA : Hid (EnN.At w ⟨st, vw, 2, se, 0, opsA, opsC, ops⟩) := hA
  clear hA
  obtain ⟨w0, hw0⟩ : ∃ w0, w.alloc (.cells #[.int .i64 st, .int .i64 vw, .int .i64 2, .int .i64 se, .int .i64 0, .slice opsA ops.length opsC] 24) = w0 := ⟨_, rfl⟩
  have HB0 : Hid (Below w.heap.size w w0) := by rw [← hw0]; exact (Below.refl _ _).alloc (Nat.le_refl _) _
  have HE0 : Hid (w0.heap[w.heap.size]? = some (.cells #[.int .i64 st, .int .i64 vw, .int .i64 2, .int .i64 se, .int .i64 0, .slice opsA ops.length opsC] 24 (0, 0))) := by show _ = _; rw [← hw0]; exact heap_alloc_new _ _
  have HW : Hid (w.alloc (.cells #[.int .i64 st, .int .i64 vw, .int .i64 2, .int .i64 se, .int .i64 0, .slice opsA ops.length opsC] 24) = w0) := hw0
  clear hw0
  go_enter Tryz.func25, Tryz.ntmps25
  go_upto_region 1 with fail
  rw [HW.out]
  obtain ⟨c0, c1, c2, c3, c4, c5⟩ := cells_6N HE0.out
  go_wp2_with (first
    | (have hq := HB4; clear hq; go_at_call 70; refine Calls.mono (must_ckB _ _) ?_; rintro e w5 ⟨⟨rfl, h⟩ | ⟨rfl, h⟩, hb⟩
       rotate_left
       · exact ⟨rfl, .inr ⟨rfl, by rw [HOK.out]; exact fun g => by have g1 := g.2.2.2.2; first | exact h rfl | exact h trivial | exact h.elim | exact g1.elim | exact h (by simpa using g1) | exact h (by simp_all)⟩, xtransN HB4.out hb⟩
       have H4 : Hid ((ops.length : Int) = 0) := (by show ((ops.length : Int) = 0); first | exact trivial | exact absurd h (by decide) | exact h.elim | simpa using h | simp_all)
       have HB5 : Hid (Below w.heap.size w w5) := xtransN HB4.out hb
       have HE5 : Hid (w5.heap[w.heap.size]? = some (.cells #[.int .i64 st, .int .i64 vw, .int .i64 2, .int .i64 se, .int .i64 0, .slice opsA ops.length opsC] 24 (0, 0))) := kept_block (below_of (Below.refl _ _) hb) HE4.out
       clear h hb c0 c1 c2 c3 c4 c5
       obtain ⟨c0, c1, c2, c3, c4, c5⟩ := cells_6N HE5.out)
    | (have hq := HB3; clear hq; go_at_call 70; refine Calls.mono (must_ckB _ _) ?_; rintro e w4 ⟨⟨rfl, h⟩ | ⟨rfl, h⟩, hb⟩
       rotate_left
       · exact ⟨rfl, .inr ⟨rfl, by rw [HOK.out]; exact fun g => by have g1 := g.2.2.2.1; first | exact h rfl | exact h trivial | exact h.elim | exact g1.elim | exact h (by simpa using g1) | exact h (by simp_all)⟩, xtransN HB3.out hb⟩
       have H3 : Hid (True) := (by show (True); first | exact trivial | exact absurd h (by decide) | exact h.elim | simpa using h | simp_all)
       have HB4 : Hid (Below w.heap.size w w4) := xtransN HB3.out hb
       have HE4 : Hid (w4.heap[w.heap.size]? = some (.cells #[.int .i64 st, .int .i64 vw, .int .i64 2, .int .i64 se, .int .i64 0, .slice opsA ops.length opsC] 24 (0, 0))) := kept_block (below_of (Below.refl _ _) hb) HE3.out
       clear h hb c0 c1 c2 c3 c4 c5
       obtain ⟨c0, c1, c2, c3, c4, c5⟩ := cells_6N HE4.out)
    | (have hq := HB2; clear hq; go_at_call 67; refine Calls.mono (number_ck _ _ _) ?_; rintro e w3 ⟨⟨rfl, h⟩ | ⟨rfl, h⟩, hb⟩
       rotate_left
       · exact ⟨rfl, .inr ⟨rfl, by rw [HOK.out]; exact fun g => h (g.2.2.1)⟩, xtransN HB2.out hb⟩
       have H2 : Hid ((1 ≤ se ∧ se ≤ 2147483647)) := h
       have HB3 : Hid (Below w.heap.size w w3) := xtransN HB2.out hb
       have HE3 : Hid (w3.heap[w.heap.size]? = some (.cells #[.int .i64 st, .int .i64 vw, .int .i64 2, .int .i64 se, .int .i64 0, .slice opsA ops.length opsC] 24 (0, 0))) := kept_block (below_of (Below.refl _ _) hb) HE2.out
       clear h hb c0 c1 c2 c3 c4 c5
       obtain ⟨c0, c1, c2, c3, c4, c5⟩ := cells_6N HE3.out)
    | (have hq := HB1; clear hq; go_at_call 67; refine Calls.mono (number_ck _ _ _) ?_; rintro e w2 ⟨⟨rfl, h⟩ | ⟨rfl, h⟩, hb⟩
       rotate_left
       · exact ⟨rfl, .inr ⟨rfl, by rw [HOK.out]; exact fun g => h (g.2.1)⟩, xtransN HB1.out hb⟩
       have H1 : Hid ((0 ≤ vw ∧ vw ≤ 2147483647)) := h
       have HB2 : Hid (Below w.heap.size w w2) := xtransN HB1.out hb
       have HE2 : Hid (w2.heap[w.heap.size]? = some (.cells #[.int .i64 st, .int .i64 vw, .int .i64 2, .int .i64 se, .int .i64 0, .slice opsA ops.length opsC] 24 (0, 0))) := kept_block (below_of (Below.refl _ _) hb) HE1.out
       clear h hb c0 c1 c2 c3 c4 c5
       obtain ⟨c0, c1, c2, c3, c4, c5⟩ := cells_6N HE2.out)
    | (have hq := HB0; clear hq; go_at_call 67; refine Calls.mono (number_ck _ _ _) ?_; rintro e w1 ⟨⟨rfl, h⟩ | ⟨rfl, h⟩, hb⟩
       rotate_left
       · exact ⟨rfl, .inr ⟨rfl, by rw [HOK.out]; exact fun g => h (g.1)⟩, xtransN HB0.out hb⟩
       have H0 : Hid ((1 ≤ st ∧ st ≤ 2147483647)) := h
       have HB1 : Hid (Below w.heap.size w w1) := xtransN HB0.out hb
       have HE1 : Hid (w1.heap[w.heap.size]? = some (.cells #[.int .i64 st, .int .i64 vw, .int .i64 2, .int .i64 se, .int .i64 0, .slice opsA ops.length opsC] 24 (0, 0))) := kept_block (below_of (Below.refl _ _) hb) HE0.out
       clear h hb c0 c1 c2 c3 c4 c5
       obtain ⟨c0, c1, c2, c3, c4, c5⟩ := cells_6N HE1.out)
    | fail)
  all_goals exact bodyPost_end (results_none rfl _ _ _) rfl ⟨.inl ⟨rfl, by rw [HOK.out]; exact ⟨H0.out, H1.out, H2.out, H3.out, H4.out⟩⟩, HB5.out⟩
set_option maxHeartbeats 3200000 in
theorem En_d2 (st : Int) (vw : Int) (se : Int) (rq : Int) (opsA : Option Addr) (opsC : Nat) (ops : List OpN) (w : World) (hA : EnN.At w ⟨st, vw, 2, se, rq, opsA, opsC, ops⟩) (hr : ¬ rq = 0) : Calls Tryz.prog 25 #[.agg #[.int .i64 st, .int .i64 vw, .int .i64 2, .int .i64 se, .int .i64 rq, .slice opsA ops.length opsC]] w (CK ((1 ≤ st ∧ st ≤ 2147483647) ∧ (0 ≤ vw ∧ vw ≤ 2147483647) ∧ (1 ≤ se ∧ se ≤ 2147483647) ∧ True ∧ False) w) := by
  obtain ⟨ok, hok⟩ : ∃ ok : Prop, ((1 ≤ st ∧ st ≤ 2147483647) ∧ (0 ≤ vw ∧ vw ≤ 2147483647) ∧ (1 ≤ se ∧ se ≤ 2147483647) ∧ True ∧ False : Prop) = ok := ⟨_, rfl⟩
  have HOK : Hid (ok = ((1 ≤ st ∧ st ≤ 2147483647) ∧ (0 ≤ vw ∧ vw ≤ 2147483647) ∧ (1 ≤ se ∧ se ≤ 2147483647) ∧ True ∧ False)) := hok.symm
  rw [hok]
  clear hok
  have HA : Hid (EnN.At w ⟨st, vw, 2, se, rq, opsA, opsC, ops⟩) := hA
  clear hA
  obtain ⟨w0, hw0⟩ : ∃ w0, w.alloc (.cells #[.int .i64 st, .int .i64 vw, .int .i64 2, .int .i64 se, .int .i64 rq, .slice opsA ops.length opsC] 24) = w0 := ⟨_, rfl⟩
  have HB0 : Hid (Below w.heap.size w w0) := by rw [← hw0]; exact (Below.refl _ _).alloc (Nat.le_refl _) _
  have HE0 : Hid (w0.heap[w.heap.size]? = some (.cells #[.int .i64 st, .int .i64 vw, .int .i64 2, .int .i64 se, .int .i64 rq, .slice opsA ops.length opsC] 24 (0, 0))) := by show _ = _; rw [← hw0]; exact heap_alloc_new _ _
  have HW : Hid (w.alloc (.cells #[.int .i64 st, .int .i64 vw, .int .i64 2, .int .i64 se, .int .i64 rq, .slice opsA ops.length opsC] 24) = w0) := hw0
  clear hw0
  go_enter Tryz.func25, Tryz.ntmps25
  go_upto_region 1 with fail
  rw [HW.out]
  obtain ⟨c0, c1, c2, c3, c4, c5⟩ := cells_6N HE0.out
  go_wp2_with (first
    | (have hq := HB4; clear hq; go_at_call 70; refine Calls.mono (must_ckB _ _) ?_; rintro e w5 ⟨⟨rfl, h⟩ | ⟨rfl, h⟩, hb⟩
       rotate_left
       · exact ⟨rfl, .inr ⟨rfl, by rw [HOK.out]; exact fun g => by have g1 := g.2.2.2.2; first | exact h rfl | exact h trivial | exact h.elim | exact g1.elim | exact h (by simpa using g1) | exact h (by simp_all)⟩, xtransN HB4.out hb⟩
       have H4 : Hid (False) := (by show (False); first | exact trivial | exact absurd h (by decide) | exact h.elim | simpa using h | simp_all)
       have HB5 : Hid (Below w.heap.size w w5) := xtransN HB4.out hb
       have HE5 : Hid (w5.heap[w.heap.size]? = some (.cells #[.int .i64 st, .int .i64 vw, .int .i64 2, .int .i64 se, .int .i64 rq, .slice opsA ops.length opsC] 24 (0, 0))) := kept_block (below_of (Below.refl _ _) hb) HE4.out
       clear h hb c0 c1 c2 c3 c4 c5
       obtain ⟨c0, c1, c2, c3, c4, c5⟩ := cells_6N HE5.out)
    | (have hq := HB3; clear hq; go_at_call 70; refine Calls.mono (must_ckB _ _) ?_; rintro e w4 ⟨⟨rfl, h⟩ | ⟨rfl, h⟩, hb⟩
       rotate_left
       · exact ⟨rfl, .inr ⟨rfl, by rw [HOK.out]; exact fun g => by have g1 := g.2.2.2.1; first | exact h rfl | exact h trivial | exact h.elim | exact g1.elim | exact h (by simpa using g1) | exact h (by simp_all)⟩, xtransN HB3.out hb⟩
       have H3 : Hid (True) := (by show (True); first | exact trivial | exact absurd h (by decide) | exact h.elim | simpa using h | simp_all)
       have HB4 : Hid (Below w.heap.size w w4) := xtransN HB3.out hb
       have HE4 : Hid (w4.heap[w.heap.size]? = some (.cells #[.int .i64 st, .int .i64 vw, .int .i64 2, .int .i64 se, .int .i64 rq, .slice opsA ops.length opsC] 24 (0, 0))) := kept_block (below_of (Below.refl _ _) hb) HE3.out
       clear h hb c0 c1 c2 c3 c4 c5
       obtain ⟨c0, c1, c2, c3, c4, c5⟩ := cells_6N HE4.out)
    | (have hq := HB2; clear hq; go_at_call 67; refine Calls.mono (number_ck _ _ _) ?_; rintro e w3 ⟨⟨rfl, h⟩ | ⟨rfl, h⟩, hb⟩
       rotate_left
       · exact ⟨rfl, .inr ⟨rfl, by rw [HOK.out]; exact fun g => h (g.2.2.1)⟩, xtransN HB2.out hb⟩
       have H2 : Hid ((1 ≤ se ∧ se ≤ 2147483647)) := h
       have HB3 : Hid (Below w.heap.size w w3) := xtransN HB2.out hb
       have HE3 : Hid (w3.heap[w.heap.size]? = some (.cells #[.int .i64 st, .int .i64 vw, .int .i64 2, .int .i64 se, .int .i64 rq, .slice opsA ops.length opsC] 24 (0, 0))) := kept_block (below_of (Below.refl _ _) hb) HE2.out
       clear h hb c0 c1 c2 c3 c4 c5
       obtain ⟨c0, c1, c2, c3, c4, c5⟩ := cells_6N HE3.out)
    | (have hq := HB1; clear hq; go_at_call 67; refine Calls.mono (number_ck _ _ _) ?_; rintro e w2 ⟨⟨rfl, h⟩ | ⟨rfl, h⟩, hb⟩
       rotate_left
       · exact ⟨rfl, .inr ⟨rfl, by rw [HOK.out]; exact fun g => h (g.2.1)⟩, xtransN HB1.out hb⟩
       have H1 : Hid ((0 ≤ vw ∧ vw ≤ 2147483647)) := h
       have HB2 : Hid (Below w.heap.size w w2) := xtransN HB1.out hb
       have HE2 : Hid (w2.heap[w.heap.size]? = some (.cells #[.int .i64 st, .int .i64 vw, .int .i64 2, .int .i64 se, .int .i64 rq, .slice opsA ops.length opsC] 24 (0, 0))) := kept_block (below_of (Below.refl _ _) hb) HE1.out
       clear h hb c0 c1 c2 c3 c4 c5
       obtain ⟨c0, c1, c2, c3, c4, c5⟩ := cells_6N HE2.out)
    | (have hq := HB0; clear hq; go_at_call 67; refine Calls.mono (number_ck _ _ _) ?_; rintro e w1 ⟨⟨rfl, h⟩ | ⟨rfl, h⟩, hb⟩
       rotate_left
       · exact ⟨rfl, .inr ⟨rfl, by rw [HOK.out]; exact fun g => h (g.1)⟩, xtransN HB0.out hb⟩
       have H0 : Hid ((1 ≤ st ∧ st ≤ 2147483647)) := h
       have HB1 : Hid (Below w.heap.size w w1) := xtransN HB0.out hb
       have HE1 : Hid (w1.heap[w.heap.size]? = some (.cells #[.int .i64 st, .int .i64 vw, .int .i64 2, .int .i64 se, .int .i64 rq, .slice opsA ops.length opsC] 24 (0, 0))) := kept_block (below_of (Below.refl _ _) hb) HE0.out
       clear h hb c0 c1 c2 c3 c4 c5
       obtain ⟨c0, c1, c2, c3, c4, c5⟩ := cells_6N HE1.out)
    | fail)
  all_goals exact bodyPost_end (results_none rfl _ _ _) rfl ⟨.inl ⟨rfl, by rw [HOK.out]; exact ⟨H0.out, H1.out, H2.out, H3.out, H4.out⟩⟩, HB5.out⟩
set_option maxHeartbeats 3200000 in
theorem En_c3 (st : Int) (vw : Int) (se : Int) (opsA : Option Addr) (opsC : Nat) (ops : List OpN) (w : World) (hA : EnN.At w ⟨st, vw, 3, se, 0, opsA, opsC, ops⟩) : Calls Tryz.prog 25 #[.agg #[.int .i64 st, .int .i64 vw, .int .i64 3, .int .i64 se, .int .i64 0, .slice opsA ops.length opsC]] w (CK ((1 ≤ st ∧ st ≤ 2147483647) ∧ (0 ≤ vw ∧ vw ≤ 2147483647) ∧ (1 ≤ se ∧ se ≤ 2147483647) ∧ True ∧ (ops.length : Int) = 0) w) := by
  obtain ⟨ok, hok⟩ : ∃ ok : Prop, ((1 ≤ st ∧ st ≤ 2147483647) ∧ (0 ≤ vw ∧ vw ≤ 2147483647) ∧ (1 ≤ se ∧ se ≤ 2147483647) ∧ True ∧ (ops.length : Int) = 0 : Prop) = ok := ⟨_, rfl⟩
  have HOK : Hid (ok = ((1 ≤ st ∧ st ≤ 2147483647) ∧ (0 ≤ vw ∧ vw ≤ 2147483647) ∧ (1 ≤ se ∧ se ≤ 2147483647) ∧ True ∧ (ops.length : Int) = 0)) := hok.symm
  rw [hok]
  clear hok
  have HA : Hid (EnN.At w ⟨st, vw, 3, se, 0, opsA, opsC, ops⟩) := hA
  clear hA
  obtain ⟨w0, hw0⟩ : ∃ w0, w.alloc (.cells #[.int .i64 st, .int .i64 vw, .int .i64 3, .int .i64 se, .int .i64 0, .slice opsA ops.length opsC] 24) = w0 := ⟨_, rfl⟩
  have HB0 : Hid (Below w.heap.size w w0) := by rw [← hw0]; exact (Below.refl _ _).alloc (Nat.le_refl _) _
  have HE0 : Hid (w0.heap[w.heap.size]? = some (.cells #[.int .i64 st, .int .i64 vw, .int .i64 3, .int .i64 se, .int .i64 0, .slice opsA ops.length opsC] 24 (0, 0))) := by show _ = _; rw [← hw0]; exact heap_alloc_new _ _
  have HW : Hid (w.alloc (.cells #[.int .i64 st, .int .i64 vw, .int .i64 3, .int .i64 se, .int .i64 0, .slice opsA ops.length opsC] 24) = w0) := hw0
  clear hw0
  go_enter Tryz.func25, Tryz.ntmps25
  go_upto_region 1 with fail
  rw [HW.out]
  obtain ⟨c0, c1, c2, c3, c4, c5⟩ := cells_6N HE0.out
  go_wp2_with (first
    | (have hq := HB4; clear hq; go_at_call 70; refine Calls.mono (must_ckB _ _) ?_; rintro e w5 ⟨⟨rfl, h⟩ | ⟨rfl, h⟩, hb⟩
       rotate_left
       · exact ⟨rfl, .inr ⟨rfl, by rw [HOK.out]; exact fun g => by have g1 := g.2.2.2.2; first | exact h rfl | exact h trivial | exact h.elim | exact g1.elim | exact h (by simpa using g1) | exact h (by simp_all)⟩, xtransN HB4.out hb⟩
       have H4 : Hid ((ops.length : Int) = 0) := (by show ((ops.length : Int) = 0); first | exact trivial | exact absurd h (by decide) | exact h.elim | simpa using h | simp_all)
       have HB5 : Hid (Below w.heap.size w w5) := xtransN HB4.out hb
       have HE5 : Hid (w5.heap[w.heap.size]? = some (.cells #[.int .i64 st, .int .i64 vw, .int .i64 3, .int .i64 se, .int .i64 0, .slice opsA ops.length opsC] 24 (0, 0))) := kept_block (below_of (Below.refl _ _) hb) HE4.out
       clear h hb c0 c1 c2 c3 c4 c5
       obtain ⟨c0, c1, c2, c3, c4, c5⟩ := cells_6N HE5.out)
    | (have hq := HB3; clear hq; go_at_call 70; refine Calls.mono (must_ckB _ _) ?_; rintro e w4 ⟨⟨rfl, h⟩ | ⟨rfl, h⟩, hb⟩
       rotate_left
       · exact ⟨rfl, .inr ⟨rfl, by rw [HOK.out]; exact fun g => by have g1 := g.2.2.2.1; first | exact h rfl | exact h trivial | exact h.elim | exact g1.elim | exact h (by simpa using g1) | exact h (by simp_all)⟩, xtransN HB3.out hb⟩
       have H3 : Hid (True) := (by show (True); first | exact trivial | exact absurd h (by decide) | exact h.elim | simpa using h | simp_all)
       have HB4 : Hid (Below w.heap.size w w4) := xtransN HB3.out hb
       have HE4 : Hid (w4.heap[w.heap.size]? = some (.cells #[.int .i64 st, .int .i64 vw, .int .i64 3, .int .i64 se, .int .i64 0, .slice opsA ops.length opsC] 24 (0, 0))) := kept_block (below_of (Below.refl _ _) hb) HE3.out
       clear h hb c0 c1 c2 c3 c4 c5
       obtain ⟨c0, c1, c2, c3, c4, c5⟩ := cells_6N HE4.out)
    | (have hq := HB2; clear hq; go_at_call 67; refine Calls.mono (number_ck _ _ _) ?_; rintro e w3 ⟨⟨rfl, h⟩ | ⟨rfl, h⟩, hb⟩
       rotate_left
       · exact ⟨rfl, .inr ⟨rfl, by rw [HOK.out]; exact fun g => h (g.2.2.1)⟩, xtransN HB2.out hb⟩
       have H2 : Hid ((1 ≤ se ∧ se ≤ 2147483647)) := h
       have HB3 : Hid (Below w.heap.size w w3) := xtransN HB2.out hb
       have HE3 : Hid (w3.heap[w.heap.size]? = some (.cells #[.int .i64 st, .int .i64 vw, .int .i64 3, .int .i64 se, .int .i64 0, .slice opsA ops.length opsC] 24 (0, 0))) := kept_block (below_of (Below.refl _ _) hb) HE2.out
       clear h hb c0 c1 c2 c3 c4 c5
       obtain ⟨c0, c1, c2, c3, c4, c5⟩ := cells_6N HE3.out)
    | (have hq := HB1; clear hq; go_at_call 67; refine Calls.mono (number_ck _ _ _) ?_; rintro e w2 ⟨⟨rfl, h⟩ | ⟨rfl, h⟩, hb⟩
       rotate_left
       · exact ⟨rfl, .inr ⟨rfl, by rw [HOK.out]; exact fun g => h (g.2.1)⟩, xtransN HB1.out hb⟩
       have H1 : Hid ((0 ≤ vw ∧ vw ≤ 2147483647)) := h
       have HB2 : Hid (Below w.heap.size w w2) := xtransN HB1.out hb
       have HE2 : Hid (w2.heap[w.heap.size]? = some (.cells #[.int .i64 st, .int .i64 vw, .int .i64 3, .int .i64 se, .int .i64 0, .slice opsA ops.length opsC] 24 (0, 0))) := kept_block (below_of (Below.refl _ _) hb) HE1.out
       clear h hb c0 c1 c2 c3 c4 c5
       obtain ⟨c0, c1, c2, c3, c4, c5⟩ := cells_6N HE2.out)
    | (have hq := HB0; clear hq; go_at_call 67; refine Calls.mono (number_ck _ _ _) ?_; rintro e w1 ⟨⟨rfl, h⟩ | ⟨rfl, h⟩, hb⟩
       rotate_left
       · exact ⟨rfl, .inr ⟨rfl, by rw [HOK.out]; exact fun g => h (g.1)⟩, xtransN HB0.out hb⟩
       have H0 : Hid ((1 ≤ st ∧ st ≤ 2147483647)) := h
       have HB1 : Hid (Below w.heap.size w w1) := xtransN HB0.out hb
       have HE1 : Hid (w1.heap[w.heap.size]? = some (.cells #[.int .i64 st, .int .i64 vw, .int .i64 3, .int .i64 se, .int .i64 0, .slice opsA ops.length opsC] 24 (0, 0))) := kept_block (below_of (Below.refl _ _) hb) HE0.out
       clear h hb c0 c1 c2 c3 c4 c5
       obtain ⟨c0, c1, c2, c3, c4, c5⟩ := cells_6N HE1.out)
    | fail)
  all_goals exact bodyPost_end (results_none rfl _ _ _) rfl ⟨.inl ⟨rfl, by rw [HOK.out]; exact ⟨H0.out, H1.out, H2.out, H3.out, H4.out⟩⟩, HB5.out⟩
set_option maxHeartbeats 3200000 in
theorem En_d3 (st : Int) (vw : Int) (se : Int) (rq : Int) (opsA : Option Addr) (opsC : Nat) (ops : List OpN) (w : World) (hA : EnN.At w ⟨st, vw, 3, se, rq, opsA, opsC, ops⟩) (hr : ¬ rq = 0) : Calls Tryz.prog 25 #[.agg #[.int .i64 st, .int .i64 vw, .int .i64 3, .int .i64 se, .int .i64 rq, .slice opsA ops.length opsC]] w (CK ((1 ≤ st ∧ st ≤ 2147483647) ∧ (0 ≤ vw ∧ vw ≤ 2147483647) ∧ (1 ≤ se ∧ se ≤ 2147483647) ∧ True ∧ False) w) := by
  obtain ⟨ok, hok⟩ : ∃ ok : Prop, ((1 ≤ st ∧ st ≤ 2147483647) ∧ (0 ≤ vw ∧ vw ≤ 2147483647) ∧ (1 ≤ se ∧ se ≤ 2147483647) ∧ True ∧ False : Prop) = ok := ⟨_, rfl⟩
  have HOK : Hid (ok = ((1 ≤ st ∧ st ≤ 2147483647) ∧ (0 ≤ vw ∧ vw ≤ 2147483647) ∧ (1 ≤ se ∧ se ≤ 2147483647) ∧ True ∧ False)) := hok.symm
  rw [hok]
  clear hok
  have HA : Hid (EnN.At w ⟨st, vw, 3, se, rq, opsA, opsC, ops⟩) := hA
  clear hA
  obtain ⟨w0, hw0⟩ : ∃ w0, w.alloc (.cells #[.int .i64 st, .int .i64 vw, .int .i64 3, .int .i64 se, .int .i64 rq, .slice opsA ops.length opsC] 24) = w0 := ⟨_, rfl⟩
  have HB0 : Hid (Below w.heap.size w w0) := by rw [← hw0]; exact (Below.refl _ _).alloc (Nat.le_refl _) _
  have HE0 : Hid (w0.heap[w.heap.size]? = some (.cells #[.int .i64 st, .int .i64 vw, .int .i64 3, .int .i64 se, .int .i64 rq, .slice opsA ops.length opsC] 24 (0, 0))) := by show _ = _; rw [← hw0]; exact heap_alloc_new _ _
  have HW : Hid (w.alloc (.cells #[.int .i64 st, .int .i64 vw, .int .i64 3, .int .i64 se, .int .i64 rq, .slice opsA ops.length opsC] 24) = w0) := hw0
  clear hw0
  go_enter Tryz.func25, Tryz.ntmps25
  go_upto_region 1 with fail
  rw [HW.out]
  obtain ⟨c0, c1, c2, c3, c4, c5⟩ := cells_6N HE0.out
  go_wp2_with (first
    | (have hq := HB4; clear hq; go_at_call 70; refine Calls.mono (must_ckB _ _) ?_; rintro e w5 ⟨⟨rfl, h⟩ | ⟨rfl, h⟩, hb⟩
       rotate_left
       · exact ⟨rfl, .inr ⟨rfl, by rw [HOK.out]; exact fun g => by have g1 := g.2.2.2.2; first | exact h rfl | exact h trivial | exact h.elim | exact g1.elim | exact h (by simpa using g1) | exact h (by simp_all)⟩, xtransN HB4.out hb⟩
       have H4 : Hid (False) := (by show (False); first | exact trivial | exact absurd h (by decide) | exact h.elim | simpa using h | simp_all)
       have HB5 : Hid (Below w.heap.size w w5) := xtransN HB4.out hb
       have HE5 : Hid (w5.heap[w.heap.size]? = some (.cells #[.int .i64 st, .int .i64 vw, .int .i64 3, .int .i64 se, .int .i64 rq, .slice opsA ops.length opsC] 24 (0, 0))) := kept_block (below_of (Below.refl _ _) hb) HE4.out
       clear h hb c0 c1 c2 c3 c4 c5
       obtain ⟨c0, c1, c2, c3, c4, c5⟩ := cells_6N HE5.out)
    | (have hq := HB3; clear hq; go_at_call 70; refine Calls.mono (must_ckB _ _) ?_; rintro e w4 ⟨⟨rfl, h⟩ | ⟨rfl, h⟩, hb⟩
       rotate_left
       · exact ⟨rfl, .inr ⟨rfl, by rw [HOK.out]; exact fun g => by have g1 := g.2.2.2.1; first | exact h rfl | exact h trivial | exact h.elim | exact g1.elim | exact h (by simpa using g1) | exact h (by simp_all)⟩, xtransN HB3.out hb⟩
       have H3 : Hid (True) := (by show (True); first | exact trivial | exact absurd h (by decide) | exact h.elim | simpa using h | simp_all)
       have HB4 : Hid (Below w.heap.size w w4) := xtransN HB3.out hb
       have HE4 : Hid (w4.heap[w.heap.size]? = some (.cells #[.int .i64 st, .int .i64 vw, .int .i64 3, .int .i64 se, .int .i64 rq, .slice opsA ops.length opsC] 24 (0, 0))) := kept_block (below_of (Below.refl _ _) hb) HE3.out
       clear h hb c0 c1 c2 c3 c4 c5
       obtain ⟨c0, c1, c2, c3, c4, c5⟩ := cells_6N HE4.out)
    | (have hq := HB2; clear hq; go_at_call 67; refine Calls.mono (number_ck _ _ _) ?_; rintro e w3 ⟨⟨rfl, h⟩ | ⟨rfl, h⟩, hb⟩
       rotate_left
       · exact ⟨rfl, .inr ⟨rfl, by rw [HOK.out]; exact fun g => h (g.2.2.1)⟩, xtransN HB2.out hb⟩
       have H2 : Hid ((1 ≤ se ∧ se ≤ 2147483647)) := h
       have HB3 : Hid (Below w.heap.size w w3) := xtransN HB2.out hb
       have HE3 : Hid (w3.heap[w.heap.size]? = some (.cells #[.int .i64 st, .int .i64 vw, .int .i64 3, .int .i64 se, .int .i64 rq, .slice opsA ops.length opsC] 24 (0, 0))) := kept_block (below_of (Below.refl _ _) hb) HE2.out
       clear h hb c0 c1 c2 c3 c4 c5
       obtain ⟨c0, c1, c2, c3, c4, c5⟩ := cells_6N HE3.out)
    | (have hq := HB1; clear hq; go_at_call 67; refine Calls.mono (number_ck _ _ _) ?_; rintro e w2 ⟨⟨rfl, h⟩ | ⟨rfl, h⟩, hb⟩
       rotate_left
       · exact ⟨rfl, .inr ⟨rfl, by rw [HOK.out]; exact fun g => h (g.2.1)⟩, xtransN HB1.out hb⟩
       have H1 : Hid ((0 ≤ vw ∧ vw ≤ 2147483647)) := h
       have HB2 : Hid (Below w.heap.size w w2) := xtransN HB1.out hb
       have HE2 : Hid (w2.heap[w.heap.size]? = some (.cells #[.int .i64 st, .int .i64 vw, .int .i64 3, .int .i64 se, .int .i64 rq, .slice opsA ops.length opsC] 24 (0, 0))) := kept_block (below_of (Below.refl _ _) hb) HE1.out
       clear h hb c0 c1 c2 c3 c4 c5
       obtain ⟨c0, c1, c2, c3, c4, c5⟩ := cells_6N HE2.out)
    | (have hq := HB0; clear hq; go_at_call 67; refine Calls.mono (number_ck _ _ _) ?_; rintro e w1 ⟨⟨rfl, h⟩ | ⟨rfl, h⟩, hb⟩
       rotate_left
       · exact ⟨rfl, .inr ⟨rfl, by rw [HOK.out]; exact fun g => h (g.1)⟩, xtransN HB0.out hb⟩
       have H0 : Hid ((1 ≤ st ∧ st ≤ 2147483647)) := h
       have HB1 : Hid (Below w.heap.size w w1) := xtransN HB0.out hb
       have HE1 : Hid (w1.heap[w.heap.size]? = some (.cells #[.int .i64 st, .int .i64 vw, .int .i64 3, .int .i64 se, .int .i64 rq, .slice opsA ops.length opsC] 24 (0, 0))) := kept_block (below_of (Below.refl _ _) hb) HE0.out
       clear h hb c0 c1 c2 c3 c4 c5
       obtain ⟨c0, c1, c2, c3, c4, c5⟩ := cells_6N HE1.out)
    | fail)
  all_goals exact bodyPost_end (results_none rfl _ _ _) rfl ⟨.inl ⟨rfl, by rw [HOK.out]; exact ⟨H0.out, H1.out, H2.out, H3.out, H4.out⟩⟩, HB5.out⟩
set_option maxHeartbeats 3200000 in
theorem En_c4 (st : Int) (vw : Int) (se : Int) (opsA : Option Addr) (opsC : Nat) (ops : List OpN) (w : World) (hA : EnN.At w ⟨st, vw, 4, se, 0, opsA, opsC, ops⟩) : Calls Tryz.prog 25 #[.agg #[.int .i64 st, .int .i64 vw, .int .i64 4, .int .i64 se, .int .i64 0, .slice opsA ops.length opsC]] w (CK ((1 ≤ st ∧ st ≤ 2147483647) ∧ (0 ≤ vw ∧ vw ≤ 2147483647) ∧ (1 ≤ se ∧ se ≤ 2147483647) ∧ True ∧ (ops.length : Int) = 0) w) := by
  obtain ⟨ok, hok⟩ : ∃ ok : Prop, ((1 ≤ st ∧ st ≤ 2147483647) ∧ (0 ≤ vw ∧ vw ≤ 2147483647) ∧ (1 ≤ se ∧ se ≤ 2147483647) ∧ True ∧ (ops.length : Int) = 0 : Prop) = ok := ⟨_, rfl⟩
  have HOK : Hid (ok = ((1 ≤ st ∧ st ≤ 2147483647) ∧ (0 ≤ vw ∧ vw ≤ 2147483647) ∧ (1 ≤ se ∧ se ≤ 2147483647) ∧ True ∧ (ops.length : Int) = 0)) := hok.symm
  rw [hok]
  clear hok
  have HA : Hid (EnN.At w ⟨st, vw, 4, se, 0, opsA, opsC, ops⟩) := hA
  clear hA
  obtain ⟨w0, hw0⟩ : ∃ w0, w.alloc (.cells #[.int .i64 st, .int .i64 vw, .int .i64 4, .int .i64 se, .int .i64 0, .slice opsA ops.length opsC] 24) = w0 := ⟨_, rfl⟩
  have HB0 : Hid (Below w.heap.size w w0) := by rw [← hw0]; exact (Below.refl _ _).alloc (Nat.le_refl _) _
  have HE0 : Hid (w0.heap[w.heap.size]? = some (.cells #[.int .i64 st, .int .i64 vw, .int .i64 4, .int .i64 se, .int .i64 0, .slice opsA ops.length opsC] 24 (0, 0))) := by show _ = _; rw [← hw0]; exact heap_alloc_new _ _
  have HW : Hid (w.alloc (.cells #[.int .i64 st, .int .i64 vw, .int .i64 4, .int .i64 se, .int .i64 0, .slice opsA ops.length opsC] 24) = w0) := hw0
  clear hw0
  go_enter Tryz.func25, Tryz.ntmps25
  go_upto_region 1 with fail
  rw [HW.out]
  obtain ⟨c0, c1, c2, c3, c4, c5⟩ := cells_6N HE0.out
  go_wp2_with (first
    | (have hq := HB4; clear hq; go_at_call 70; refine Calls.mono (must_ckB _ _) ?_; rintro e w5 ⟨⟨rfl, h⟩ | ⟨rfl, h⟩, hb⟩
       rotate_left
       · exact ⟨rfl, .inr ⟨rfl, by rw [HOK.out]; exact fun g => by have g1 := g.2.2.2.2; first | exact h rfl | exact h trivial | exact h.elim | exact g1.elim | exact h (by simpa using g1) | exact h (by simp_all)⟩, xtransN HB4.out hb⟩
       have H4 : Hid ((ops.length : Int) = 0) := (by show ((ops.length : Int) = 0); first | exact trivial | exact absurd h (by decide) | exact h.elim | simpa using h | simp_all)
       have HB5 : Hid (Below w.heap.size w w5) := xtransN HB4.out hb
       have HE5 : Hid (w5.heap[w.heap.size]? = some (.cells #[.int .i64 st, .int .i64 vw, .int .i64 4, .int .i64 se, .int .i64 0, .slice opsA ops.length opsC] 24 (0, 0))) := kept_block (below_of (Below.refl _ _) hb) HE4.out
       clear h hb c0 c1 c2 c3 c4 c5
       obtain ⟨c0, c1, c2, c3, c4, c5⟩ := cells_6N HE5.out)
    | (have hq := HB3; clear hq; go_at_call 70; refine Calls.mono (must_ckB _ _) ?_; rintro e w4 ⟨⟨rfl, h⟩ | ⟨rfl, h⟩, hb⟩
       rotate_left
       · exact ⟨rfl, .inr ⟨rfl, by rw [HOK.out]; exact fun g => by have g1 := g.2.2.2.1; first | exact h rfl | exact h trivial | exact h.elim | exact g1.elim | exact h (by simpa using g1) | exact h (by simp_all)⟩, xtransN HB3.out hb⟩
       have H3 : Hid (True) := (by show (True); first | exact trivial | exact absurd h (by decide) | exact h.elim | simpa using h | simp_all)
       have HB4 : Hid (Below w.heap.size w w4) := xtransN HB3.out hb
       have HE4 : Hid (w4.heap[w.heap.size]? = some (.cells #[.int .i64 st, .int .i64 vw, .int .i64 4, .int .i64 se, .int .i64 0, .slice opsA ops.length opsC] 24 (0, 0))) := kept_block (below_of (Below.refl _ _) hb) HE3.out
       clear h hb c0 c1 c2 c3 c4 c5
       obtain ⟨c0, c1, c2, c3, c4, c5⟩ := cells_6N HE4.out)
    | (have hq := HB2; clear hq; go_at_call 67; refine Calls.mono (number_ck _ _ _) ?_; rintro e w3 ⟨⟨rfl, h⟩ | ⟨rfl, h⟩, hb⟩
       rotate_left
       · exact ⟨rfl, .inr ⟨rfl, by rw [HOK.out]; exact fun g => h (g.2.2.1)⟩, xtransN HB2.out hb⟩
       have H2 : Hid ((1 ≤ se ∧ se ≤ 2147483647)) := h
       have HB3 : Hid (Below w.heap.size w w3) := xtransN HB2.out hb
       have HE3 : Hid (w3.heap[w.heap.size]? = some (.cells #[.int .i64 st, .int .i64 vw, .int .i64 4, .int .i64 se, .int .i64 0, .slice opsA ops.length opsC] 24 (0, 0))) := kept_block (below_of (Below.refl _ _) hb) HE2.out
       clear h hb c0 c1 c2 c3 c4 c5
       obtain ⟨c0, c1, c2, c3, c4, c5⟩ := cells_6N HE3.out)
    | (have hq := HB1; clear hq; go_at_call 67; refine Calls.mono (number_ck _ _ _) ?_; rintro e w2 ⟨⟨rfl, h⟩ | ⟨rfl, h⟩, hb⟩
       rotate_left
       · exact ⟨rfl, .inr ⟨rfl, by rw [HOK.out]; exact fun g => h (g.2.1)⟩, xtransN HB1.out hb⟩
       have H1 : Hid ((0 ≤ vw ∧ vw ≤ 2147483647)) := h
       have HB2 : Hid (Below w.heap.size w w2) := xtransN HB1.out hb
       have HE2 : Hid (w2.heap[w.heap.size]? = some (.cells #[.int .i64 st, .int .i64 vw, .int .i64 4, .int .i64 se, .int .i64 0, .slice opsA ops.length opsC] 24 (0, 0))) := kept_block (below_of (Below.refl _ _) hb) HE1.out
       clear h hb c0 c1 c2 c3 c4 c5
       obtain ⟨c0, c1, c2, c3, c4, c5⟩ := cells_6N HE2.out)
    | (have hq := HB0; clear hq; go_at_call 67; refine Calls.mono (number_ck _ _ _) ?_; rintro e w1 ⟨⟨rfl, h⟩ | ⟨rfl, h⟩, hb⟩
       rotate_left
       · exact ⟨rfl, .inr ⟨rfl, by rw [HOK.out]; exact fun g => h (g.1)⟩, xtransN HB0.out hb⟩
       have H0 : Hid ((1 ≤ st ∧ st ≤ 2147483647)) := h
       have HB1 : Hid (Below w.heap.size w w1) := xtransN HB0.out hb
       have HE1 : Hid (w1.heap[w.heap.size]? = some (.cells #[.int .i64 st, .int .i64 vw, .int .i64 4, .int .i64 se, .int .i64 0, .slice opsA ops.length opsC] 24 (0, 0))) := kept_block (below_of (Below.refl _ _) hb) HE0.out
       clear h hb c0 c1 c2 c3 c4 c5
       obtain ⟨c0, c1, c2, c3, c4, c5⟩ := cells_6N HE1.out)
    | fail)
  all_goals exact bodyPost_end (results_none rfl _ _ _) rfl ⟨.inl ⟨rfl, by rw [HOK.out]; exact ⟨H0.out, H1.out, H2.out, H3.out, H4.out⟩⟩, HB5.out⟩
set_option maxHeartbeats 3200000 in
theorem En_d4 (st : Int) (vw : Int) (se : Int) (rq : Int) (opsA : Option Addr) (opsC : Nat) (ops : List OpN) (w : World) (hA : EnN.At w ⟨st, vw, 4, se, rq, opsA, opsC, ops⟩) (hr : ¬ rq = 0) : Calls Tryz.prog 25 #[.agg #[.int .i64 st, .int .i64 vw, .int .i64 4, .int .i64 se, .int .i64 rq, .slice opsA ops.length opsC]] w (CK ((1 ≤ st ∧ st ≤ 2147483647) ∧ (0 ≤ vw ∧ vw ≤ 2147483647) ∧ (1 ≤ se ∧ se ≤ 2147483647) ∧ True ∧ False) w) := by
  obtain ⟨ok, hok⟩ : ∃ ok : Prop, ((1 ≤ st ∧ st ≤ 2147483647) ∧ (0 ≤ vw ∧ vw ≤ 2147483647) ∧ (1 ≤ se ∧ se ≤ 2147483647) ∧ True ∧ False : Prop) = ok := ⟨_, rfl⟩
  have HOK : Hid (ok = ((1 ≤ st ∧ st ≤ 2147483647) ∧ (0 ≤ vw ∧ vw ≤ 2147483647) ∧ (1 ≤ se ∧ se ≤ 2147483647) ∧ True ∧ False)) := hok.symm
  rw [hok]
  clear hok
  have HA : Hid (EnN.At w ⟨st, vw, 4, se, rq, opsA, opsC, ops⟩) := hA
  clear hA
  obtain ⟨w0, hw0⟩ : ∃ w0, w.alloc (.cells #[.int .i64 st, .int .i64 vw, .int .i64 4, .int .i64 se, .int .i64 rq, .slice opsA ops.length opsC] 24) = w0 := ⟨_, rfl⟩
  have HB0 : Hid (Below w.heap.size w w0) := by rw [← hw0]; exact (Below.refl _ _).alloc (Nat.le_refl _) _
  have HE0 : Hid (w0.heap[w.heap.size]? = some (.cells #[.int .i64 st, .int .i64 vw, .int .i64 4, .int .i64 se, .int .i64 rq, .slice opsA ops.length opsC] 24 (0, 0))) := by show _ = _; rw [← hw0]; exact heap_alloc_new _ _
  have HW : Hid (w.alloc (.cells #[.int .i64 st, .int .i64 vw, .int .i64 4, .int .i64 se, .int .i64 rq, .slice opsA ops.length opsC] 24) = w0) := hw0
  clear hw0
  go_enter Tryz.func25, Tryz.ntmps25
  go_upto_region 1 with fail
  rw [HW.out]
  obtain ⟨c0, c1, c2, c3, c4, c5⟩ := cells_6N HE0.out
  go_wp2_with (first
    | (have hq := HB4; clear hq; go_at_call 70; refine Calls.mono (must_ckB _ _) ?_; rintro e w5 ⟨⟨rfl, h⟩ | ⟨rfl, h⟩, hb⟩
       rotate_left
       · exact ⟨rfl, .inr ⟨rfl, by rw [HOK.out]; exact fun g => by have g1 := g.2.2.2.2; first | exact h rfl | exact h trivial | exact h.elim | exact g1.elim | exact h (by simpa using g1) | exact h (by simp_all)⟩, xtransN HB4.out hb⟩
       have H4 : Hid (False) := (by show (False); first | exact trivial | exact absurd h (by decide) | exact h.elim | simpa using h | simp_all)
       have HB5 : Hid (Below w.heap.size w w5) := xtransN HB4.out hb
       have HE5 : Hid (w5.heap[w.heap.size]? = some (.cells #[.int .i64 st, .int .i64 vw, .int .i64 4, .int .i64 se, .int .i64 rq, .slice opsA ops.length opsC] 24 (0, 0))) := kept_block (below_of (Below.refl _ _) hb) HE4.out
       clear h hb c0 c1 c2 c3 c4 c5
       obtain ⟨c0, c1, c2, c3, c4, c5⟩ := cells_6N HE5.out)
    | (have hq := HB3; clear hq; go_at_call 70; refine Calls.mono (must_ckB _ _) ?_; rintro e w4 ⟨⟨rfl, h⟩ | ⟨rfl, h⟩, hb⟩
       rotate_left
       · exact ⟨rfl, .inr ⟨rfl, by rw [HOK.out]; exact fun g => by have g1 := g.2.2.2.1; first | exact h rfl | exact h trivial | exact h.elim | exact g1.elim | exact h (by simpa using g1) | exact h (by simp_all)⟩, xtransN HB3.out hb⟩
       have H3 : Hid (True) := (by show (True); first | exact trivial | exact absurd h (by decide) | exact h.elim | simpa using h | simp_all)
       have HB4 : Hid (Below w.heap.size w w4) := xtransN HB3.out hb
       have HE4 : Hid (w4.heap[w.heap.size]? = some (.cells #[.int .i64 st, .int .i64 vw, .int .i64 4, .int .i64 se, .int .i64 rq, .slice opsA ops.length opsC] 24 (0, 0))) := kept_block (below_of (Below.refl _ _) hb) HE3.out
       clear h hb c0 c1 c2 c3 c4 c5
       obtain ⟨c0, c1, c2, c3, c4, c5⟩ := cells_6N HE4.out)
    | (have hq := HB2; clear hq; go_at_call 67; refine Calls.mono (number_ck _ _ _) ?_; rintro e w3 ⟨⟨rfl, h⟩ | ⟨rfl, h⟩, hb⟩
       rotate_left
       · exact ⟨rfl, .inr ⟨rfl, by rw [HOK.out]; exact fun g => h (g.2.2.1)⟩, xtransN HB2.out hb⟩
       have H2 : Hid ((1 ≤ se ∧ se ≤ 2147483647)) := h
       have HB3 : Hid (Below w.heap.size w w3) := xtransN HB2.out hb
       have HE3 : Hid (w3.heap[w.heap.size]? = some (.cells #[.int .i64 st, .int .i64 vw, .int .i64 4, .int .i64 se, .int .i64 rq, .slice opsA ops.length opsC] 24 (0, 0))) := kept_block (below_of (Below.refl _ _) hb) HE2.out
       clear h hb c0 c1 c2 c3 c4 c5
       obtain ⟨c0, c1, c2, c3, c4, c5⟩ := cells_6N HE3.out)
    | (have hq := HB1; clear hq; go_at_call 67; refine Calls.mono (number_ck _ _ _) ?_; rintro e w2 ⟨⟨rfl, h⟩ | ⟨rfl, h⟩, hb⟩
       rotate_left
       · exact ⟨rfl, .inr ⟨rfl, by rw [HOK.out]; exact fun g => h (g.2.1)⟩, xtransN HB1.out hb⟩
       have H1 : Hid ((0 ≤ vw ∧ vw ≤ 2147483647)) := h
       have HB2 : Hid (Below w.heap.size w w2) := xtransN HB1.out hb
       have HE2 : Hid (w2.heap[w.heap.size]? = some (.cells #[.int .i64 st, .int .i64 vw, .int .i64 4, .int .i64 se, .int .i64 rq, .slice opsA ops.length opsC] 24 (0, 0))) := kept_block (below_of (Below.refl _ _) hb) HE1.out
       clear h hb c0 c1 c2 c3 c4 c5
       obtain ⟨c0, c1, c2, c3, c4, c5⟩ := cells_6N HE2.out)
    | (have hq := HB0; clear hq; go_at_call 67; refine Calls.mono (number_ck _ _ _) ?_; rintro e w1 ⟨⟨rfl, h⟩ | ⟨rfl, h⟩, hb⟩
       rotate_left
       · exact ⟨rfl, .inr ⟨rfl, by rw [HOK.out]; exact fun g => h (g.1)⟩, xtransN HB0.out hb⟩
       have H0 : Hid ((1 ≤ st ∧ st ≤ 2147483647)) := h
       have HB1 : Hid (Below w.heap.size w w1) := xtransN HB0.out hb
       have HE1 : Hid (w1.heap[w.heap.size]? = some (.cells #[.int .i64 st, .int .i64 vw, .int .i64 4, .int .i64 se, .int .i64 rq, .slice opsA ops.length opsC] 24 (0, 0))) := kept_block (below_of (Below.refl _ _) hb) HE0.out
       clear h hb c0 c1 c2 c3 c4 c5
       obtain ⟨c0, c1, c2, c3, c4, c5⟩ := cells_6N HE1.out)
    | fail)
  all_goals exact bodyPost_end (results_none rfl _ _ _) rfl ⟨.inl ⟨rfl, by rw [HOK.out]; exact ⟨H0.out, H1.out, H2.out, H3.out, H4.out⟩⟩, HB5.out⟩
set_option maxHeartbeats 3200000 in
theorem En_e (st : Int) (vw : Int) (K : Int) (se : Int) (rq : Int) (opsA : Option Addr) (opsC : Nat) (ops : List OpN) (w : World) (hA : EnN.At w ⟨st, vw, K, se, rq, opsA, opsC, ops⟩) (k1 : ¬ K = 1) (k2 : ¬ K = 2) (k3 : ¬ K = 3) (k4 : ¬ K = 4) : Calls Tryz.prog 25 #[.agg #[.int .i64 st, .int .i64 vw, .int .i64 K, .int .i64 se, .int .i64 rq, .slice opsA ops.length opsC]] w (CK ((1 ≤ st ∧ st ≤ 2147483647) ∧ (0 ≤ vw ∧ vw ≤ 2147483647) ∧ (1 ≤ se ∧ se ≤ 2147483647) ∧ False) w) := by
  obtain ⟨ok, hok⟩ : ∃ ok : Prop, ((1 ≤ st ∧ st ≤ 2147483647) ∧ (0 ≤ vw ∧ vw ≤ 2147483647) ∧ (1 ≤ se ∧ se ≤ 2147483647) ∧ False : Prop) = ok := ⟨_, rfl⟩
  have HOK : Hid (ok = ((1 ≤ st ∧ st ≤ 2147483647) ∧ (0 ≤ vw ∧ vw ≤ 2147483647) ∧ (1 ≤ se ∧ se ≤ 2147483647) ∧ False)) := hok.symm
  rw [hok]
  clear hok
  have HA : Hid (EnN.At w ⟨st, vw, K, se, rq, opsA, opsC, ops⟩) := hA
  clear hA
  obtain ⟨w0, hw0⟩ : ∃ w0, w.alloc (.cells #[.int .i64 st, .int .i64 vw, .int .i64 K, .int .i64 se, .int .i64 rq, .slice opsA ops.length opsC] 24) = w0 := ⟨_, rfl⟩
  have HB0 : Hid (Below w.heap.size w w0) := by rw [← hw0]; exact (Below.refl _ _).alloc (Nat.le_refl _) _
  have HE0 : Hid (w0.heap[w.heap.size]? = some (.cells #[.int .i64 st, .int .i64 vw, .int .i64 K, .int .i64 se, .int .i64 rq, .slice opsA ops.length opsC] 24 (0, 0))) := by show _ = _; rw [← hw0]; exact heap_alloc_new _ _
  have HW : Hid (w.alloc (.cells #[.int .i64 st, .int .i64 vw, .int .i64 K, .int .i64 se, .int .i64 rq, .slice opsA ops.length opsC] 24) = w0) := hw0
  clear hw0
  go_enter Tryz.func25, Tryz.ntmps25
  go_upto_region 1 with fail
  rw [HW.out]
  obtain ⟨c0, c1, c2, c3, c4, c5⟩ := cells_6N HE0.out
  go_wp2_with (first
    | (have hq := HB3; clear hq; go_at_call 70; refine Calls.mono (must_ckB _ _) ?_; rintro e w4 ⟨⟨rfl, h⟩ | ⟨rfl, h⟩, hb⟩
       rotate_left
       · exact ⟨rfl, .inr ⟨rfl, by rw [HOK.out]; exact fun g => by have g1 := g.2.2.2; first | exact h rfl | exact h trivial | exact h.elim | exact g1.elim | exact h (by simpa using g1) | exact h (by simp_all)⟩, xtransN HB3.out hb⟩
       have H3 : Hid (False) := (by show (False); first | exact trivial | exact absurd h (by decide) | exact h.elim | simpa using h | simp_all)
       have HB4 : Hid (Below w.heap.size w w4) := xtransN HB3.out hb
       have HE4 : Hid (w4.heap[w.heap.size]? = some (.cells #[.int .i64 st, .int .i64 vw, .int .i64 K, .int .i64 se, .int .i64 rq, .slice opsA ops.length opsC] 24 (0, 0))) := kept_block (below_of (Below.refl _ _) hb) HE3.out
       clear h hb c0 c1 c2 c3 c4 c5
       obtain ⟨c0, c1, c2, c3, c4, c5⟩ := cells_6N HE4.out)
    | (have hq := HB2; clear hq; go_at_call 67; refine Calls.mono (number_ck _ _ _) ?_; rintro e w3 ⟨⟨rfl, h⟩ | ⟨rfl, h⟩, hb⟩
       rotate_left
       · exact ⟨rfl, .inr ⟨rfl, by rw [HOK.out]; exact fun g => h (g.2.2.1)⟩, xtransN HB2.out hb⟩
       have H2 : Hid ((1 ≤ se ∧ se ≤ 2147483647)) := h
       have HB3 : Hid (Below w.heap.size w w3) := xtransN HB2.out hb
       have HE3 : Hid (w3.heap[w.heap.size]? = some (.cells #[.int .i64 st, .int .i64 vw, .int .i64 K, .int .i64 se, .int .i64 rq, .slice opsA ops.length opsC] 24 (0, 0))) := kept_block (below_of (Below.refl _ _) hb) HE2.out
       clear h hb c0 c1 c2 c3 c4 c5
       obtain ⟨c0, c1, c2, c3, c4, c5⟩ := cells_6N HE3.out)
    | (have hq := HB1; clear hq; go_at_call 67; refine Calls.mono (number_ck _ _ _) ?_; rintro e w2 ⟨⟨rfl, h⟩ | ⟨rfl, h⟩, hb⟩
       rotate_left
       · exact ⟨rfl, .inr ⟨rfl, by rw [HOK.out]; exact fun g => h (g.2.1)⟩, xtransN HB1.out hb⟩
       have H1 : Hid ((0 ≤ vw ∧ vw ≤ 2147483647)) := h
       have HB2 : Hid (Below w.heap.size w w2) := xtransN HB1.out hb
       have HE2 : Hid (w2.heap[w.heap.size]? = some (.cells #[.int .i64 st, .int .i64 vw, .int .i64 K, .int .i64 se, .int .i64 rq, .slice opsA ops.length opsC] 24 (0, 0))) := kept_block (below_of (Below.refl _ _) hb) HE1.out
       clear h hb c0 c1 c2 c3 c4 c5
       obtain ⟨c0, c1, c2, c3, c4, c5⟩ := cells_6N HE2.out)
    | (have hq := HB0; clear hq; go_at_call 67; refine Calls.mono (number_ck _ _ _) ?_; rintro e w1 ⟨⟨rfl, h⟩ | ⟨rfl, h⟩, hb⟩
       rotate_left
       · exact ⟨rfl, .inr ⟨rfl, by rw [HOK.out]; exact fun g => h (g.1)⟩, xtransN HB0.out hb⟩
       have H0 : Hid ((1 ≤ st ∧ st ≤ 2147483647)) := h
       have HB1 : Hid (Below w.heap.size w w1) := xtransN HB0.out hb
       have HE1 : Hid (w1.heap[w.heap.size]? = some (.cells #[.int .i64 st, .int .i64 vw, .int .i64 K, .int .i64 se, .int .i64 rq, .slice opsA ops.length opsC] 24 (0, 0))) := kept_block (below_of (Below.refl _ _) hb) HE0.out
       clear h hb c0 c1 c2 c3 c4 c5
       obtain ⟨c0, c1, c2, c3, c4, c5⟩ := cells_6N HE1.out)
    | fail)
  all_goals exact bodyPost_end (results_none rfl _ _ _) rfl ⟨.inl ⟨rfl, by rw [HOK.out]; exact ⟨H0.out, H1.out, H2.out, H3.out⟩⟩, HB4.out⟩
theorem En_ck (x : EnN) (w : World) (hA : x.At w) : Calls Tryz.prog 25 #[x.val] w (CK x.Ok w) := by
  obtain ⟨st, vw, K, se, rq, opsA, opsC, ops⟩ := x
  by_cases k1 : K = 1
  · subst k1
    exact (En_c1 st vw se rq opsA opsC ops w hA).mono fun e w' h => h.congr ⟨fun h => ⟨h.1, h.2.1, h.2.2.1, .inl ⟨rfl, h.2.2.2.1, h.2.2.2.2⟩⟩, fun h => ⟨h.1, h.2.1, h.2.2.1, (h.2.2.2.resolve_right (fun g => by have := g.1; omega)).2.1, (h.2.2.2.resolve_right (fun g => by have := g.1; omega)).2.2⟩⟩
  by_cases k2 : K = 2
  · subst k2
    by_cases hr : rq = 0
    · subst hr
      exact (En_c2 st vw se opsA opsC ops w hA).mono fun e w' h => h.congr ⟨fun h => ⟨h.1, h.2.1, h.2.2.1, .inr ⟨by omega, rfl, by have := h.2.2.2.2; omega⟩⟩, fun h => ⟨h.1, h.2.1, h.2.2.1, trivial, by have := (h.2.2.2.resolve_left (fun g => by have := g.1; omega)).2.2; omega⟩⟩
    · exact (En_d2 st vw se rq opsA opsC ops w hA hr).mono fun e w' h => h.congr ⟨fun h => h.2.2.2.2.elim, fun h => absurd (h.2.2.2.resolve_left (fun g => by have := g.1; omega)).2.1 hr⟩
  by_cases k3 : K = 3
  · subst k3
    by_cases hr : rq = 0
    · subst hr
      exact (En_c3 st vw se opsA opsC ops w hA).mono fun e w' h => h.congr ⟨fun h => ⟨h.1, h.2.1, h.2.2.1, .inr ⟨by omega, rfl, by have := h.2.2.2.2; omega⟩⟩, fun h => ⟨h.1, h.2.1, h.2.2.1, trivial, by have := (h.2.2.2.resolve_left (fun g => by have := g.1; omega)).2.2; omega⟩⟩
    · exact (En_d3 st vw se rq opsA opsC ops w hA hr).mono fun e w' h => h.congr ⟨fun h => h.2.2.2.2.elim, fun h => absurd (h.2.2.2.resolve_left (fun g => by have := g.1; omega)).2.1 hr⟩
  by_cases k4 : K = 4
  · subst k4
    by_cases hr : rq = 0
    · subst hr
      exact (En_c4 st vw se opsA opsC ops w hA).mono fun e w' h => h.congr ⟨fun h => ⟨h.1, h.2.1, h.2.2.1, .inr ⟨by omega, rfl, by have := h.2.2.2.2; omega⟩⟩, fun h => ⟨h.1, h.2.1, h.2.2.1, trivial, by have := (h.2.2.2.resolve_left (fun g => by have := g.1; omega)).2.2; omega⟩⟩
    · exact (En_d4 st vw se rq opsA opsC ops w hA hr).mono fun e w' h => h.congr ⟨fun h => h.2.2.2.2.elim, fun h => absurd (h.2.2.2.resolve_left (fun g => by have := g.1; omega)).2.1 hr⟩
  exact (En_e st vw K se rq opsA opsC ops w hA k1 k2 k3 k4).mono fun e w' h => h.congr ⟨fun h => h.2.2.2.elim, fun h => by
    rcases h.2.2.2 with g | g
    · exact absurd g.1 k1
    · have := g.1; omega⟩
end Go.Proofs.YtdjfeomdiljaeaaGreatDoor
