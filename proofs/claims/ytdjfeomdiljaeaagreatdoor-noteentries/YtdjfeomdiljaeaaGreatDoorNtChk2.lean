/-
  note: checks of named watches and parts, of tagged changes, of items.
-/
import Derived.Test.YtdjfeomdiljaeaaGreatDoorNtRise
namespace Go.Proofs.YtdjfeomdiljaeaaGreatDoor
open Go.RowKit
set_option linter.unusedVariables false
set_option linter.unusedSimpArgs false

set_option maxHeartbeats 3200000 in
theorem Wn_core (i : Int) (p : ByteArray) (k : Int) (f : Int) (w : World) : Calls Tryz.prog 210 #[.agg #[.int .i64 i, .string p, .int .i64 k, .int .i64 f]] w (CK ((1 ≤ i ∧ i ≤ 2147483647) ∧ (p.toList = [] ∧ k = 0 ∧ f = 0)) w) := by
  obtain ⟨ok, hok⟩ : ∃ ok : Prop, ((1 ≤ i ∧ i ≤ 2147483647) ∧ (p.toList = [] ∧ k = 0 ∧ f = 0) : Prop) = ok := ⟨_, rfl⟩
  have HOK : Hid (ok = ((1 ≤ i ∧ i ≤ 2147483647) ∧ (p.toList = [] ∧ k = 0 ∧ f = 0))) := hok.symm
  rw [hok]
  clear hok
  obtain ⟨w0, hw0⟩ : ∃ w0, w.alloc (.cells #[.int .i64 i, .string p, .int .i64 k, .int .i64 f] 85) = w0 := ⟨_, rfl⟩
  have HB0 : Hid (Below w.heap.size w w0) := by rw [← hw0]; exact (Below.refl _ _).alloc (Nat.le_refl _) _
  have HE0 : Hid (w0.heap[w.heap.size]? = some (.cells #[.int .i64 i, .string p, .int .i64 k, .int .i64 f] 85 (0, 0))) := by show _ = _; rw [← hw0]; exact heap_alloc_new _ _
  have HW : Hid (w.alloc (.cells #[.int .i64 i, .string p, .int .i64 k, .int .i64 f] 85) = w0) := hw0
  clear hw0
  go_enter Tryz.func210, Tryz.ntmps210
  go_upto_region 1 with fail
  rw [HW.out]
  obtain ⟨c0, c1, c2, c3⟩ := cells_4N HE0.out
  go_wp2_with (first
    | (have hq := HB1; clear hq; go_at_call 70; refine Calls.mono (must_ckB _ _) ?_; rintro e w2 ⟨⟨rfl, h⟩ | ⟨rfl, h⟩, hb⟩
       rotate_left
       · exact ⟨rfl, .inr ⟨rfl, by rw [HOK.out]; exact fun g => by have g1 := g.2; first | exact h rfl | exact h trivial | exact h.elim | exact g1.elim | exact h (by simpa using g1) | exact h (by simp_all)⟩, xtransN HB1.out hb⟩
       have H1 : Hid ((p.toList = [] ∧ k = 0 ∧ f = 0)) := (by show ((p.toList = [] ∧ k = 0 ∧ f = 0)); first | exact trivial | exact absurd h (by decide) | exact h.elim | simpa using h | simp_all)
       have HB2 : Hid (Below w.heap.size w w2) := xtransN HB1.out hb
       have HE2 : Hid (w2.heap[w.heap.size]? = some (.cells #[.int .i64 i, .string p, .int .i64 k, .int .i64 f] 85 (0, 0))) := kept_block (below_of (Below.refl _ _) hb) HE1.out
       clear h hb c0 c1 c2 c3
       obtain ⟨c0, c1, c2, c3⟩ := cells_4N HE2.out)
    | (have hq := HB0; clear hq; go_at_call 67; refine Calls.mono (number_ck _ _ _) ?_; rintro e w1 ⟨⟨rfl, h⟩ | ⟨rfl, h⟩, hb⟩
       rotate_left
       · exact ⟨rfl, .inr ⟨rfl, by rw [HOK.out]; exact fun g => h (g.1)⟩, xtransN HB0.out hb⟩
       have H0 : Hid ((1 ≤ i ∧ i ≤ 2147483647)) := h
       have HB1 : Hid (Below w.heap.size w w1) := xtransN HB0.out hb
       have HE1 : Hid (w1.heap[w.heap.size]? = some (.cells #[.int .i64 i, .string p, .int .i64 k, .int .i64 f] 85 (0, 0))) := kept_block (below_of (Below.refl _ _) hb) HE0.out
       clear h hb c0 c1 c2 c3
       obtain ⟨c0, c1, c2, c3⟩ := cells_4N HE1.out)
    | fail)
  all_goals exact bodyPost_end (results_none rfl _ _ _) rfl ⟨.inl ⟨rfl, by rw [HOK.out]; exact ⟨H0.out, H1.out⟩⟩, HB2.out⟩
theorem tag_ck (x : Int) (w : World) : Calls Tryz.prog 283 #[.int .i64 x] w (CK (1 ≤ x ∧ x ≤ 2147483647) w) := by
  obtain ⟨ok, hok⟩ : ∃ ok : Prop, (1 ≤ x ∧ x ≤ 2147483647) = ok := ⟨_, rfl⟩
  have HC : Hid (Calls Tryz.prog 67 #[.int .i64 x, .int .i64 1] w (CK ok w)) := by
    rw [← hok]
    exact number_ck x 1 w
  rw [hok]
  clear hok
  go_enter Tryz.func283, Tryz.ntmps283
  go_wp2_with (first
    | (go_at_call 67; refine Calls.mono HC.out ?_; rintro e w1 ⟨⟨rfl, h⟩ | ⟨rfl, h⟩, hb⟩
       rotate_left
       · exact ⟨rfl, .inr ⟨rfl, h⟩, hb⟩)
    | fail)
  exact bodyPost_end (results_none rfl _ _ _) rfl ⟨.inl ⟨rfl, h⟩, hb⟩
def TgN.Ok : TgN → Prop := fun ⟨K, p, d, v, tagsA, tagsC, tags⟩ => (K = 1 ∨ K = 2 ∨ K = 3) ∧ (parse p).1 = 0 ∧ (d.size : Int) ≤ 64 ∧ (0 ≤ v ∧ v ≤ 2147483647) ∧ (((1 : Int) ≤ (tags.length : Int) ∧ (tags.length : Int) ≤ 4) ∧ ∀ x ∈ tags, 1 ≤ x ∧ x ≤ 2147483647) ∧ Rise (tags.map fun x => x)
set_option maxHeartbeats 3200000 in
theorem Tg_core1 (p : ByteArray) (d : ByteArray) (v : Int) (tagsA : Option Addr) (tagsC : Nat) (tags : List Int) (w : World) (hg : Ground w) (hA : TgN.At w ⟨1, p, d, v, tagsA, tagsC, tags⟩) : Calls Tryz.prog 274 #[.agg #[.int .i64 1, .string p, .string d, .int .i64 v, .slice tagsA tags.length tagsC]] w (CK (True ∧ (parse p).1 = 0 ∧ (d.size : Int) ≤ 64 ∧ (0 ≤ v ∧ v ≤ 2147483647) ∧ (((1 : Int) ≤ (tags.length : Int) ∧ (tags.length : Int) ≤ 4) ∧ ∀ x ∈ tags, 1 ≤ x ∧ x ≤ 2147483647) ∧ Rise (tags.map fun x => x)) w) := by
  obtain ⟨ok, hok⟩ : ∃ ok : Prop, (True ∧ (parse p).1 = 0 ∧ (d.size : Int) ≤ 64 ∧ (0 ≤ v ∧ v ≤ 2147483647) ∧ (((1 : Int) ≤ (tags.length : Int) ∧ (tags.length : Int) ≤ 4) ∧ ∀ x ∈ tags, 1 ≤ x ∧ x ≤ 2147483647) ∧ Rise (tags.map fun x => x) : Prop) = ok := ⟨_, rfl⟩
  have HOK : Hid (ok = (True ∧ (parse p).1 = 0 ∧ (d.size : Int) ≤ 64 ∧ (0 ≤ v ∧ v ≤ 2147483647) ∧ (((1 : Int) ≤ (tags.length : Int) ∧ (tags.length : Int) ≤ 4) ∧ ∀ x ∈ tags, 1 ≤ x ∧ x ≤ 2147483647) ∧ Rise (tags.map fun x => x))) := hok.symm
  rw [hok]
  clear hok
  have HG : Hid (Ground w) := hg
  clear hg
  have HA : Hid (TgN.At w ⟨1, p, d, v, tagsA, tagsC, tags⟩) := hA
  clear hA
  obtain ⟨w0, hw0⟩ : ∃ w0, w.alloc (.cells #[.int .i64 1, .string p, .string d, .int .i64 v, .slice tagsA tags.length tagsC] 143) = w0 := ⟨_, rfl⟩
  have HB0 : Hid (Below w.heap.size w w0) := by rw [← hw0]; exact (Below.refl _ _).alloc (Nat.le_refl _) _
  have HE0 : Hid (w0.heap[w.heap.size]? = some (.cells #[.int .i64 1, .string p, .string d, .int .i64 v, .slice tagsA tags.length tagsC] 143 (0, 0))) := by show _ = _; rw [← hw0]; exact heap_alloc_new _ _
  have HW : Hid (w.alloc (.cells #[.int .i64 1, .string p, .string d, .int .i64 v, .slice tagsA tags.length tagsC] 143) = w0) := hw0
  clear hw0
  go_enter Tryz.func274, Tryz.ntmps274
  go_upto_region 1 with fail
  rw [HW.out]
  obtain ⟨c0, c1, c2, c3, c4⟩ := cells_5N HE0.out
  go_upto_region 2 with fail
  obtain ⟨G, hG⟩ : ∃ G, w0.heap.size = G := ⟨_, rfl⟩
  obtain ⟨v0, hv0⟩ : ∃ z, w0.alloc (.cells #[.int .i64 1, .string p, .string d, .int .i64 v] 140) = z := ⟨_, rfl⟩
  have HEv : Hid (v0.heap[w.heap.size]? = some (.cells #[.int .i64 1, .string p, .string d, .int .i64 v, .slice tagsA tags.length tagsC] 143 (0, 0))) := by show _ = _; rw [← hv0]; exact new_old HE0.out _
  have HF0 : Hid (v0.heap[G]? = some (.cells #[.int .i64 1, .string p, .string d, .int .i64 v] 140 (0, 0))) := by show _ = _; rw [← hv0, ← hG]; exact heap_alloc_new _ _
  have HBv : Hid (Below w.heap.size w v0) := by rw [← hv0]; exact ext_alloc HB0.out _
  rw [hG, hv0]
  clear hv0 hG c0 c1 c2 c3 c4 HB0 HE0
  have HB0 : Hid (Below w.heap.size w v0) := HBv.out
  have HE0 : Hid (v0.heap[w.heap.size]? = some (.cells #[.int .i64 1, .string p, .string d, .int .i64 v, .slice tagsA tags.length tagsC] 143 (0, 0))) := HEv.out
  clear HBv HEv
  obtain ⟨d0, d1, d2, d3⟩ := cells_4N HF0.out
  obtain ⟨c0, c1, c2, c3, c4⟩ := cells_5N HE0.out
  go_wp2_with (first
    | (have hq := HB5; clear hq; go_at_call 284; refine Calls.mono (riseInt tagsA tagsC tags _ (HA.out.tags.below HB5.out)) ?_; rintro e w6 ⟨⟨rfl, h⟩ | ⟨rfl, h⟩, hb⟩
       rotate_left
       · exact ⟨rfl, .inr ⟨rfl, by rw [HOK.out]; exact fun g => h (g.2.2.2.2.2)⟩, xtransN HB5.out hb⟩
       have H5 : Hid (Rise (tags.map fun x => x)) := h
       have HB6 : Hid (Below w.heap.size w w6) := xtransN HB5.out hb
       have HE6 : Hid (w6.heap[w.heap.size]? = some (.cells #[.int .i64 1, .string p, .string d, .int .i64 v, .slice tagsA tags.length tagsC] 143 (0, 0))) := kept_block (below_of (Below.refl _ _) hb) HE5.out
       have HF6 : Hid (w6.heap[G]? = some (.cells #[.int .i64 1, .string p, .string d, .int .i64 v] 140 (0, 0))) := kept_block (below_of (Below.refl _ _) hb) HF5.out
       clear h hb c0 c1 c2 c3 c4 d0 d1 d2 d3
       obtain ⟨c0, c1, c2, c3, c4⟩ := cells_5N HE6.out
       obtain ⟨d0, d1, d2, d3⟩ := cells_4N HF6.out)
    | (have hq := HB4; clear hq; go_at_call 282; refine Calls.mono (listInt 1 4 tagsA tagsC tags (fun x => 1 ≤ x ∧ x ≤ 2147483647) _ (fun x hx W hb => tag_ck x W) (HA.out.tags.below HB4.out)) ?_; rintro e w5 ⟨⟨rfl, h⟩ | ⟨rfl, h⟩, hb⟩
       rotate_left
       · exact ⟨rfl, .inr ⟨rfl, by rw [HOK.out]; exact fun g => h (g.2.2.2.2.1)⟩, xtransN HB4.out hb⟩
       have H4 : Hid ((((1 : Int) ≤ (tags.length : Int) ∧ (tags.length : Int) ≤ 4) ∧ ∀ x ∈ tags, 1 ≤ x ∧ x ≤ 2147483647)) := h
       have HB5 : Hid (Below w.heap.size w w5) := xtransN HB4.out hb
       have HE5 : Hid (w5.heap[w.heap.size]? = some (.cells #[.int .i64 1, .string p, .string d, .int .i64 v, .slice tagsA tags.length tagsC] 143 (0, 0))) := kept_block (below_of (Below.refl _ _) hb) HE4.out
       have HF5 : Hid (w5.heap[G]? = some (.cells #[.int .i64 1, .string p, .string d, .int .i64 v] 140 (0, 0))) := kept_block (below_of (Below.refl _ _) hb) HF4.out
       clear h hb c0 c1 c2 c3 c4 d0 d1 d2 d3
       obtain ⟨c0, c1, c2, c3, c4⟩ := cells_5N HE5.out
       obtain ⟨d0, d1, d2, d3⟩ := cells_4N HF5.out)
    | (have hq := HB3; clear hq; go_at_call 67; refine Calls.mono (number_ck _ _ _) ?_; rintro e w4 ⟨⟨rfl, h⟩ | ⟨rfl, h⟩, hb⟩
       rotate_left
       · exact ⟨rfl, .inr ⟨rfl, by rw [HOK.out]; exact fun g => h (g.2.2.2.1)⟩, xtransN HB3.out hb⟩
       have H3 : Hid ((0 ≤ v ∧ v ≤ 2147483647)) := h
       have HB4 : Hid (Below w.heap.size w w4) := xtransN HB3.out hb
       have HE4 : Hid (w4.heap[w.heap.size]? = some (.cells #[.int .i64 1, .string p, .string d, .int .i64 v, .slice tagsA tags.length tagsC] 143 (0, 0))) := kept_block (below_of (Below.refl _ _) hb) HE3.out
       have HF4 : Hid (w4.heap[G]? = some (.cells #[.int .i64 1, .string p, .string d, .int .i64 v] 140 (0, 0))) := kept_block (below_of (Below.refl _ _) hb) HF3.out
       clear h hb c0 c1 c2 c3 c4 d0 d1 d2 d3
       obtain ⟨c0, c1, c2, c3, c4⟩ := cells_5N HE4.out
       obtain ⟨d0, d1, d2, d3⟩ := cells_4N HF4.out)
    | (have hq := HB2; clear hq; go_at_call 106; refine Calls.mono (text_ck _ _ _) ?_; rintro e w3 ⟨⟨rfl, h⟩ | ⟨rfl, h⟩, hb⟩
       rotate_left
       · exact ⟨rfl, .inr ⟨rfl, by rw [HOK.out]; exact fun g => h (g.2.2.1)⟩, xtransN HB2.out hb⟩
       have H2 : Hid ((d.size : Int) ≤ 64) := h
       have HB3 : Hid (Below w.heap.size w w3) := xtransN HB2.out hb
       have HE3 : Hid (w3.heap[w.heap.size]? = some (.cells #[.int .i64 1, .string p, .string d, .int .i64 v, .slice tagsA tags.length tagsC] 143 (0, 0))) := kept_block (below_of (Below.refl _ _) hb) HE2.out
       have HF3 : Hid (w3.heap[G]? = some (.cells #[.int .i64 1, .string p, .string d, .int .i64 v] 140 (0, 0))) := kept_block (below_of (Below.refl _ _) hb) HF2.out
       clear h hb c0 c1 c2 c3 c4 d0 d1 d2 d3
       obtain ⟨c0, c1, c2, c3, c4⟩ := cells_5N HE3.out
       obtain ⟨d0, d1, d2, d3⟩ := cells_4N HF3.out)
    | (have hq := HB1; clear hq; go_at_call 246; refine Calls.mono (place_ck _ _ (HG.out.below HB1.out)) ?_; rintro e w2 ⟨⟨rfl, h⟩ | ⟨rfl, h⟩, hb⟩
       rotate_left
       · exact ⟨rfl, .inr ⟨rfl, by rw [HOK.out]; exact fun g => h (g.2.1)⟩, xtransN HB1.out hb⟩
       have H1 : Hid ((parse p).1 = 0) := h
       have HB2 : Hid (Below w.heap.size w w2) := xtransN HB1.out hb
       have HE2 : Hid (w2.heap[w.heap.size]? = some (.cells #[.int .i64 1, .string p, .string d, .int .i64 v, .slice tagsA tags.length tagsC] 143 (0, 0))) := kept_block (below_of (Below.refl _ _) hb) HE1.out
       have HF2 : Hid (w2.heap[G]? = some (.cells #[.int .i64 1, .string p, .string d, .int .i64 v] 140 (0, 0))) := kept_block (below_of (Below.refl _ _) hb) HF1.out
       clear h hb c0 c1 c2 c3 c4 d0 d1 d2 d3
       obtain ⟨c0, c1, c2, c3, c4⟩ := cells_5N HE2.out
       obtain ⟨d0, d1, d2, d3⟩ := cells_4N HF2.out)
    | (have hq := HB0; clear hq; go_at_call 70; refine Calls.mono (must_ckB _ _) ?_; rintro e w1 ⟨⟨rfl, h⟩ | ⟨rfl, h⟩, hb⟩
       rotate_left
       · exact ⟨rfl, .inr ⟨rfl, by rw [HOK.out]; exact fun g => by have g1 := g.1; first | exact h rfl | exact h trivial | exact h.elim | exact g1.elim | exact h (by simpa using g1) | exact h (by simp_all)⟩, xtransN HB0.out hb⟩
       have H0 : Hid (True) := (by show (True); first | exact trivial | exact absurd h (by decide) | exact h.elim | simpa using h | simp_all)
       have HB1 : Hid (Below w.heap.size w w1) := xtransN HB0.out hb
       have HE1 : Hid (w1.heap[w.heap.size]? = some (.cells #[.int .i64 1, .string p, .string d, .int .i64 v, .slice tagsA tags.length tagsC] 143 (0, 0))) := kept_block (below_of (Below.refl _ _) hb) HE0.out
       have HF1 : Hid (w1.heap[G]? = some (.cells #[.int .i64 1, .string p, .string d, .int .i64 v] 140 (0, 0))) := kept_block (below_of (Below.refl _ _) hb) HF0.out
       clear h hb c0 c1 c2 c3 c4 d0 d1 d2 d3
       obtain ⟨c0, c1, c2, c3, c4⟩ := cells_5N HE1.out
       obtain ⟨d0, d1, d2, d3⟩ := cells_4N HF1.out)
    | fail)
  all_goals exact bodyPost_end (results_none rfl _ _ _) rfl ⟨.inl ⟨rfl, by rw [HOK.out]; exact ⟨H0.out, H1.out, H2.out, H3.out, H4.out, H5.out⟩⟩, HB6.out⟩
set_option maxHeartbeats 3200000 in
theorem Tg_core2 (p : ByteArray) (d : ByteArray) (v : Int) (tagsA : Option Addr) (tagsC : Nat) (tags : List Int) (w : World) (hg : Ground w) (hA : TgN.At w ⟨2, p, d, v, tagsA, tagsC, tags⟩) : Calls Tryz.prog 274 #[.agg #[.int .i64 2, .string p, .string d, .int .i64 v, .slice tagsA tags.length tagsC]] w (CK (True ∧ (parse p).1 = 0 ∧ (d.size : Int) ≤ 64 ∧ (0 ≤ v ∧ v ≤ 2147483647) ∧ (((1 : Int) ≤ (tags.length : Int) ∧ (tags.length : Int) ≤ 4) ∧ ∀ x ∈ tags, 1 ≤ x ∧ x ≤ 2147483647) ∧ Rise (tags.map fun x => x)) w) := by
  obtain ⟨ok, hok⟩ : ∃ ok : Prop, (True ∧ (parse p).1 = 0 ∧ (d.size : Int) ≤ 64 ∧ (0 ≤ v ∧ v ≤ 2147483647) ∧ (((1 : Int) ≤ (tags.length : Int) ∧ (tags.length : Int) ≤ 4) ∧ ∀ x ∈ tags, 1 ≤ x ∧ x ≤ 2147483647) ∧ Rise (tags.map fun x => x) : Prop) = ok := ⟨_, rfl⟩
  have HOK : Hid (ok = (True ∧ (parse p).1 = 0 ∧ (d.size : Int) ≤ 64 ∧ (0 ≤ v ∧ v ≤ 2147483647) ∧ (((1 : Int) ≤ (tags.length : Int) ∧ (tags.length : Int) ≤ 4) ∧ ∀ x ∈ tags, 1 ≤ x ∧ x ≤ 2147483647) ∧ Rise (tags.map fun x => x))) := hok.symm
  rw [hok]
  clear hok
  have HG : Hid (Ground w) := hg
  clear hg
  have HA : Hid (TgN.At w ⟨2, p, d, v, tagsA, tagsC, tags⟩) := hA
  clear hA
  obtain ⟨w0, hw0⟩ : ∃ w0, w.alloc (.cells #[.int .i64 2, .string p, .string d, .int .i64 v, .slice tagsA tags.length tagsC] 143) = w0 := ⟨_, rfl⟩
  have HB0 : Hid (Below w.heap.size w w0) := by rw [← hw0]; exact (Below.refl _ _).alloc (Nat.le_refl _) _
  have HE0 : Hid (w0.heap[w.heap.size]? = some (.cells #[.int .i64 2, .string p, .string d, .int .i64 v, .slice tagsA tags.length tagsC] 143 (0, 0))) := by show _ = _; rw [← hw0]; exact heap_alloc_new _ _
  have HW : Hid (w.alloc (.cells #[.int .i64 2, .string p, .string d, .int .i64 v, .slice tagsA tags.length tagsC] 143) = w0) := hw0
  clear hw0
  go_enter Tryz.func274, Tryz.ntmps274
  go_upto_region 1 with fail
  rw [HW.out]
  obtain ⟨c0, c1, c2, c3, c4⟩ := cells_5N HE0.out
  go_upto_region 2 with fail
  obtain ⟨G, hG⟩ : ∃ G, w0.heap.size = G := ⟨_, rfl⟩
  obtain ⟨v0, hv0⟩ : ∃ z, w0.alloc (.cells #[.int .i64 2, .string p, .string d, .int .i64 v] 140) = z := ⟨_, rfl⟩
  have HEv : Hid (v0.heap[w.heap.size]? = some (.cells #[.int .i64 2, .string p, .string d, .int .i64 v, .slice tagsA tags.length tagsC] 143 (0, 0))) := by show _ = _; rw [← hv0]; exact new_old HE0.out _
  have HF0 : Hid (v0.heap[G]? = some (.cells #[.int .i64 2, .string p, .string d, .int .i64 v] 140 (0, 0))) := by show _ = _; rw [← hv0, ← hG]; exact heap_alloc_new _ _
  have HBv : Hid (Below w.heap.size w v0) := by rw [← hv0]; exact ext_alloc HB0.out _
  rw [hG, hv0]
  clear hv0 hG c0 c1 c2 c3 c4 HB0 HE0
  have HB0 : Hid (Below w.heap.size w v0) := HBv.out
  have HE0 : Hid (v0.heap[w.heap.size]? = some (.cells #[.int .i64 2, .string p, .string d, .int .i64 v, .slice tagsA tags.length tagsC] 143 (0, 0))) := HEv.out
  clear HBv HEv
  obtain ⟨d0, d1, d2, d3⟩ := cells_4N HF0.out
  obtain ⟨c0, c1, c2, c3, c4⟩ := cells_5N HE0.out
  go_wp2_with (first
    | (have hq := HB5; clear hq; go_at_call 284; refine Calls.mono (riseInt tagsA tagsC tags _ (HA.out.tags.below HB5.out)) ?_; rintro e w6 ⟨⟨rfl, h⟩ | ⟨rfl, h⟩, hb⟩
       rotate_left
       · exact ⟨rfl, .inr ⟨rfl, by rw [HOK.out]; exact fun g => h (g.2.2.2.2.2)⟩, xtransN HB5.out hb⟩
       have H5 : Hid (Rise (tags.map fun x => x)) := h
       have HB6 : Hid (Below w.heap.size w w6) := xtransN HB5.out hb
       have HE6 : Hid (w6.heap[w.heap.size]? = some (.cells #[.int .i64 2, .string p, .string d, .int .i64 v, .slice tagsA tags.length tagsC] 143 (0, 0))) := kept_block (below_of (Below.refl _ _) hb) HE5.out
       have HF6 : Hid (w6.heap[G]? = some (.cells #[.int .i64 2, .string p, .string d, .int .i64 v] 140 (0, 0))) := kept_block (below_of (Below.refl _ _) hb) HF5.out
       clear h hb c0 c1 c2 c3 c4 d0 d1 d2 d3
       obtain ⟨c0, c1, c2, c3, c4⟩ := cells_5N HE6.out
       obtain ⟨d0, d1, d2, d3⟩ := cells_4N HF6.out)
    | (have hq := HB4; clear hq; go_at_call 282; refine Calls.mono (listInt 1 4 tagsA tagsC tags (fun x => 1 ≤ x ∧ x ≤ 2147483647) _ (fun x hx W hb => tag_ck x W) (HA.out.tags.below HB4.out)) ?_; rintro e w5 ⟨⟨rfl, h⟩ | ⟨rfl, h⟩, hb⟩
       rotate_left
       · exact ⟨rfl, .inr ⟨rfl, by rw [HOK.out]; exact fun g => h (g.2.2.2.2.1)⟩, xtransN HB4.out hb⟩
       have H4 : Hid ((((1 : Int) ≤ (tags.length : Int) ∧ (tags.length : Int) ≤ 4) ∧ ∀ x ∈ tags, 1 ≤ x ∧ x ≤ 2147483647)) := h
       have HB5 : Hid (Below w.heap.size w w5) := xtransN HB4.out hb
       have HE5 : Hid (w5.heap[w.heap.size]? = some (.cells #[.int .i64 2, .string p, .string d, .int .i64 v, .slice tagsA tags.length tagsC] 143 (0, 0))) := kept_block (below_of (Below.refl _ _) hb) HE4.out
       have HF5 : Hid (w5.heap[G]? = some (.cells #[.int .i64 2, .string p, .string d, .int .i64 v] 140 (0, 0))) := kept_block (below_of (Below.refl _ _) hb) HF4.out
       clear h hb c0 c1 c2 c3 c4 d0 d1 d2 d3
       obtain ⟨c0, c1, c2, c3, c4⟩ := cells_5N HE5.out
       obtain ⟨d0, d1, d2, d3⟩ := cells_4N HF5.out)
    | (have hq := HB3; clear hq; go_at_call 67; refine Calls.mono (number_ck _ _ _) ?_; rintro e w4 ⟨⟨rfl, h⟩ | ⟨rfl, h⟩, hb⟩
       rotate_left
       · exact ⟨rfl, .inr ⟨rfl, by rw [HOK.out]; exact fun g => h (g.2.2.2.1)⟩, xtransN HB3.out hb⟩
       have H3 : Hid ((0 ≤ v ∧ v ≤ 2147483647)) := h
       have HB4 : Hid (Below w.heap.size w w4) := xtransN HB3.out hb
       have HE4 : Hid (w4.heap[w.heap.size]? = some (.cells #[.int .i64 2, .string p, .string d, .int .i64 v, .slice tagsA tags.length tagsC] 143 (0, 0))) := kept_block (below_of (Below.refl _ _) hb) HE3.out
       have HF4 : Hid (w4.heap[G]? = some (.cells #[.int .i64 2, .string p, .string d, .int .i64 v] 140 (0, 0))) := kept_block (below_of (Below.refl _ _) hb) HF3.out
       clear h hb c0 c1 c2 c3 c4 d0 d1 d2 d3
       obtain ⟨c0, c1, c2, c3, c4⟩ := cells_5N HE4.out
       obtain ⟨d0, d1, d2, d3⟩ := cells_4N HF4.out)
    | (have hq := HB2; clear hq; go_at_call 106; refine Calls.mono (text_ck _ _ _) ?_; rintro e w3 ⟨⟨rfl, h⟩ | ⟨rfl, h⟩, hb⟩
       rotate_left
       · exact ⟨rfl, .inr ⟨rfl, by rw [HOK.out]; exact fun g => h (g.2.2.1)⟩, xtransN HB2.out hb⟩
       have H2 : Hid ((d.size : Int) ≤ 64) := h
       have HB3 : Hid (Below w.heap.size w w3) := xtransN HB2.out hb
       have HE3 : Hid (w3.heap[w.heap.size]? = some (.cells #[.int .i64 2, .string p, .string d, .int .i64 v, .slice tagsA tags.length tagsC] 143 (0, 0))) := kept_block (below_of (Below.refl _ _) hb) HE2.out
       have HF3 : Hid (w3.heap[G]? = some (.cells #[.int .i64 2, .string p, .string d, .int .i64 v] 140 (0, 0))) := kept_block (below_of (Below.refl _ _) hb) HF2.out
       clear h hb c0 c1 c2 c3 c4 d0 d1 d2 d3
       obtain ⟨c0, c1, c2, c3, c4⟩ := cells_5N HE3.out
       obtain ⟨d0, d1, d2, d3⟩ := cells_4N HF3.out)
    | (have hq := HB1; clear hq; go_at_call 246; refine Calls.mono (place_ck _ _ (HG.out.below HB1.out)) ?_; rintro e w2 ⟨⟨rfl, h⟩ | ⟨rfl, h⟩, hb⟩
       rotate_left
       · exact ⟨rfl, .inr ⟨rfl, by rw [HOK.out]; exact fun g => h (g.2.1)⟩, xtransN HB1.out hb⟩
       have H1 : Hid ((parse p).1 = 0) := h
       have HB2 : Hid (Below w.heap.size w w2) := xtransN HB1.out hb
       have HE2 : Hid (w2.heap[w.heap.size]? = some (.cells #[.int .i64 2, .string p, .string d, .int .i64 v, .slice tagsA tags.length tagsC] 143 (0, 0))) := kept_block (below_of (Below.refl _ _) hb) HE1.out
       have HF2 : Hid (w2.heap[G]? = some (.cells #[.int .i64 2, .string p, .string d, .int .i64 v] 140 (0, 0))) := kept_block (below_of (Below.refl _ _) hb) HF1.out
       clear h hb c0 c1 c2 c3 c4 d0 d1 d2 d3
       obtain ⟨c0, c1, c2, c3, c4⟩ := cells_5N HE2.out
       obtain ⟨d0, d1, d2, d3⟩ := cells_4N HF2.out)
    | (have hq := HB0; clear hq; go_at_call 70; refine Calls.mono (must_ckB _ _) ?_; rintro e w1 ⟨⟨rfl, h⟩ | ⟨rfl, h⟩, hb⟩
       rotate_left
       · exact ⟨rfl, .inr ⟨rfl, by rw [HOK.out]; exact fun g => by have g1 := g.1; first | exact h rfl | exact h trivial | exact h.elim | exact g1.elim | exact h (by simpa using g1) | exact h (by simp_all)⟩, xtransN HB0.out hb⟩
       have H0 : Hid (True) := (by show (True); first | exact trivial | exact absurd h (by decide) | exact h.elim | simpa using h | simp_all)
       have HB1 : Hid (Below w.heap.size w w1) := xtransN HB0.out hb
       have HE1 : Hid (w1.heap[w.heap.size]? = some (.cells #[.int .i64 2, .string p, .string d, .int .i64 v, .slice tagsA tags.length tagsC] 143 (0, 0))) := kept_block (below_of (Below.refl _ _) hb) HE0.out
       have HF1 : Hid (w1.heap[G]? = some (.cells #[.int .i64 2, .string p, .string d, .int .i64 v] 140 (0, 0))) := kept_block (below_of (Below.refl _ _) hb) HF0.out
       clear h hb c0 c1 c2 c3 c4 d0 d1 d2 d3
       obtain ⟨c0, c1, c2, c3, c4⟩ := cells_5N HE1.out
       obtain ⟨d0, d1, d2, d3⟩ := cells_4N HF1.out)
    | fail)
  all_goals exact bodyPost_end (results_none rfl _ _ _) rfl ⟨.inl ⟨rfl, by rw [HOK.out]; exact ⟨H0.out, H1.out, H2.out, H3.out, H4.out, H5.out⟩⟩, HB6.out⟩
set_option maxHeartbeats 3200000 in
theorem Tg_core3 (p : ByteArray) (d : ByteArray) (v : Int) (tagsA : Option Addr) (tagsC : Nat) (tags : List Int) (w : World) (hg : Ground w) (hA : TgN.At w ⟨3, p, d, v, tagsA, tagsC, tags⟩) : Calls Tryz.prog 274 #[.agg #[.int .i64 3, .string p, .string d, .int .i64 v, .slice tagsA tags.length tagsC]] w (CK (True ∧ (parse p).1 = 0 ∧ (d.size : Int) ≤ 64 ∧ (0 ≤ v ∧ v ≤ 2147483647) ∧ (((1 : Int) ≤ (tags.length : Int) ∧ (tags.length : Int) ≤ 4) ∧ ∀ x ∈ tags, 1 ≤ x ∧ x ≤ 2147483647) ∧ Rise (tags.map fun x => x)) w) := by
  obtain ⟨ok, hok⟩ : ∃ ok : Prop, (True ∧ (parse p).1 = 0 ∧ (d.size : Int) ≤ 64 ∧ (0 ≤ v ∧ v ≤ 2147483647) ∧ (((1 : Int) ≤ (tags.length : Int) ∧ (tags.length : Int) ≤ 4) ∧ ∀ x ∈ tags, 1 ≤ x ∧ x ≤ 2147483647) ∧ Rise (tags.map fun x => x) : Prop) = ok := ⟨_, rfl⟩
  have HOK : Hid (ok = (True ∧ (parse p).1 = 0 ∧ (d.size : Int) ≤ 64 ∧ (0 ≤ v ∧ v ≤ 2147483647) ∧ (((1 : Int) ≤ (tags.length : Int) ∧ (tags.length : Int) ≤ 4) ∧ ∀ x ∈ tags, 1 ≤ x ∧ x ≤ 2147483647) ∧ Rise (tags.map fun x => x))) := hok.symm
  rw [hok]
  clear hok
  have HG : Hid (Ground w) := hg
  clear hg
  have HA : Hid (TgN.At w ⟨3, p, d, v, tagsA, tagsC, tags⟩) := hA
  clear hA
  obtain ⟨w0, hw0⟩ : ∃ w0, w.alloc (.cells #[.int .i64 3, .string p, .string d, .int .i64 v, .slice tagsA tags.length tagsC] 143) = w0 := ⟨_, rfl⟩
  have HB0 : Hid (Below w.heap.size w w0) := by rw [← hw0]; exact (Below.refl _ _).alloc (Nat.le_refl _) _
  have HE0 : Hid (w0.heap[w.heap.size]? = some (.cells #[.int .i64 3, .string p, .string d, .int .i64 v, .slice tagsA tags.length tagsC] 143 (0, 0))) := by show _ = _; rw [← hw0]; exact heap_alloc_new _ _
  have HW : Hid (w.alloc (.cells #[.int .i64 3, .string p, .string d, .int .i64 v, .slice tagsA tags.length tagsC] 143) = w0) := hw0
  clear hw0
  go_enter Tryz.func274, Tryz.ntmps274
  go_upto_region 1 with fail
  rw [HW.out]
  obtain ⟨c0, c1, c2, c3, c4⟩ := cells_5N HE0.out
  go_upto_region 2 with fail
  obtain ⟨G, hG⟩ : ∃ G, w0.heap.size = G := ⟨_, rfl⟩
  obtain ⟨v0, hv0⟩ : ∃ z, w0.alloc (.cells #[.int .i64 3, .string p, .string d, .int .i64 v] 140) = z := ⟨_, rfl⟩
  have HEv : Hid (v0.heap[w.heap.size]? = some (.cells #[.int .i64 3, .string p, .string d, .int .i64 v, .slice tagsA tags.length tagsC] 143 (0, 0))) := by show _ = _; rw [← hv0]; exact new_old HE0.out _
  have HF0 : Hid (v0.heap[G]? = some (.cells #[.int .i64 3, .string p, .string d, .int .i64 v] 140 (0, 0))) := by show _ = _; rw [← hv0, ← hG]; exact heap_alloc_new _ _
  have HBv : Hid (Below w.heap.size w v0) := by rw [← hv0]; exact ext_alloc HB0.out _
  rw [hG, hv0]
  clear hv0 hG c0 c1 c2 c3 c4 HB0 HE0
  have HB0 : Hid (Below w.heap.size w v0) := HBv.out
  have HE0 : Hid (v0.heap[w.heap.size]? = some (.cells #[.int .i64 3, .string p, .string d, .int .i64 v, .slice tagsA tags.length tagsC] 143 (0, 0))) := HEv.out
  clear HBv HEv
  obtain ⟨d0, d1, d2, d3⟩ := cells_4N HF0.out
  obtain ⟨c0, c1, c2, c3, c4⟩ := cells_5N HE0.out
  go_wp2_with (first
    | (have hq := HB5; clear hq; go_at_call 284; refine Calls.mono (riseInt tagsA tagsC tags _ (HA.out.tags.below HB5.out)) ?_; rintro e w6 ⟨⟨rfl, h⟩ | ⟨rfl, h⟩, hb⟩
       rotate_left
       · exact ⟨rfl, .inr ⟨rfl, by rw [HOK.out]; exact fun g => h (g.2.2.2.2.2)⟩, xtransN HB5.out hb⟩
       have H5 : Hid (Rise (tags.map fun x => x)) := h
       have HB6 : Hid (Below w.heap.size w w6) := xtransN HB5.out hb
       have HE6 : Hid (w6.heap[w.heap.size]? = some (.cells #[.int .i64 3, .string p, .string d, .int .i64 v, .slice tagsA tags.length tagsC] 143 (0, 0))) := kept_block (below_of (Below.refl _ _) hb) HE5.out
       have HF6 : Hid (w6.heap[G]? = some (.cells #[.int .i64 3, .string p, .string d, .int .i64 v] 140 (0, 0))) := kept_block (below_of (Below.refl _ _) hb) HF5.out
       clear h hb c0 c1 c2 c3 c4 d0 d1 d2 d3
       obtain ⟨c0, c1, c2, c3, c4⟩ := cells_5N HE6.out
       obtain ⟨d0, d1, d2, d3⟩ := cells_4N HF6.out)
    | (have hq := HB4; clear hq; go_at_call 282; refine Calls.mono (listInt 1 4 tagsA tagsC tags (fun x => 1 ≤ x ∧ x ≤ 2147483647) _ (fun x hx W hb => tag_ck x W) (HA.out.tags.below HB4.out)) ?_; rintro e w5 ⟨⟨rfl, h⟩ | ⟨rfl, h⟩, hb⟩
       rotate_left
       · exact ⟨rfl, .inr ⟨rfl, by rw [HOK.out]; exact fun g => h (g.2.2.2.2.1)⟩, xtransN HB4.out hb⟩
       have H4 : Hid ((((1 : Int) ≤ (tags.length : Int) ∧ (tags.length : Int) ≤ 4) ∧ ∀ x ∈ tags, 1 ≤ x ∧ x ≤ 2147483647)) := h
       have HB5 : Hid (Below w.heap.size w w5) := xtransN HB4.out hb
       have HE5 : Hid (w5.heap[w.heap.size]? = some (.cells #[.int .i64 3, .string p, .string d, .int .i64 v, .slice tagsA tags.length tagsC] 143 (0, 0))) := kept_block (below_of (Below.refl _ _) hb) HE4.out
       have HF5 : Hid (w5.heap[G]? = some (.cells #[.int .i64 3, .string p, .string d, .int .i64 v] 140 (0, 0))) := kept_block (below_of (Below.refl _ _) hb) HF4.out
       clear h hb c0 c1 c2 c3 c4 d0 d1 d2 d3
       obtain ⟨c0, c1, c2, c3, c4⟩ := cells_5N HE5.out
       obtain ⟨d0, d1, d2, d3⟩ := cells_4N HF5.out)
    | (have hq := HB3; clear hq; go_at_call 67; refine Calls.mono (number_ck _ _ _) ?_; rintro e w4 ⟨⟨rfl, h⟩ | ⟨rfl, h⟩, hb⟩
       rotate_left
       · exact ⟨rfl, .inr ⟨rfl, by rw [HOK.out]; exact fun g => h (g.2.2.2.1)⟩, xtransN HB3.out hb⟩
       have H3 : Hid ((0 ≤ v ∧ v ≤ 2147483647)) := h
       have HB4 : Hid (Below w.heap.size w w4) := xtransN HB3.out hb
       have HE4 : Hid (w4.heap[w.heap.size]? = some (.cells #[.int .i64 3, .string p, .string d, .int .i64 v, .slice tagsA tags.length tagsC] 143 (0, 0))) := kept_block (below_of (Below.refl _ _) hb) HE3.out
       have HF4 : Hid (w4.heap[G]? = some (.cells #[.int .i64 3, .string p, .string d, .int .i64 v] 140 (0, 0))) := kept_block (below_of (Below.refl _ _) hb) HF3.out
       clear h hb c0 c1 c2 c3 c4 d0 d1 d2 d3
       obtain ⟨c0, c1, c2, c3, c4⟩ := cells_5N HE4.out
       obtain ⟨d0, d1, d2, d3⟩ := cells_4N HF4.out)
    | (have hq := HB2; clear hq; go_at_call 106; refine Calls.mono (text_ck _ _ _) ?_; rintro e w3 ⟨⟨rfl, h⟩ | ⟨rfl, h⟩, hb⟩
       rotate_left
       · exact ⟨rfl, .inr ⟨rfl, by rw [HOK.out]; exact fun g => h (g.2.2.1)⟩, xtransN HB2.out hb⟩
       have H2 : Hid ((d.size : Int) ≤ 64) := h
       have HB3 : Hid (Below w.heap.size w w3) := xtransN HB2.out hb
       have HE3 : Hid (w3.heap[w.heap.size]? = some (.cells #[.int .i64 3, .string p, .string d, .int .i64 v, .slice tagsA tags.length tagsC] 143 (0, 0))) := kept_block (below_of (Below.refl _ _) hb) HE2.out
       have HF3 : Hid (w3.heap[G]? = some (.cells #[.int .i64 3, .string p, .string d, .int .i64 v] 140 (0, 0))) := kept_block (below_of (Below.refl _ _) hb) HF2.out
       clear h hb c0 c1 c2 c3 c4 d0 d1 d2 d3
       obtain ⟨c0, c1, c2, c3, c4⟩ := cells_5N HE3.out
       obtain ⟨d0, d1, d2, d3⟩ := cells_4N HF3.out)
    | (have hq := HB1; clear hq; go_at_call 246; refine Calls.mono (place_ck _ _ (HG.out.below HB1.out)) ?_; rintro e w2 ⟨⟨rfl, h⟩ | ⟨rfl, h⟩, hb⟩
       rotate_left
       · exact ⟨rfl, .inr ⟨rfl, by rw [HOK.out]; exact fun g => h (g.2.1)⟩, xtransN HB1.out hb⟩
       have H1 : Hid ((parse p).1 = 0) := h
       have HB2 : Hid (Below w.heap.size w w2) := xtransN HB1.out hb
       have HE2 : Hid (w2.heap[w.heap.size]? = some (.cells #[.int .i64 3, .string p, .string d, .int .i64 v, .slice tagsA tags.length tagsC] 143 (0, 0))) := kept_block (below_of (Below.refl _ _) hb) HE1.out
       have HF2 : Hid (w2.heap[G]? = some (.cells #[.int .i64 3, .string p, .string d, .int .i64 v] 140 (0, 0))) := kept_block (below_of (Below.refl _ _) hb) HF1.out
       clear h hb c0 c1 c2 c3 c4 d0 d1 d2 d3
       obtain ⟨c0, c1, c2, c3, c4⟩ := cells_5N HE2.out
       obtain ⟨d0, d1, d2, d3⟩ := cells_4N HF2.out)
    | (have hq := HB0; clear hq; go_at_call 70; refine Calls.mono (must_ckB _ _) ?_; rintro e w1 ⟨⟨rfl, h⟩ | ⟨rfl, h⟩, hb⟩
       rotate_left
       · exact ⟨rfl, .inr ⟨rfl, by rw [HOK.out]; exact fun g => by have g1 := g.1; first | exact h rfl | exact h trivial | exact h.elim | exact g1.elim | exact h (by simpa using g1) | exact h (by simp_all)⟩, xtransN HB0.out hb⟩
       have H0 : Hid (True) := (by show (True); first | exact trivial | exact absurd h (by decide) | exact h.elim | simpa using h | simp_all)
       have HB1 : Hid (Below w.heap.size w w1) := xtransN HB0.out hb
       have HE1 : Hid (w1.heap[w.heap.size]? = some (.cells #[.int .i64 3, .string p, .string d, .int .i64 v, .slice tagsA tags.length tagsC] 143 (0, 0))) := kept_block (below_of (Below.refl _ _) hb) HE0.out
       have HF1 : Hid (w1.heap[G]? = some (.cells #[.int .i64 3, .string p, .string d, .int .i64 v] 140 (0, 0))) := kept_block (below_of (Below.refl _ _) hb) HF0.out
       clear h hb c0 c1 c2 c3 c4 d0 d1 d2 d3
       obtain ⟨c0, c1, c2, c3, c4⟩ := cells_5N HE1.out
       obtain ⟨d0, d1, d2, d3⟩ := cells_4N HF1.out)
    | fail)
  all_goals exact bodyPost_end (results_none rfl _ _ _) rfl ⟨.inl ⟨rfl, by rw [HOK.out]; exact ⟨H0.out, H1.out, H2.out, H3.out, H4.out, H5.out⟩⟩, HB6.out⟩
set_option maxHeartbeats 3200000 in
theorem Tg_coree (K : Int) (p : ByteArray) (d : ByteArray) (v : Int) (tagsA : Option Addr) (tagsC : Nat) (tags : List Int) (w : World) (k1 : ¬ K = 1) (k2 : ¬ K = 2) (k3 : ¬ K = 3) : Calls Tryz.prog 274 #[.agg #[.int .i64 K, .string p, .string d, .int .i64 v, .slice tagsA tags.length tagsC]] w (CK (False) w) := by
  obtain ⟨ok, hok⟩ : ∃ ok : Prop, (False : Prop) = ok := ⟨_, rfl⟩
  have HOK : Hid (ok = (False)) := hok.symm
  rw [hok]
  clear hok
  obtain ⟨w0, hw0⟩ : ∃ w0, w.alloc (.cells #[.int .i64 K, .string p, .string d, .int .i64 v, .slice tagsA tags.length tagsC] 143) = w0 := ⟨_, rfl⟩
  have HB0 : Hid (Below w.heap.size w w0) := by rw [← hw0]; exact (Below.refl _ _).alloc (Nat.le_refl _) _
  have HE0 : Hid (w0.heap[w.heap.size]? = some (.cells #[.int .i64 K, .string p, .string d, .int .i64 v, .slice tagsA tags.length tagsC] 143 (0, 0))) := by show _ = _; rw [← hw0]; exact heap_alloc_new _ _
  have HW : Hid (w.alloc (.cells #[.int .i64 K, .string p, .string d, .int .i64 v, .slice tagsA tags.length tagsC] 143) = w0) := hw0
  clear hw0
  go_enter Tryz.func274, Tryz.ntmps274
  go_upto_region 1 with fail
  rw [HW.out]
  obtain ⟨c0, c1, c2, c3, c4⟩ := cells_5N HE0.out
  go_upto_region 2 with fail
  obtain ⟨G, hG⟩ : ∃ G, w0.heap.size = G := ⟨_, rfl⟩
  obtain ⟨v0, hv0⟩ : ∃ z, w0.alloc (.cells #[.int .i64 K, .string p, .string d, .int .i64 v] 140) = z := ⟨_, rfl⟩
  have HEv : Hid (v0.heap[w.heap.size]? = some (.cells #[.int .i64 K, .string p, .string d, .int .i64 v, .slice tagsA tags.length tagsC] 143 (0, 0))) := by show _ = _; rw [← hv0]; exact new_old HE0.out _
  have HF0 : Hid (v0.heap[G]? = some (.cells #[.int .i64 K, .string p, .string d, .int .i64 v] 140 (0, 0))) := by show _ = _; rw [← hv0, ← hG]; exact heap_alloc_new _ _
  have HBv : Hid (Below w.heap.size w v0) := by rw [← hv0]; exact ext_alloc HB0.out _
  rw [hG, hv0]
  clear hv0 hG c0 c1 c2 c3 c4 HB0 HE0
  have HB0 : Hid (Below w.heap.size w v0) := HBv.out
  have HE0 : Hid (v0.heap[w.heap.size]? = some (.cells #[.int .i64 K, .string p, .string d, .int .i64 v, .slice tagsA tags.length tagsC] 143 (0, 0))) := HEv.out
  clear HBv HEv
  obtain ⟨d0, d1, d2, d3⟩ := cells_4N HF0.out
  obtain ⟨c0, c1, c2, c3, c4⟩ := cells_5N HE0.out
  go_wp2_with (first
    | (have hq := HB0; clear hq; go_at_call 70; refine Calls.mono (must_ckB _ _) ?_; rintro e w1 ⟨⟨rfl, h⟩ | ⟨rfl, h⟩, hb⟩
       rotate_left
       · exact ⟨rfl, .inr ⟨rfl, fun g => by have g1 := HOK.out; first | exact g1 g | exact (g1 ▸ g : False) | exact h rfl | exact h trivial | exact h.elim | exact g1.elim | exact h (by simpa using g1) | exact h (by simp_all)⟩, xtransN HB0.out hb⟩
       have H0 : Hid (False) := (by show (False); first | exact trivial | exact absurd h (by decide) | exact h.elim | simpa using h | simp_all)
       have HB1 : Hid (Below w.heap.size w w1) := xtransN HB0.out hb
       have HE1 : Hid (w1.heap[w.heap.size]? = some (.cells #[.int .i64 K, .string p, .string d, .int .i64 v, .slice tagsA tags.length tagsC] 143 (0, 0))) := kept_block (below_of (Below.refl _ _) hb) HE0.out
       have HF1 : Hid (w1.heap[G]? = some (.cells #[.int .i64 K, .string p, .string d, .int .i64 v] 140 (0, 0))) := kept_block (below_of (Below.refl _ _) hb) HF0.out
       clear h hb c0 c1 c2 c3 c4 d0 d1 d2 d3
       obtain ⟨c0, c1, c2, c3, c4⟩ := cells_5N HE1.out
       obtain ⟨d0, d1, d2, d3⟩ := cells_4N HF1.out)
    | fail)
  all_goals exact H0.out.elim
theorem Tg_ck (x : TgN) (w : World) (hg : Ground w) (hA : x.At w) : Calls Tryz.prog 274 #[x.val] w (CK x.Ok w) := by
  obtain ⟨K, p, d, v, tagsA, tagsC, tags⟩ := x
  by_cases k1 : K = 1
  · subst k1
    exact (Tg_core1 p d v tagsA tagsC tags w hg hA).mono fun e w' h => h.congr ⟨fun h => ⟨by omega, h.2⟩, fun h => ⟨trivial, h.2⟩⟩
  by_cases k2 : K = 2
  · subst k2
    exact (Tg_core2 p d v tagsA tagsC tags w hg hA).mono fun e w' h => h.congr ⟨fun h => ⟨by omega, h.2⟩, fun h => ⟨trivial, h.2⟩⟩
  by_cases k3 : K = 3
  · subst k3
    exact (Tg_core3 p d v tagsA tagsC tags w hg hA).mono fun e w' h => h.congr ⟨fun h => ⟨by omega, h.2⟩, fun h => ⟨trivial, h.2⟩⟩
  exact (Tg_coree K p d v tagsA tagsC tags w k1 k2 k3).mono fun e w' h => h.congr ⟨fun h => h.elim, fun h => by have := h.1; omega⟩
def ItN.Ok : ItN → Prop := fun ⟨st, af, m, chsA, chsC, chs, partsA, partsC, parts⟩ => nums [st, af] ∧ ((m = true ∧ (chs.length : Int) = 0 ∧ (((1 : Int) ≤ (parts.length : Int) ∧ (parts.length : Int) ≤ 4) ∧ ∀ x ∈ parts, PaN.Ok x)) ∨ (m = false ∧ (parts.length : Int) = 0 ∧ (((1 : Int) ≤ (chs.length : Int) ∧ (chs.length : Int) ≤ 64) ∧ ∀ x ∈ chs, TgN.Ok x)))
set_option maxHeartbeats 3200000 in
theorem It_coreT (st : Int) (af : Int) (chsA : Option Addr) (chsC : Nat) (chs : List TgN) (partsA : Option Addr) (partsC : Nat) (parts : List PaN) (w : World) (hg : Ground w) (hA : ItN.At w ⟨st, af, true, chsA, chsC, chs, partsA, partsC, parts⟩) : Calls Tryz.prog 229 #[.agg #[.int .i64 st, .int .i64 af, .bool true, .slice chsA chs.length chsC, .slice partsA parts.length partsC]] w (CK (nums [st, af] ∧ (chs.length : Int) = 0 ∧ (((1 : Int) ≤ (parts.length : Int) ∧ (parts.length : Int) ≤ 4) ∧ ∀ x ∈ parts, PaN.Ok x)) w) := by
  obtain ⟨ok, hok⟩ : ∃ ok : Prop, (nums [st, af] ∧ (chs.length : Int) = 0 ∧ (((1 : Int) ≤ (parts.length : Int) ∧ (parts.length : Int) ≤ 4) ∧ ∀ x ∈ parts, PaN.Ok x) : Prop) = ok := ⟨_, rfl⟩
  have HOK : Hid (ok = (nums [st, af] ∧ (chs.length : Int) = 0 ∧ (((1 : Int) ≤ (parts.length : Int) ∧ (parts.length : Int) ≤ 4) ∧ ∀ x ∈ parts, PaN.Ok x))) := hok.symm
  rw [hok]
  clear hok
  have HG : Hid (Ground w) := hg
  clear hg
  have HA : Hid (ItN.At w ⟨st, af, true, chsA, chsC, chs, partsA, partsC, parts⟩) := hA
  clear hA
  obtain ⟨w0, hw0⟩ : ∃ w0, w.alloc (.cells #[.int .i64 st, .int .i64 af, .bool true, .slice chsA chs.length chsC, .slice partsA parts.length partsC] 92) = w0 := ⟨_, rfl⟩
  have HB0 : Hid (Below w.heap.size w w0) := by rw [← hw0]; exact (Below.refl _ _).alloc (Nat.le_refl _) _
  have HE0 : Hid (w0.heap[w.heap.size]? = some (.cells #[.int .i64 st, .int .i64 af, .bool true, .slice chsA chs.length chsC, .slice partsA parts.length partsC] 92 (0, 0))) := by show _ = _; rw [← hw0]; exact heap_alloc_new _ _
  have HW : Hid (w.alloc (.cells #[.int .i64 st, .int .i64 af, .bool true, .slice chsA chs.length chsC, .slice partsA parts.length partsC] 92) = w0) := hw0
  clear hw0
  go_enter Tryz.func229, Tryz.ntmps229
  go_upto_region 1 with fail
  rw [HW.out]
  obtain ⟨c0, c1, c2, c3, c4⟩ := cells_5N HE0.out
  go_wp2_with (first
    | (have hq := HB2; clear hq; go_at_call 218; refine Calls.mono (listPa 1 4 partsA partsC parts PaN.Ok _ (fun x hx W hb => Pa_ck x W (HG.out.below (below_of HB2.out hb)) ((HA.out.partsS x hx).below (below_of HB2.out hb))) (HA.out.parts.below HB2.out)) ?_; rintro e w3 ⟨⟨rfl, h⟩ | ⟨rfl, h⟩, hb⟩
       rotate_left
       · exact ⟨rfl, .inr ⟨rfl, by rw [HOK.out]; exact fun g => h (g.2.2)⟩, xtransN HB2.out hb⟩
       have H2 : Hid ((((1 : Int) ≤ (parts.length : Int) ∧ (parts.length : Int) ≤ 4) ∧ ∀ x ∈ parts, PaN.Ok x)) := h
       have HB3 : Hid (Below w.heap.size w w3) := xtransN HB2.out hb
       have HE3 : Hid (w3.heap[w.heap.size]? = some (.cells #[.int .i64 st, .int .i64 af, .bool true, .slice chsA chs.length chsC, .slice partsA parts.length partsC] 92 (0, 0))) := kept_block (below_of (Below.refl _ _) hb) HE2.out
       clear h hb c0 c1 c2 c3 c4
       obtain ⟨c0, c1, c2, c3, c4⟩ := cells_5N HE3.out)
    | (have hq := HB1; clear hq; go_at_call 70; refine Calls.mono (must_ckB _ _) ?_; rintro e w2 ⟨⟨rfl, h⟩ | ⟨rfl, h⟩, hb⟩
       rotate_left
       · exact ⟨rfl, .inr ⟨rfl, by rw [HOK.out]; exact fun g => by have g1 := g.2.1; first | exact h rfl | exact h trivial | exact h.elim | exact g1.elim | exact h (by simpa using g1) | exact h (by simp_all)⟩, xtransN HB1.out hb⟩
       have H1 : Hid ((chs.length : Int) = 0) := (by show ((chs.length : Int) = 0); first | exact trivial | exact absurd h (by decide) | exact h.elim | simpa using h | simp_all)
       have HB2 : Hid (Below w.heap.size w w2) := xtransN HB1.out hb
       have HE2 : Hid (w2.heap[w.heap.size]? = some (.cells #[.int .i64 st, .int .i64 af, .bool true, .slice chsA chs.length chsC, .slice partsA parts.length partsC] 92 (0, 0))) := kept_block (below_of (Below.refl _ _) hb) HE1.out
       clear h hb c0 c1 c2 c3 c4
       obtain ⟨c0, c1, c2, c3, c4⟩ := cells_5N HE2.out)
    | (have hq := HB0; clear hq; go_at_call 105; refine Calls.mono (numbers_ck _ _ [st, af] _ (rowC_new _ [st, af] (show 2 ≤ maxLen by decide))) ?_; rintro e w1 ⟨⟨rfl, h⟩ | ⟨rfl, h⟩, hb⟩
       rotate_left
       · exact ⟨rfl, .inr ⟨rfl, by rw [HOK.out]; exact fun g => h (g.1)⟩, xtransN (ext_alloc HB0.out _) hb⟩
       have H0 : Hid (nums [st, af]) := h
       have HB1 : Hid (Below w.heap.size w w1) := xtransN (ext_alloc HB0.out _) hb
       have HE1 : Hid (w1.heap[w.heap.size]? = some (.cells #[.int .i64 st, .int .i64 af, .bool true, .slice chsA chs.length chsC, .slice partsA parts.length partsC] 92 (0, 0))) := kept_block (below_of (ext_alloc (Below.refl _ _) _) hb) HE0.out
       clear h hb c0 c1 c2 c3 c4
       obtain ⟨c0, c1, c2, c3, c4⟩ := cells_5N HE1.out)
    | fail)
  all_goals exact bodyPost_end (results_none rfl _ _ _) rfl ⟨.inl ⟨rfl, by rw [HOK.out]; exact ⟨H0.out, H1.out, H2.out⟩⟩, HB3.out⟩
set_option maxHeartbeats 3200000 in
theorem It_coreF (st : Int) (af : Int) (chsA : Option Addr) (chsC : Nat) (chs : List TgN) (partsA : Option Addr) (partsC : Nat) (parts : List PaN) (w : World) (hg : Ground w) (hA : ItN.At w ⟨st, af, false, chsA, chsC, chs, partsA, partsC, parts⟩) : Calls Tryz.prog 229 #[.agg #[.int .i64 st, .int .i64 af, .bool false, .slice chsA chs.length chsC, .slice partsA parts.length partsC]] w (CK (nums [st, af] ∧ (parts.length : Int) = 0 ∧ (((1 : Int) ≤ (chs.length : Int) ∧ (chs.length : Int) ≤ 64) ∧ ∀ x ∈ chs, TgN.Ok x)) w) := by
  obtain ⟨ok, hok⟩ : ∃ ok : Prop, (nums [st, af] ∧ (parts.length : Int) = 0 ∧ (((1 : Int) ≤ (chs.length : Int) ∧ (chs.length : Int) ≤ 64) ∧ ∀ x ∈ chs, TgN.Ok x) : Prop) = ok := ⟨_, rfl⟩
  have HOK : Hid (ok = (nums [st, af] ∧ (parts.length : Int) = 0 ∧ (((1 : Int) ≤ (chs.length : Int) ∧ (chs.length : Int) ≤ 64) ∧ ∀ x ∈ chs, TgN.Ok x))) := hok.symm
  rw [hok]
  clear hok
  have HG : Hid (Ground w) := hg
  clear hg
  have HA : Hid (ItN.At w ⟨st, af, false, chsA, chsC, chs, partsA, partsC, parts⟩) := hA
  clear hA
  obtain ⟨w0, hw0⟩ : ∃ w0, w.alloc (.cells #[.int .i64 st, .int .i64 af, .bool false, .slice chsA chs.length chsC, .slice partsA parts.length partsC] 92) = w0 := ⟨_, rfl⟩
  have HB0 : Hid (Below w.heap.size w w0) := by rw [← hw0]; exact (Below.refl _ _).alloc (Nat.le_refl _) _
  have HE0 : Hid (w0.heap[w.heap.size]? = some (.cells #[.int .i64 st, .int .i64 af, .bool false, .slice chsA chs.length chsC, .slice partsA parts.length partsC] 92 (0, 0))) := by show _ = _; rw [← hw0]; exact heap_alloc_new _ _
  have HW : Hid (w.alloc (.cells #[.int .i64 st, .int .i64 af, .bool false, .slice chsA chs.length chsC, .slice partsA parts.length partsC] 92) = w0) := hw0
  clear hw0
  go_enter Tryz.func229, Tryz.ntmps229
  go_upto_region 1 with fail
  rw [HW.out]
  obtain ⟨c0, c1, c2, c3, c4⟩ := cells_5N HE0.out
  go_wp2_with (first
    | (have hq := HB2; clear hq; go_at_call 273; refine Calls.mono (listTg 1 64 chsA chsC chs TgN.Ok _ (fun x hx W hb => Tg_ck x W (HG.out.below (below_of HB2.out hb)) ((HA.out.chsS x hx).below (below_of HB2.out hb))) (HA.out.chs.below HB2.out)) ?_; rintro e w3 ⟨⟨rfl, h⟩ | ⟨rfl, h⟩, hb⟩
       rotate_left
       · exact ⟨rfl, .inr ⟨rfl, by rw [HOK.out]; exact fun g => h (g.2.2)⟩, xtransN HB2.out hb⟩
       have H2 : Hid ((((1 : Int) ≤ (chs.length : Int) ∧ (chs.length : Int) ≤ 64) ∧ ∀ x ∈ chs, TgN.Ok x)) := h
       have HB3 : Hid (Below w.heap.size w w3) := xtransN HB2.out hb
       have HE3 : Hid (w3.heap[w.heap.size]? = some (.cells #[.int .i64 st, .int .i64 af, .bool false, .slice chsA chs.length chsC, .slice partsA parts.length partsC] 92 (0, 0))) := kept_block (below_of (Below.refl _ _) hb) HE2.out
       clear h hb c0 c1 c2 c3 c4
       obtain ⟨c0, c1, c2, c3, c4⟩ := cells_5N HE3.out)
    | (have hq := HB1; clear hq; go_at_call 70; refine Calls.mono (must_ckB _ _) ?_; rintro e w2 ⟨⟨rfl, h⟩ | ⟨rfl, h⟩, hb⟩
       rotate_left
       · exact ⟨rfl, .inr ⟨rfl, by rw [HOK.out]; exact fun g => by have g1 := g.2.1; first | exact h rfl | exact h trivial | exact h.elim | exact g1.elim | exact h (by simpa using g1) | exact h (by simp_all)⟩, xtransN HB1.out hb⟩
       have H1 : Hid ((parts.length : Int) = 0) := (by show ((parts.length : Int) = 0); first | exact trivial | exact absurd h (by decide) | exact h.elim | simpa using h | simp_all)
       have HB2 : Hid (Below w.heap.size w w2) := xtransN HB1.out hb
       have HE2 : Hid (w2.heap[w.heap.size]? = some (.cells #[.int .i64 st, .int .i64 af, .bool false, .slice chsA chs.length chsC, .slice partsA parts.length partsC] 92 (0, 0))) := kept_block (below_of (Below.refl _ _) hb) HE1.out
       clear h hb c0 c1 c2 c3 c4
       obtain ⟨c0, c1, c2, c3, c4⟩ := cells_5N HE2.out)
    | (have hq := HB0; clear hq; go_at_call 105; refine Calls.mono (numbers_ck _ _ [st, af] _ (rowC_new _ [st, af] (show 2 ≤ maxLen by decide))) ?_; rintro e w1 ⟨⟨rfl, h⟩ | ⟨rfl, h⟩, hb⟩
       rotate_left
       · exact ⟨rfl, .inr ⟨rfl, by rw [HOK.out]; exact fun g => h (g.1)⟩, xtransN (ext_alloc HB0.out _) hb⟩
       have H0 : Hid (nums [st, af]) := h
       have HB1 : Hid (Below w.heap.size w w1) := xtransN (ext_alloc HB0.out _) hb
       have HE1 : Hid (w1.heap[w.heap.size]? = some (.cells #[.int .i64 st, .int .i64 af, .bool false, .slice chsA chs.length chsC, .slice partsA parts.length partsC] 92 (0, 0))) := kept_block (below_of (ext_alloc (Below.refl _ _) _) hb) HE0.out
       clear h hb c0 c1 c2 c3 c4
       obtain ⟨c0, c1, c2, c3, c4⟩ := cells_5N HE1.out)
    | fail)
  all_goals exact bodyPost_end (results_none rfl _ _ _) rfl ⟨.inl ⟨rfl, by rw [HOK.out]; exact ⟨H0.out, H1.out, H2.out⟩⟩, HB3.out⟩
theorem It_ck (x : ItN) (w : World) (hg : Ground w) (hA : x.At w) : Calls Tryz.prog 229 #[x.val] w (CK x.Ok w) := by
  obtain ⟨st, af, m, chsA, chsC, chs, partsA, partsC, parts⟩ := x
  cases m with
  | true => exact (It_coreT st af chsA chsC chs partsA partsC parts w hg hA).mono fun e w' h => h.congr ⟨fun h => ⟨h.1, .inl ⟨rfl, h.2⟩⟩, fun h => ⟨h.1, (h.2.resolve_right (fun g => by cases g.1)).2⟩⟩
  | false => exact (It_coreF st af chsA chsC chs partsA partsC parts w hg hA).mono fun e w' h => h.congr ⟨fun h => ⟨h.1, .inr ⟨rfl, h.2⟩⟩, fun h => ⟨h.1, (h.2.resolve_left (fun g => by cases g.1)).2⟩⟩
end Go.Proofs.YtdjfeomdiljaeaaGreatDoor
