/-
  queue: copies of nodes.
-/
import Derived.Test.YtjcnigffpamcgaaGreatDoorQSet
namespace Go.Proofs.YtjcnigffpamcgaaGreatDoor
open Go.RowKit
set_option linter.unusedVariables false
set_option linter.unusedSimpArgs false

theorem Tryz.info_sn : (Tryz.prog.info? 124).map (fun i => (i.zero, i.size, i.bytes)) = some (some (.agg #[.string ⟨#[]⟩, .string ⟨#[]⟩, .int .i64 0]), 3, 40) := by kernel_rfl
set_option maxHeartbeats 3200000 in
set_option maxRecDepth 100000 in
theorem copiesS_any (v : Value) (l : List SeT) (w : World) (S : Nat → Prop) (h : SesAt w S v l) (hs : l.length * 40 ≤ MaxRow) (hsm : ∀ x ∈ l, x.Small) :
    Calls Tryz.prog 285 #[v, .func (.func 286) #[] #[]] w fun e w' => ∃ u, e = .returned u ∧ SesAt w' (fun b => w.heap.size ≤ b) u l ∧ Below w.heap.size w w' := by
  obtain ⟨a, c, rfl, hc, hnn, hr⟩ := h
  obtain ⟨n, hn⟩ : ∃ n, l.length = n := ⟨_, rfl⟩
  rw [hn] at hs hc ⊢
  by_cases h0 : n = 0
  · have hl : l = [] := List.eq_nil_of_length_eq_zero (by omega)
    have HL : Hid (l = []) := hl
    subst h0
    clear hr hl hn hsm
    go_enter Tryz.func285, Tryz.ntmps285
    go_wp2_with fail
    go_ret
    exact ⟨_, rfl, by rw [HL.out]; exact RowAt.nil _ _ _ _, Below.refl _ _⟩
  · obtain ⟨b, o, rfl, hS, hlt, hx⟩ : ∃ b o, a = some ⟨b, o, none⟩ ∧ S b ∧ b < w.heap.size ∧ ∀ i x, l[i]? = some x → seE w b (o + i * 3) x := by
      rcases hr with h | h
      · rw [h] at hn; simp at hn; omega
      · exact h
    obtain ⟨M, hM, hmk⟩ := make_any Tryz.underlying93 Tryz.info_sn n hs (by unfold MaxRow at *; omega)
    have hz : ((n : Int) == 0) = false := by simp; omega
    have HX : Hid (∀ i x, l[i]? = some x → seE w b (o + i * 3) x) := hx
    have HN : Hid (l.length = n) := hn
    have HM : Hid (M.size = n * 3) := hM
    have HSM : Hid (∀ x ∈ l, x.Small) := hsm
    have hn1 : n ≤ 140737488355328 := by unfold MaxRow at hs; omega
    clear hx hr hn hM hnn hsm
    go_enter Tryz.func285, Tryz.ntmps285
    go_wp2_with fail
    have HB1 : Hid (Below w.heap.size w (w.alloc (.cells M 124))) := (Below.refl _ _).alloc (Nat.le_refl _) _
    have HG1 : Hid ((w.alloc (.cells M 124)).heap[w.heap.size]? = some (.cells M 124 (0, 0))) := heap_alloc_new _ _
    clear hmk
    go_loopw [16] (fun i wr => ∃ q : Nat, i = .int .i64 q ∧ q ≤ n ∧ (∃ arr : Array Value, Hid (wr.heap[w.heap.size]? = some (.cells arr 124 (0, 0))) ∧ Hid (arr.size = n * 3)) ∧ Hid (∀ i x, i < q → l[i]? = some x → seE wr w.heap.size (i * 3) x) ∧ Hid (Below w.heap.size w wr)) (fun i _ => n - (intOf i).toNat)
    case atStart => exact ⟨0, rfl, Nat.zero_le _, ⟨M, HG1, HM⟩, fun i x hi => absurd hi (Nat.not_lt_zero _), HB1⟩
    case round =>
      obtain ⟨q, rfl, hq, ⟨arr, HG, HA⟩, HE, HB⟩ := hrel
      by_cases hlt' : q < n
      · have hqi : (q : Int) < (n : Int) := by omega
        obtain ⟨x, hx⟩ : ∃ x, l[q]? = some x := ⟨l[q]'(by rw [HN.out]; exact hlt'), List.getElem?_eq_getElem _⟩
        have hE0 := HX.out q x hx
        have c0 : wr.cell? ⟨b, o + q * 3, none⟩ = some (.string x.p) := by
          rw [HB.out.cell (p := ⟨b, o + q * 3, none⟩) hlt]
          exact hE0.p
        have c1 : wr.cell? ⟨b, o + q * 3 + 1, none⟩ = some (.string x.d) := by
          rw [HB.out.cell (p := ⟨b, o + q * 3 + 1, none⟩) hlt]
          exact hE0.d
        have c2 : wr.cell? ⟨b, o + q * 3 + 2, none⟩ = some (.int .i64 x.v) := by
          rw [HB.out.cell (p := ⟨b, o + q * 3 + 2, none⟩) hlt]
          exact hE0.v
        have f0 := free_of HG.out
        have HX1 : Hid ((wr.alloc (.cells #[.string x.p, .string x.d, .int .i64 x.v] 124)).heap[wr.heap.size]? = some (.cells #[.string x.p, .string x.d, .int .i64 x.v] 124 (0, 0))) := heap_alloc_new _ _
        obtain ⟨b0, b1, b2⟩ := cells_3 HX1.out
        have HK1 : Hid (Below wr.heap.size wr (wr.alloc (.cells #[.string x.p, .string x.d, .int .i64 x.v] 124))) := (Below.refl _ _).alloc (Nat.le_refl _) _
        have HB2 : Hid (Below w.heap.size w (wr.alloc (.cells #[.string x.p, .string x.d, .int .i64 x.v] 124))) := trans2 HB.out HK1.out
        clear hE0
        go_wp2_with fail
        refine Calls.mono (ownSeen_any x _ (HSM.out x (List.mem_of_getElem? hx))) ?_
        rintro e w2 ⟨rfl, hb2⟩
        have HK2 : Hid (Below wr.heap.size wr w2) := trans2 HK1.out hb2
        have HG2 : Hid (w2.heap[w.heap.size]? = some (.cells arr 124 (0, 0))) := kept_block HK2.out HG.out
        have HB3 : Hid (Below w.heap.size w w2) := trans2 HB2.out hb2
        have hsz : q * 3 + 3 ≤ arr.size := by rw [HA.out]; omega
        obtain ⟨y0, d0⟩ : ∃ y, w2.cell? ⟨w.heap.size, q * 3, none⟩ = some y := ⟨arr[q * 3]'(by omega), by rw [cell_of HG2.out]; exact Array.getElem?_eq_getElem _⟩
        obtain ⟨y1, d1⟩ : ∃ y, w2.cell? ⟨w.heap.size, q * 3 + 1, none⟩ = some y := ⟨arr[q * 3 + 1]'(by omega), by rw [cell_of HG2.out]; exact Array.getElem?_eq_getElem _⟩
        obtain ⟨y2, d2⟩ : ∃ y, w2.cell? ⟨w.heap.size, q * 3 + 2, none⟩ = some y := ⟨arr[q * 3 + 2]'(by omega), by rw [cell_of HG2.out]; exact Array.getElem?_eq_getElem _⟩
        have f2 := free_of HG2.out
        clear hb2 HK1 c0 c1 c2 b0 b1 b2 f0
        go_wp2_with fail
        go_roundw
        case rel =>
          obtain ⟨arr', hg', hs', e0, e1, e2, hoth⟩ := at_s3 (x0 := .string x.p) (x1 := .string x.d) (x2 := .int .i64 x.v) HG2.out hsz
          have HC' : Chg w2 _ (fun b => b = w.heap.size) := chg_s3 w2 w.heap.size (q * 3) (.string x.p) (.string x.d) (.int .i64 x.v)
          refine ⟨q + 1, by go_num, by omega, ⟨arr', hg', by show _ = _; rw [hs', HA.out]⟩, ?_, HB3.out.trans (HC'.below HB3.out.size (fun b _ e => by omega))⟩
          intro i z hi hzi
          by_cases he : i = q
          · subst he
            rw [hx] at hzi
            cases hzi
            exact ⟨by rw [cell_of hg']; exact e0, by rw [cell_of hg']; exact e1, by rw [cell_of hg']; exact e2⟩
          · have h0 := HE.out i z (by omega) hzi
            have hcc : ∀ j v, wr.cell? ⟨w.heap.size, j, none⟩ = some v → i * 3 ≤ j → j < i * 3 + 3 → (set_3 w2 w.heap.size (q * 3) (.string x.p) (.string x.d) (.int .i64 x.v)).cell? ⟨w.heap.size, j, none⟩ = some v := fun j v hj h1 h2 => by
              rw [cell_of HG.out] at hj
              rw [cell_of hg', hoth j (by omega)]
              exact hj
            exact ⟨hcc _ _ h0.p (by omega) (by omega), hcc _ _ h0.d (by omega) (by omega), hcc _ _ h0.v (by omega) (by omega)⟩
        case measure => simp [intOf]; omega
      · obtain rfl : q = n := by omega
        go_wp2_with fail
        go_ret
        refine ⟨.slice (some ⟨w.heap.size, 0, none⟩) q q, rfl, ⟨some ⟨w.heap.size, 0, none⟩, q, by rw [HN.out], by rw [HN.out]; exact Nat.le_refl _, (fun e => by cases e), .inr ⟨w.heap.size, 0, rfl, Nat.le_refl _, lt_of_blk HG.out, fun i x hi => ?_⟩⟩, HB.out⟩
        have h1 := HE.out i x (by rw [← HN.out]; exact (List.getElem?_eq_some_iff.1 hi).1) hi
        rw [Nat.zero_add]
        exact h1
end Go.Proofs.YtjcnigffpamcgaaGreatDoor
