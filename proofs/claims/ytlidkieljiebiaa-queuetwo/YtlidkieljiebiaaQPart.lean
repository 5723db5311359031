import Derived.Test.YtlidkieljiebiaaQSet
namespace Go.Proofs.Ytlidkieljiebiaa
open Go.RowKit
set_option linter.unusedVariables false
set_option linter.unusedSimpArgs false

theorem Try.info_sn : (Try.prog.info? 119).map (fun i => (i.zero, i.size, i.bytes)) = some (some (.agg #[.string ⟨#[]⟩, .string ⟨#[]⟩, .int .i64 0]), 3, 40) := by kernel_rfl
set_option maxHeartbeats 3200000 in
set_option maxRecDepth 100000 in
theorem copiesS_any (v : Value) (l : List SeT) (w : World) (S : Nat → Prop) (h : SesAt w S v l) (hs : l.length * 40 ≤ MaxRow) (hsm : ∀ x ∈ l, x.Small) :
    Calls Try.prog 65 #[v, .func (.func 66) #[] #[]] w fun e w' => ∃ u, e = .returned u ∧ SesAt w' (fun b => w.heap.size ≤ b) u l ∧ Below w.heap.size w w' := by
  obtain ⟨a, c, rfl, hc, hnn, hr⟩ := h
  obtain ⟨n, hn⟩ : ∃ n, l.length = n := ⟨_, rfl⟩
  rw [hn] at hs hc ⊢
  by_cases h0 : n = 0
  · have hl : l = [] := List.eq_nil_of_length_eq_zero (by omega)
    have HL : Hid (l = []) := hl
    subst h0
    clear hr hl hn hsm
    go_enter Try.func65, Try.ntmps65
    go_wp2_with fail
    go_ret
    exact ⟨_, rfl, by rw [HL.out]; exact RowAt.nil _ _ _ _, Below.refl _ _⟩
  · obtain ⟨b, o, rfl, hS, hlt, hx⟩ : ∃ b o, a = some ⟨b, o, none⟩ ∧ S b ∧ b < w.heap.size ∧ ∀ i x, l[i]? = some x → seE w b (o + i * 3) x := by
      rcases hr with h | h
      · rw [h] at hn; simp at hn; omega
      · exact h
    obtain ⟨M, hM, hmk⟩ := make_any Try.underlying92 Try.info_sn n hs (by unfold MaxRow at *; omega)
    have hz : ((n : Int) == 0) = false := by simp; omega
    have HX : Hid (∀ i x, l[i]? = some x → seE w b (o + i * 3) x) := hx
    have HN : Hid (l.length = n) := hn
    have HM : Hid (M.size = n * 3) := hM
    have HSM : Hid (∀ x ∈ l, x.Small) := hsm
    have hn1 : n ≤ 140737488355328 := by unfold MaxRow at hs; omega
    clear hx hr hn hM hnn hsm
    go_enter Try.func65, Try.ntmps65
    go_wp2_with fail
    have HB1 : Hid (Below w.heap.size w (w.alloc (.cells M 119))) := (Below.refl _ _).alloc (Nat.le_refl _) _
    have HG1 : Hid ((w.alloc (.cells M 119)).heap[w.heap.size]? = some (.cells M 119 (0, 0))) := heap_alloc_new _ _
    clear hmk
    go_loopw [16] (fun i wr => ∃ q : Nat, i = .int .i64 q ∧ q ≤ n ∧ (∃ arr : Array Value, Hid (wr.heap[w.heap.size]? = some (.cells arr 119 (0, 0))) ∧ Hid (arr.size = n * 3)) ∧ Hid (∀ i x, i < q → l[i]? = some x → seE wr w.heap.size (i * 3) x) ∧ Hid (Below w.heap.size w wr)) (fun i _ => n - (intOf i).toNat)
    case atStart => exact ⟨0, rfl, Nat.zero_le _, ⟨M, HG1, HM⟩, fun i x hi => absurd hi (Nat.not_lt_zero _), HB1⟩
    case round =>
      obtain ⟨q, rfl, hq, ⟨arr, HG, HA⟩, HE, HB⟩ := hrel
      by_cases hlt' : q < n
      · have hqi : (q : Int) < (n : Int) := by omega
        obtain ⟨x, hx⟩ : ∃ x, l[q]? = some x := ⟨l[q]'(by rw [HN.out]; exact hlt'), List.getElem?_eq_getElem _⟩
        have hE0 := HX.out q x hx
        have c0 : wr.cell? ⟨b, o + q * 3, none⟩ = some (.string x.p) := by
          rw [HB.out.cell (p := ⟨b, o + q * 3, none⟩) hlt]
          exact hE0.p
        have c1 : wr.cell? ⟨b, o + q * 3 + 1, none⟩ = some (.string x.d) := by
          rw [HB.out.cell (p := ⟨b, o + q * 3 + 1, none⟩) hlt]
          exact hE0.d
        have c2 : wr.cell? ⟨b, o + q * 3 + 2, none⟩ = some (.int .i64 x.v) := by
          rw [HB.out.cell (p := ⟨b, o + q * 3 + 2, none⟩) hlt]
          exact hE0.v
        have f0 := free_of HG.out
        have HX1 : Hid ((wr.alloc (.cells #[.string x.p, .string x.d, .int .i64 x.v] 119)).heap[wr.heap.size]? = some (.cells #[.string x.p, .string x.d, .int .i64 x.v] 119 (0, 0))) := heap_alloc_new _ _
        obtain ⟨b0, b1, b2⟩ := cells_3 HX1.out
        have HK1 : Hid (Below wr.heap.size wr (wr.alloc (.cells #[.string x.p, .string x.d, .int .i64 x.v] 119))) := (Below.refl _ _).alloc (Nat.le_refl _) _
        have HB2 : Hid (Below w.heap.size w (wr.alloc (.cells #[.string x.p, .string x.d, .int .i64 x.v] 119))) := trans2 HB.out HK1.out
        clear hE0
        go_wp2_with fail
        refine Calls.mono (ownSeen_any x _ (HSM.out x (List.mem_of_getElem? hx))) ?_
        rintro e w2 ⟨rfl, hb2⟩
        have HK2 : Hid (Below wr.heap.size wr w2) := trans2 HK1.out hb2
        have HG2 : Hid (w2.heap[w.heap.size]? = some (.cells arr 119 (0, 0))) := kept_block HK2.out HG.out
        have HB3 : Hid (Below w.heap.size w w2) := trans2 HB2.out hb2
        have hsz : q * 3 + 3 ≤ arr.size := by rw [HA.out]; omega
        obtain ⟨y0, d0⟩ : ∃ y, w2.cell? ⟨w.heap.size, q * 3, none⟩ = some y := ⟨arr[q * 3]'(by omega), by rw [cell_of HG2.out]; exact Array.getElem?_eq_getElem _⟩
        obtain ⟨y1, d1⟩ : ∃ y, w2.cell? ⟨w.heap.size, q * 3 + 1, none⟩ = some y := ⟨arr[q * 3 + 1]'(by omega), by rw [cell_of HG2.out]; exact Array.getElem?_eq_getElem _⟩
        obtain ⟨y2, d2⟩ : ∃ y, w2.cell? ⟨w.heap.size, q * 3 + 2, none⟩ = some y := ⟨arr[q * 3 + 2]'(by omega), by rw [cell_of HG2.out]; exact Array.getElem?_eq_getElem _⟩
        have f2 := free_of HG2.out
        clear hb2 HK1 c0 c1 c2 b0 b1 b2 f0
        go_wp2_with fail
        go_roundw
        case rel =>
          obtain ⟨arr', hg', hs', e0, e1, e2, hoth⟩ := at_s3 (x0 := .string x.p) (x1 := .string x.d) (x2 := .int .i64 x.v) HG2.out hsz
          have HC' : Chg w2 _ (fun b => b = w.heap.size) := chg_s3 w2 w.heap.size (q * 3) (.string x.p) (.string x.d) (.int .i64 x.v)
          refine ⟨q + 1, by go_num, by omega, ⟨arr', hg', by show _ = _; rw [hs', HA.out]⟩, ?_, HB3.out.trans (HC'.below HB3.out.size (fun b _ e => by omega))⟩
          intro i z hi hzi
          by_cases he : i = q
          · subst he
            rw [hx] at hzi
            cases hzi
            exact ⟨by rw [cell_of hg']; exact e0, by rw [cell_of hg']; exact e1, by rw [cell_of hg']; exact e2⟩
          · have h0 := HE.out i z (by omega) hzi
            have hcc : ∀ j v, wr.cell? ⟨w.heap.size, j, none⟩ = some v → i * 3 ≤ j → j < i * 3 + 3 → (set_3 w2 w.heap.size (q * 3) (.string x.p) (.string x.d) (.int .i64 x.v)).cell? ⟨w.heap.size, j, none⟩ = some v := fun j v hj h1 h2 => by
              rw [cell_of HG.out] at hj
              rw [cell_of hg', hoth j (by omega)]
              exact hj
            exact ⟨hcc _ _ h0.p (by omega) (by omega), hcc _ _ h0.d (by omega) (by omega), hcc _ _ h0.v (by omega) (by omega)⟩
        case measure => simp [intOf]; omega
      · obtain rfl : q = n := by omega
        go_wp2_with fail
        go_ret
        refine ⟨.slice (some ⟨w.heap.size, 0, none⟩) q q, rfl, ⟨some ⟨w.heap.size, 0, none⟩, q, by rw [HN.out], by rw [HN.out]; exact Nat.le_refl _, (fun e => by cases e), .inr ⟨w.heap.size, 0, rfl, Nat.le_refl _, lt_of_blk HG.out, fun i x hi => ?_⟩⟩, HB.out⟩
        have h1 := HE.out i x (by rw [← HN.out]; exact (List.getElem?_eq_some_iff.1 hi).1) hi
        rw [Nat.zero_add]
        exact h1
end Go.Proofs.Ytlidkieljiebiaa
namespace Go.Proofs.Ytlidkieljiebiaa
open Go.RowKit
set_option linter.unusedVariables false
set_option linter.unusedSimpArgs false

set_option maxHeartbeats 3200000 in
set_option maxRecDepth 100000 in
theorem ownPart_any (t : PaT) (u : Value) (w : World) (S : Nat → Prop) (h : SesAt w S u t.nodes) (hs : t.Small) :
    Calls Try.prog 40 #[.agg #[.int .i64 t.id, .int .i64 t.st, .string t.p, .int .i64 t.k, u]] w fun e w' => ∃ u', e = .returned (.agg #[.int .i64 t.id, .int .i64 t.st, .string t.p, .int .i64 t.k, u']) ∧ SesAt w' (fun b => w.heap.size ≤ b) u' t.nodes ∧ Below w.heap.size w w' := by
  obtain ⟨id, st, p, k, nodes⟩ := t
  have HP : Hid (∀ w, Calls Try.prog 62 #[.string p] w fun e w' => e = .returned (.string p) ∧ Below w.heap.size w w') := fun w => clone_any p w hs.p
  have HL : Hid (∀ w', Below w.heap.size w w' → Calls Try.prog 65 #[u, .func (.func 66) #[] #[]] w' fun e w'' => ∃ u', e = .returned u' ∧ SesAt w'' (fun b => w'.heap.size ≤ b) u' nodes ∧ Below w'.heap.size w' w'') := fun w' hb => copiesS_any u nodes w' S (h.keep (Kp.of_below hb S)) hs.len hs.each
  have HA0 : Hid (((w.alloc (.cells #[.int .i64 id, .int .i64 st, .string p, .int .i64 k, u] 96)).alloc (.cells #[.int .i64 0, .int .i64 0, .string ⟨#[]⟩, .int .i64 0, .slice none 0 0] 96)).heap[w.heap.size]? = some (.cells #[.int .i64 id, .int .i64 st, .string p, .int .i64 k, u] 96 (0, 0))) := new_old (heap_alloc_new _ _) _
  have HR0 : Hid (((w.alloc (.cells #[.int .i64 id, .int .i64 st, .string p, .int .i64 k, u] 96)).alloc (.cells #[.int .i64 0, .int .i64 0, .string ⟨#[]⟩, .int .i64 0, .slice none 0 0] 96)).heap[w.heap.size + 1]? = some (.cells #[.int .i64 0, .int .i64 0, .string ⟨#[]⟩, .int .i64 0, .slice none 0 0] 96 (0, 0))) := heap_new' (by simp)
  have HB0 : Hid (Below w.heap.size w ((w.alloc (.cells #[.int .i64 id, .int .i64 st, .string p, .int .i64 k, u] 96)).alloc (.cells #[.int .i64 0, .int .i64 0, .string ⟨#[]⟩, .int .i64 0, .slice none 0 0] 96))) := ((Below.refl _ _).alloc (Nat.le_refl _) _).alloc (by simp) _
  clear hs h
  obtain ⟨a0, a1, a2, a3, a4⟩ := cells_5 HA0.out
  go_enter Try.func40, Try.ntmps40
  go_wp2_with fail
  refine (HP.out _).mono ?_
  rintro e w1 ⟨rfl, hb1⟩
  have HA1 : Hid _ := kept_block hb1 HA0.out
  have HR1 : Hid _ := kept_block hb1 HR0.out
  have HB1 : Hid (Below w.heap.size w w1) := trans2 HB0.out hb1
  clear hb1 a0 a1 a2 a3 a4
  obtain ⟨a0, a1, a2, a3, a4⟩ := cells_5 HA1.out
  have f1 := free_of HA1.out
  have hs1 := setCell_self HA1.out a2
  go_wp2_with fail
  refine Calls.mono (HL.out _ HB1.out) ?_
  rintro e w2 ⟨u', rfl, hu, hb2⟩
  obtain ⟨ua, uc, rfl, huc⟩ := _root_.id hu
  have HU : Hid (SesAt w2 (fun b => w.heap.size ≤ b ∧ b ≠ w.heap.size ∧ b ≠ w.heap.size + 1) (.slice ua nodes.length uc) nodes) := hu.mono (fun b _ hb => by
    have := lt_of_blk HR1.out
    exact ⟨by omega, by omega, by omega⟩)
  have HA2 : Hid _ := kept_block hb2 HA1.out
  have HR2 : Hid _ := kept_block hb2 HR1.out
  have HB2 : Hid (Below w.heap.size w w2) := trans2 HB1.out hb2
  clear hb2 a0 a1 a2 a3 a4 f1 hs1 hu huc
  obtain ⟨a0, a1, a2, a3, a4⟩ := cells_5 HA2.out
  have f1 := free_of HA2.out
  have HA' : Hid _ := same_blk (i := 4) (v := (.slice ua nodes.length uc)) (cs' := #[.int .i64 id, .int .i64 st, .string p, .int .i64 k, (.slice ua nodes.length uc)]) HA2.out rfl
  have HR' : Hid ((w2.setCell ⟨w.heap.size, 4, none⟩ (.slice ua nodes.length uc)).heap[w.heap.size + 1]? = _) := other_blk HR2.out (by omega)
  obtain ⟨b0, b1, b2, b3, b4⟩ := cells_5 HA'.out
  obtain ⟨r0, r1, r2, r3, r4⟩ := cells_5 HR'.out
  have f2 := free_of HR'.out
  go_wp2_with fail
  refine bodyPost_ret (results_cell_row rfl _ _ (w.heap.size + 1) 96 _ (0, 0) _ rfl (fill_5 HR'.out) Try.underlying96 rfl (by kernel_rfl)) rfl ⟨(.slice ua nodes.length uc), rfl, ?_, fillB_5 (HB2.out.setCell (Nat.le_refl _) _) (by omega)⟩
  exact SesAt.mono (SesAt.keep HU.out (Kp.of_chg (chg_put5 _ _ _ _ _ _ _ _ _) (fun b _ hb e => by
    rcases e with e | e
    · exact hb.2.1 e
    · exact hb.2.2 e))) (fun b _ hb => hb.1)
end Go.Proofs.Ytlidkieljiebiaa
