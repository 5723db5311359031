/-
  line: Look and Take.
-/
import Derived.Test.YtfcobhgjkibdgaaLTnd
namespace Go.Proofs.Ytfcobhgjkibdgaa
open Go.RowKit Go.Maps
set_option linter.unusedVariables false
set_option linter.unusedSimpArgs false

set_option maxHeartbeats 3200000 in
set_option maxRecDepth 100000 in
theorem lookL_at (w : World) (K : Nat → Prop) (L : LnT) (p : Value) (n : Int) (h : AtL w K L p) (hok : L.Ok) (hn : (Lit.int .i64 n).wf = true) :
    Calls Try.prog 14 #[p, .int .i64 n] w fun e w' => e = .returned (.tuple #[(lookM L.fl n).1.val, .int .i64 (lookM L.fl n).2]) ∧ Below w.heap.size w w' := by
  obtain ⟨g, hg⟩ : ∃ g, w.heap.size = g := ⟨_, rfl⟩
  obtain ⟨W, hW⟩ : ∃ z, w.alloc (.cells #[.int .i64 0, .int .i64 0, .string ⟨#[]⟩] 23) = z := ⟨_, rfl⟩
  have hbW : Below w.heap.size w W := by rw [← hW]; exact (Below.refl _ _).alloc (Nat.le_refl _) _
  have HX : Hid (W.heap[g]? = some (.cells #[.int .i64 0, .int .i64 0, .string ⟨#[]⟩] 23 (0, 0))) := by show _ = _; rw [← hW, ← hg]; exact heap_alloc_new _ _
  have HW : Hid (_ = W) := hW
  have HBW : Hid (Below w.heap.size w W) := hbW
  have HG : Hid (w.heap.size = g) := hg
  have HF : Hid _ := find_at W K L p n (h.keep (Kp.of_below hbW _)) hn
  cases hf : fnd L.fl n with
  | none =>
    have e : fndV L n = (pZ, 160) := by unfold fndV; rw [hf]
    have e2 : lookM L.fl n = (msZ, 160) := by unfold lookM; rw [hf]
    rw [e] at HF
    rw [e2]
    unfold pZ at HF
    unfold msZ
    clear hf e e2 h hok hn hW hbW hg
    go_enter Try.func14, Try.ntmps14
    go_upto_region 1 with fail
    rw [HW.out, HG.out]
    go_wp2_with fail
    refine Calls.mono HF.out ?_
    rintro e w1 ⟨rfl, hb1⟩
    obtain ⟨W2, hW2⟩ : ∃ z, w1.alloc (.cells #[.int .i64 0, .int .i64 0, .string ⟨#[]⟩, .bool false] 71) = z := ⟨_, rfl⟩
    have hb2 : Below w1.heap.size w1 W2 := by rw [← hW2]; exact (Below.refl _ _).alloc (Nat.le_refl _) _
    have HW2 : Hid (_ = W2) := hW2
    obtain ⟨g6, hg6⟩ : ∃ z, w1.heap.size = z := ⟨_, rfl⟩
    have HG6 : Hid (w1.heap.size = g6) := hg6
    have HX6 : Hid (W2.heap[g6]? = some (.cells #[.int .i64 0, .int .i64 0, .string ⟨#[]⟩, .bool false] 71 (0, 0))) := by show _ = _; rw [← hW2, ← hg6]; exact heap_alloc_new _ _
    have HX2 : Hid (W2.heap[g]? = some (.cells #[.int .i64 0, .int .i64 0, .string ⟨#[]⟩] 23 (0, 0))) := kept_block (trans2 hb1 hb2) HX.out
    have HB2 : Hid (Below w.heap.size w W2) := trans2 HBW.out (trans2 hb1 hb2)
    clear hb1 hb2 hW2 hg6
    go_upto_region 2 with fail
    rw [HW2.out, HG6.out]
    obtain ⟨y0, y1, y2, y3⟩ := cells_4 HX6.out
    obtain ⟨r0, r1, r2⟩ := cells_3 HX2.out
    have fx := free_of HX2.out
    go_wp2_with fail
    exact bodyPost_ret (results_cell_tmp rfl _ _ g 23 _ (0, 0) _ _ rfl rfl (fill_3 HX2.out) Try.underlying23 rfl (by kernel_rfl)) rfl ⟨rfl, fillB_3 HB2.out (Nat.le_of_eq HG.out)⟩
  | some q =>
    have e : fndV L n = (pV q, 0) := by unfold fndV; rw [hf]
    have e2 : lookM L.fl n = (q.m, 0) := by unfold lookM; rw [hf]
    have HOWN : Hid (∀ w, Calls Try.prog 32 #[q.m.val] w fun e w' => e = .returned q.m.val ∧ Below w.heap.size w w') := fun w => own_any q.m w (Nat.le_trans (hok.small q (fnd_mem hf).1) (by decide))
    rw [e] at HF
    rw [e2]
    unfold pV at HF
    obtain ⟨qn, ⟨f, t, d⟩, s⟩ := q
    simp only at HF HOWN
    clear hf e e2 h hok hn hW hbW hg
    go_enter Try.func14, Try.ntmps14
    go_upto_region 1 with fail
    rw [HW.out, HG.out]
    go_wp2_with fail
    refine Calls.mono HF.out ?_
    rintro e w1 ⟨rfl, hb1⟩
    obtain ⟨W2, hW2⟩ : ∃ z, w1.alloc (.cells #[.int .i64 f, .int .i64 t, .string d, .bool s] 71) = z := ⟨_, rfl⟩
    have hb2 : Below w1.heap.size w1 W2 := by rw [← hW2]; exact (Below.refl _ _).alloc (Nat.le_refl _) _
    have HW2 : Hid (_ = W2) := hW2
    obtain ⟨g6, hg6⟩ : ∃ z, w1.heap.size = z := ⟨_, rfl⟩
    have HG6 : Hid (w1.heap.size = g6) := hg6
    have HX6 : Hid (W2.heap[g6]? = some (.cells #[.int .i64 f, .int .i64 t, .string d, .bool s] 71 (0, 0))) := by show _ = _; rw [← hW2, ← hg6]; exact heap_alloc_new _ _
    have HX2 : Hid (W2.heap[g]? = some (.cells #[.int .i64 0, .int .i64 0, .string ⟨#[]⟩] 23 (0, 0))) := kept_block (trans2 hb1 hb2) HX.out
    have HB2 : Hid (Below w.heap.size w W2) := trans2 HBW.out (trans2 hb1 hb2)
    clear hb1 hb2 hW2 hg6
    go_upto_region 2 with fail
    rw [HW2.out, HG6.out]
    obtain ⟨y0, y1, y2, y3⟩ := cells_4 HX6.out
    go_wp2_with fail
    refine Calls.mono (HOWN.out _) ?_
    rintro e w3 ⟨rfl, hb3⟩
    have HX3 : Hid (w3.heap[g]? = some (.cells #[.int .i64 0, .int .i64 0, .string ⟨#[]⟩] 23 (0, 0))) := kept_block hb3 HX2.out
    have HB3 : Hid (Below w.heap.size w w3) := trans2 HB2.out hb3
    clear hb3 y0 y1 y2 y3
    obtain ⟨r0, r1, r2⟩ := cells_3 HX3.out
    have fx := free_of HX3.out
    go_wp2_with fail
    exact bodyPost_ret (results_cell_tmp rfl _ _ g 23 _ (0, 0) _ _ rfl rfl (fill_3 HX3.out) Try.underlying23 rfl (by kernel_rfl)) rfl ⟨rfl, fillB_3 HB3.out (Nat.le_of_eq HG.out)⟩
set_option maxHeartbeats 3200000 in
set_option maxRecDepth 100000 in
theorem takeL_at (w : World) (K : Nat → Prop) (L : LnT) (p : Value) (n : Int) (h : AtL w K L p) (hok : L.Ok) (hn : (Lit.int .i64 n).wf = true) :
    Calls Try.prog 33 #[p, .int .i64 n] w fun e w' => ∃ K', e = .returned (.tuple #[(L.tak n).2.1.val, .int .i64 (L.tak n).2.2]) ∧ LnE AtL w K (L.tak n).1 p w' K' := by
  obtain ⟨g, hg⟩ : ∃ g, w.heap.size = g := ⟨_, rfl⟩
  obtain ⟨W, hW⟩ : ∃ z, w.alloc (.cells #[.int .i64 0, .int .i64 0, .string ⟨#[]⟩] 23) = z := ⟨_, rfl⟩
  have hbW : Below w.heap.size w W := by rw [← hW]; exact (Below.refl _ _).alloc (Nat.le_refl _) _
  have HX : Hid (W.heap[g]? = some (.cells #[.int .i64 0, .int .i64 0, .string ⟨#[]⟩] 23 (0, 0))) := by show _ = _; rw [← hW, ← hg]; exact heap_alloc_new _ _
  have HW : Hid (_ = W) := hW
  have HBW : Hid (Below w.heap.size w W) := hbW
  have HG : Hid (w.heap.size = g) := hg
  have HF : Hid _ := lookL_at W K L p n (h.keep (Kp.of_below hbW _)) hok hn
  have HAT : Hid (AtL w K L p) := h
  cases hf : fnd L.fl n with
  | none =>
    have e : L.tak n = (L, msZ, 160) := by unfold LnT.tak; rw [hf]
    have e2 : lookM L.fl n = (msZ, 160) := by unfold lookM; rw [hf]
    rw [e2] at HF
    rw [e]
    unfold msZ at HF ⊢
    clear hf e e2 h hok hn hW hbW hg
    go_enter Try.func33, Try.ntmps33
    go_upto_region 1 with fail
    rw [HW.out, HG.out]
    go_wp2_with fail
    refine Calls.mono HF.out ?_
    rintro e w1 ⟨rfl, hb1⟩
    obtain ⟨W2, hW2⟩ : ∃ z, w1.alloc (.cells #[.int .i64 0, .int .i64 0, .string ⟨#[]⟩] 23) = z := ⟨_, rfl⟩
    have hb2 : Below w1.heap.size w1 W2 := by rw [← hW2]; exact (Below.refl _ _).alloc (Nat.le_refl _) _
    have HW2 : Hid (_ = W2) := hW2
    obtain ⟨g6, hg6⟩ : ∃ z, w1.heap.size = z := ⟨_, rfl⟩
    have HG6 : Hid (w1.heap.size = g6) := hg6
    have HX6 : Hid (W2.heap[g6]? = some (.cells #[.int .i64 0, .int .i64 0, .string ⟨#[]⟩] 23 (0, 0))) := by show _ = _; rw [← hW2, ← hg6]; exact heap_alloc_new _ _
    have HX2 : Hid (W2.heap[g]? = some (.cells #[.int .i64 0, .int .i64 0, .string ⟨#[]⟩] 23 (0, 0))) := kept_block (trans2 hb1 hb2) HX.out
    have HB2 : Hid (Below w.heap.size w W2) := trans2 HBW.out (trans2 hb1 hb2)
    have HGG : Hid (g < g6) := by show g < g6; rw [← hg6]; exact Nat.lt_of_lt_of_le (lt_of_blk HX.out) hb1.size
    clear hb1 hb2 hW2 hg6
    go_upto_region 2 with fail
    rw [HW2.out, HG6.out]
    obtain ⟨y0, y1, y2⟩ := cells_3 HX6.out
    obtain ⟨r0, r1, r2⟩ := cells_3 HX2.out
    have fx := free_of HX2.out
    go_wp2_with fail
    exact bodyPost_ret (results_cell_tmp rfl _ _ g 23 _ (0, 0) _ _ rfl rfl (fill_3 HX2.out) Try.underlying23 rfl (by kernel_rfl)) rfl ⟨K, rfl, HAT.out.below (fillB_3 HB2.out (Nat.le_of_eq HG.out))⟩
  | some q =>
    have e : L.tak n = (⟨L.fl.filter (fun q => !((q.n : Int) == n)), L.gv, false⟩, q.m, 0) := by unfold LnT.tak; rw [hf]
    have e2 : lookM L.fl n = (q.m, 0) := by unfold lookM; rw [hf]
    rw [e2] at HF
    rw [e]
    have HRISE : Hid (L.fl.Pairwise (fun a b => a.n < b.n)) := hok.rise
    have HFN : Hid (fnd L.fl n = some q) := hf
    have HWF : Hid ((Lit.int .i64 n).wf = true) := hn
    rcases h with ⟨rfl, rfl, hK⟩ | ⟨b, mo, Km, rfl, hno, hb, hF, hK⟩
    · cases hf
    obtain ⟨mb, rfl⟩ : ∃ mb, mo = some mb := by
      rcases hF with ⟨_, h, _⟩ | ⟨mb, D, h, _⟩
      · rw [h] at hf; cases hf
      · cases h; exact ⟨_, rfl⟩
    have HBX : Hid (w.heap[b]? = some (.cells #[.map (some mb), .int .i64 L.gv] 64 (0, 0))) := hb
    have HFM : Hid (FlM w Km (.map (some mb)) L.fl pV) := hF
    have HKB : Hid (¬ Km b) := fun h => FlM.sort hF b _ _ h hb
    have HKL : Hid (∀ j, Km j → j < g) := by rw [← hg]; exact FlM.lt hF
    have HBG : Hid (b < g) := by show b < g; rw [← hg]; exact lt_of_blk hb
    have HK : Hid (∀ j, K j ↔ (j = b ∨ Km j)) := hK
    obtain ⟨qn, ⟨f, t, d⟩, s⟩ := q
    simp only at HF
    clear hf e e2 hok hn hW hbW hg hb hF hK hno
    go_enter Try.func33, Try.ntmps33
    go_upto_region 1 with fail
    rw [HW.out, HG.out]
    go_wp2_with fail
    refine Calls.mono HF.out ?_
    rintro e w1 ⟨rfl, hb1⟩
    obtain ⟨W2, hW2⟩ : ∃ z, w1.alloc (.cells #[.int .i64 f, .int .i64 t, .string d] 23) = z := ⟨_, rfl⟩
    have hb2 : Below w1.heap.size w1 W2 := by rw [← hW2]; exact (Below.refl _ _).alloc (Nat.le_refl _) _
    have HW2 : Hid (_ = W2) := hW2
    obtain ⟨g6, hg6⟩ : ∃ z, w1.heap.size = z := ⟨_, rfl⟩
    have HG6 : Hid (w1.heap.size = g6) := hg6
    have HX6 : Hid (W2.heap[g6]? = some (.cells #[.int .i64 f, .int .i64 t, .string d] 23 (0, 0))) := by show _ = _; rw [← hW2, ← hg6]; exact heap_alloc_new _ _
    have HX2 : Hid (W2.heap[g]? = some (.cells #[.int .i64 0, .int .i64 0, .string ⟨#[]⟩] 23 (0, 0))) := kept_block (trans2 hb1 hb2) HX.out
    have HB2 : Hid (Below w.heap.size w W2) := trans2 HBW.out (trans2 hb1 hb2)
    have HGG : Hid (g < g6) := by show g < g6; rw [← hg6]; exact Nat.lt_of_lt_of_le (lt_of_blk HX.out) hb1.size
    clear hb1 hb2 hW2 hg6
    go_upto_region 2 with fail
    rw [HW2.out, HG6.out]
    have HBX2 : Hid (W2.heap[b]? = some (.cells #[.map (some mb), .int .i64 L.gv] 64 (0, 0))) := kept_block HB2.out HBX.out
    obtain ⟨W3, hdel, hF3, hc3⟩ := FlM.drop (w := W2) (tM := 62) Try.underlying62 (FlM.keep HFM.out (Kp.of_below HB2.out _)) HRISE.out HFN.out HWF.out 0
    have HKN : Hid (∀ j, Km j → j < g) := HKL
    have HX3 : Hid (W3.heap[g]? = some (.cells #[.int .i64 0, .int .i64 0, .string ⟨#[]⟩] 23 (0, 0))) := (hc3.block g (lt_of_blk HX2.out) (fun e => by have := HKN.out g e; omega)).trans HX2.out
    have HX63 : Hid (W3.heap[g6]? = some (.cells #[.int .i64 f, .int .i64 t, .string d] 23 (0, 0))) := (hc3.block g6 (lt_of_blk HX6.out) (fun e => by have := HKN.out g6 e; have := HGG.out; omega)).trans HX6.out
    have HBX3 : Hid (W3.heap[b]? = some (.cells #[.map (some mb), .int .i64 L.gv] 64 (0, 0))) := (hc3.block b (lt_of_blk HBX2.out) HKB.out).trans HBX2.out
    have HC3 : Hid (Chg w W3 (fun j => j = b ∨ Km j)) := (Chg.of_below HB2.out _).trans (hc3.mono (fun j _ e => .inr e))
    have HF3 : Hid (FlM W3 Km (.map (some mb)) (L.fl.filter (fun q => !((q.n : Int) == n))) pV) := hF3
    clear hF3 hc3
    obtain ⟨q0, q1⟩ := cells_2 HBX2.out
    go_upto_region 4 with fail
    clear q0 q1 hdel
    obtain ⟨y0, y1, y2⟩ := cells_3 HX63.out
    obtain ⟨r0, r1, r2⟩ := cells_3 HX3.out
    have fx := free_of HX3.out
    go_wp2_with fail
    have hc4 : Chg W3 (put_3 W3 g (.int .i64 f) (.int .i64 t) (.string d)) (fun j => j = g) := chg_put3 W3 g _ _ _
    have fin : LnE AtL w K ⟨L.fl.filter (fun q => !((q.n : Int) == n)), L.gv, false⟩ (.pointer (some ⟨b, 0, none⟩)) (put_3 W3 g (.int .i64 f) (.int .i64 t) (.string d)) K := by
      refine ⟨.inr ⟨b, some mb, Km, rfl, rfl, ?_, ?_, HK.out⟩, ?_, fun j hj => .inl hj⟩
      · exact (hc4.block b (lt_of_blk HBX3.out) (fun e => by have := HBG.out; omega)).trans HBX3.out
      · exact FlM.keep HF3.out (Kp.of_chg hc4 (fun j hj hK e => by subst e; have := HKN.out j hK; omega))
      · exact chg_newG (HC3.out.mono (fun j _ hj => (HK.out j).2 hj)) hc4 (Nat.le_of_eq HG.out)
    exact bodyPost_ret (results_cell_tmp rfl _ _ g 23 _ (0, 0) _ _ rfl rfl (fill_3 HX3.out) Try.underlying23 rfl (by kernel_rfl)) rfl ⟨K, rfl, fin⟩
end Go.Proofs.Ytfcobhgjkibdgaa
