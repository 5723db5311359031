/-
  line: Spoil.
-/
import Derived.Test.YtfcobhgjkibdgaaLLook
namespace Go.Proofs.Ytfcobhgjkibdgaa
open Go.RowKit Go.Maps
set_option linter.unusedVariables false
set_option linter.unusedSimpArgs false

set_option maxHeartbeats 6400000 in
set_option maxRecDepth 100000 in
theorem spoilL_at (w : World) (K : Nat → Prop) (L : LnT) (p : Value) (n a u : Int) (h : AtL w K L p) (hok : L.Ok) (hn : (Lit.int .i64 n).wf = true) :
    Calls Try.prog 13 #[p, .int .i64 n, .int .i64 a, .int .i64 u] w fun e w' => ∃ K', e = .returned (.int .i64 (L.spl n a u).2) ∧ LnE AtL w K (L.spl n a u).1 p w' K' := by
  have HF : Hid _ := find_at w K L p n h hn
  have HAT : Hid (AtL w K L p) := h
  rcases fnd_cases L.fl n with ⟨i, q, hq, hqn, hI, hf, hbf⟩ | ⟨hI, hf, _⟩
  · have e : fndV L n = (pV q, 0) := by unfold fndV; rw [hf]
    rw [e] at HF
    unfold pV at HF
    obtain ⟨R, hR⟩ : ∃ R, L.spl n a u = R := ⟨_, rfl⟩
    have hD := hR
    rw [hR]
    unfold LnT.spl at hD
    rw [hf, hI] at hD
    have hsm := hok.small q (fnd_mem hf).1
    rcases h with ⟨rfl, rfl, hK⟩ | ⟨b, mo, Km, rfl, hno, hb, hFm, hK⟩
    · cases hf
    obtain ⟨mb, rfl⟩ : ∃ mb, mo = some mb := by
      rcases hFm with ⟨_, h, _⟩ | ⟨mb, D, h, _⟩
      · rw [h] at hf; cases hf
      · cases h; exact ⟨_, rfl⟩
    have HBX : Hid (w.heap[b]? = some (.cells #[.map (some mb), .int .i64 L.gv] 64 (0, 0))) := hb
    have HFM : Hid (FlM w Km (.map (some mb)) L.fl pV) := hFm
    have HKB : Hid (¬ Km b) := fun h => FlM.sort hFm b _ _ h hb
    have HKL : Hid (∀ j, Km j → j < w.heap.size) := FlM.lt hFm
    have HBW : Hid (b < w.heap.size) := lt_of_blk hb
    have HK : Hid (∀ j, K j ↔ (j = b ∨ Km j)) := hK
    have HL : Hid (L.fl.length ≤ 256) := hok.len
    have HQ : Hid (L.fl[i]? = some q ∧ fnd L.fl (q.n : Int) = some q ∧ ∀ (j : Nat) (r : PcT), j < i → L.fl[j]? = some r → (r.n : Int) ≠ (q.n : Int)) := by show _ ∧ _ ∧ _; rw [hqn]; exact ⟨hq, hf, hbf⟩
    have HWF : Hid ((Lit.int .i64 (q.n : Int)).wf = true) := by rw [hqn]; exact hn
    subst hqn
    have HD : Hid ((if a < 0 ∨ u < 1 ∨ 255 < u ∨ q.m.b.size = 0 then (L, (1 : Int)) else if q.s = true then (L, 161) else (⟨L.fl.set ((i : Int)).toNat ⟨q.n, ⟨q.m.f, q.m.t, tnB q.m.b a u⟩, true⟩, L.gv, false⟩, 0)) = R) := hD
    have HTU : Hid (0 ≤ a → 0 < q.m.b.size → ∀ w, Calls Try.prog 31 #[.string q.m.b, .int .i64 a, .int .u8 u] w fun e w' => e = .returned (.string (tnB q.m.b a u)) ∧ Below w.heap.size w w') := fun h1 h2 w => turned_any q.m.b a u w h1 h2 (Nat.le_trans hsm (by decide))
    obtain ⟨qn, ⟨f, t, d⟩, s⟩ := q
    simp only at HF HTU HD
    clear hf e hR hD hsm hok hn hq hI hbf hb hFm hK hno
    by_cases h1 : a < 0
    · have HE : Hid ((L, (1 : Int)) = R) := by have := HD.out; rw [if_pos (.inl h1)] at this; exact this
      go_enter Try.func13, Try.ntmps13
      go_wp2_with fail
      refine Calls.mono HF.out ?_
      rintro e w1 ⟨rfl, hb1⟩
      obtain ⟨W2, hW2⟩ : ∃ z, w1.alloc (.cells #[.int .i64 f, .int .i64 t, .string d, .bool s] 71) = z := ⟨_, rfl⟩
      have hb2 : Below w1.heap.size w1 W2 := by rw [← hW2]; exact (Below.refl _ _).alloc (Nat.le_refl _) _
      have HW2 : Hid (_ = W2) := hW2
      obtain ⟨g, hg⟩ : ∃ z, w1.heap.size = z := ⟨_, rfl⟩
      have HG : Hid (w1.heap.size = g) := hg
      have HX : Hid (W2.heap[g]? = some (.cells #[.int .i64 f, .int .i64 t, .string d, .bool s] 71 (0, 0))) := by show _ = _; rw [← hW2, ← hg]; exact heap_alloc_new _ _
      have HB2 : Hid (Below w.heap.size w W2) := trans2 hb1 hb2
      have HWG : Hid (w.heap.size ≤ g) := by show _ ≤ _; rw [← hg]; exact hb1.size
      clear hb1 hb2 hW2 hg
      go_upto_region 2 with fail
      rw [HW2.out, HG.out]
      obtain ⟨y0, y1, y2, y3⟩ := cells_4 HX.out
      go_wp2_with fail
      go_ret
      have e := HE.out
      subst e
      exact ⟨K, rfl, HAT.out.below HB2.out⟩
    by_cases h2 : u < 1
    · have HE : Hid ((L, (1 : Int)) = R) := by have := HD.out; rw [if_pos (.inr (.inl h2))] at this; exact this
      go_enter Try.func13, Try.ntmps13
      go_wp2_with fail
      refine Calls.mono HF.out ?_
      rintro e w1 ⟨rfl, hb1⟩
      obtain ⟨W2, hW2⟩ : ∃ z, w1.alloc (.cells #[.int .i64 f, .int .i64 t, .string d, .bool s] 71) = z := ⟨_, rfl⟩
      have hb2 : Below w1.heap.size w1 W2 := by rw [← hW2]; exact (Below.refl _ _).alloc (Nat.le_refl _) _
      have HW2 : Hid (_ = W2) := hW2
      obtain ⟨g, hg⟩ : ∃ z, w1.heap.size = z := ⟨_, rfl⟩
      have HG : Hid (w1.heap.size = g) := hg
      have HX : Hid (W2.heap[g]? = some (.cells #[.int .i64 f, .int .i64 t, .string d, .bool s] 71 (0, 0))) := by show _ = _; rw [← hW2, ← hg]; exact heap_alloc_new _ _
      have HB2 : Hid (Below w.heap.size w W2) := trans2 hb1 hb2
      have HWG : Hid (w.heap.size ≤ g) := by show _ ≤ _; rw [← hg]; exact hb1.size
      clear hb1 hb2 hW2 hg
      go_upto_region 2 with fail
      rw [HW2.out, HG.out]
      obtain ⟨y0, y1, y2, y3⟩ := cells_4 HX.out
      go_wp2_with fail
      go_ret
      have e := HE.out
      subst e
      exact ⟨K, rfl, HAT.out.below HB2.out⟩
    by_cases h3 : 255 < u
    · have HE : Hid ((L, (1 : Int)) = R) := by have := HD.out; rw [if_pos (.inr (.inr (.inl h3)))] at this; exact this
      go_enter Try.func13, Try.ntmps13
      go_wp2_with fail
      refine Calls.mono HF.out ?_
      rintro e w1 ⟨rfl, hb1⟩
      obtain ⟨W2, hW2⟩ : ∃ z, w1.alloc (.cells #[.int .i64 f, .int .i64 t, .string d, .bool s] 71) = z := ⟨_, rfl⟩
      have hb2 : Below w1.heap.size w1 W2 := by rw [← hW2]; exact (Below.refl _ _).alloc (Nat.le_refl _) _
      have HW2 : Hid (_ = W2) := hW2
      obtain ⟨g, hg⟩ : ∃ z, w1.heap.size = z := ⟨_, rfl⟩
      have HG : Hid (w1.heap.size = g) := hg
      have HX : Hid (W2.heap[g]? = some (.cells #[.int .i64 f, .int .i64 t, .string d, .bool s] 71 (0, 0))) := by show _ = _; rw [← hW2, ← hg]; exact heap_alloc_new _ _
      have HB2 : Hid (Below w.heap.size w W2) := trans2 hb1 hb2
      have HWG : Hid (w.heap.size ≤ g) := by show _ ≤ _; rw [← hg]; exact hb1.size
      clear hb1 hb2 hW2 hg
      go_upto_region 2 with fail
      rw [HW2.out, HG.out]
      obtain ⟨y0, y1, y2, y3⟩ := cells_4 HX.out
      go_wp2_with fail
      go_ret
      have e := HE.out
      subst e
      exact ⟨K, rfl, HAT.out.below HB2.out⟩
    by_cases h4 : d.size = 0
    · have HE : Hid ((L, (1 : Int)) = R) := by have := HD.out; rw [if_pos (.inr (.inr (.inr h4)))] at this; exact this
      have hem : d.toList.isEmpty = true := by rw [emp_iff]; simpa using h4
      clear h4
      go_enter Try.func13, Try.ntmps13
      go_wp2_with fail
      refine Calls.mono HF.out ?_
      rintro e w1 ⟨rfl, hb1⟩
      obtain ⟨W2, hW2⟩ : ∃ z, w1.alloc (.cells #[.int .i64 f, .int .i64 t, .string d, .bool s] 71) = z := ⟨_, rfl⟩
      have hb2 : Below w1.heap.size w1 W2 := by rw [← hW2]; exact (Below.refl _ _).alloc (Nat.le_refl _) _
      have HW2 : Hid (_ = W2) := hW2
      obtain ⟨g, hg⟩ : ∃ z, w1.heap.size = z := ⟨_, rfl⟩
      have HG : Hid (w1.heap.size = g) := hg
      have HX : Hid (W2.heap[g]? = some (.cells #[.int .i64 f, .int .i64 t, .string d, .bool s] 71 (0, 0))) := by show _ = _; rw [← hW2, ← hg]; exact heap_alloc_new _ _
      have HB2 : Hid (Below w.heap.size w W2) := trans2 hb1 hb2
      have HWG : Hid (w.heap.size ≤ g) := by show _ ≤ _; rw [← hg]; exact hb1.size
      clear hb1 hb2 hW2 hg
      go_upto_region 2 with fail
      rw [HW2.out, HG.out]
      obtain ⟨y0, y1, y2, y3⟩ := cells_4 HX.out
      go_wp2_with fail
      go_ret
      have e := HE.out
      subst e
      exact ⟨K, rfl, HAT.out.below HB2.out⟩
    have hD2 := HD.out
    rw [if_neg (by rintro (h | h | h | h) <;> contradiction)] at hD2
    have hem : d.toList.isEmpty = false := by rw [emp_iff]; simpa using h4
    cases s with
    | true =>
      rw [if_pos rfl] at hD2
      have HE : Hid ((L, (161 : Int)) = R) := hD2
      clear hD2 HD
      go_enter Try.func13, Try.ntmps13
      go_wp2_with fail
      refine Calls.mono HF.out ?_
      rintro e w1 ⟨rfl, hb1⟩
      obtain ⟨W2, hW2⟩ : ∃ z, w1.alloc (.cells #[.int .i64 f, .int .i64 t, .string d, .bool true] 71) = z := ⟨_, rfl⟩
      have hb2 : Below w1.heap.size w1 W2 := by rw [← hW2]; exact (Below.refl _ _).alloc (Nat.le_refl _) _
      have HW2 : Hid (_ = W2) := hW2
      obtain ⟨g, hg⟩ : ∃ z, w1.heap.size = z := ⟨_, rfl⟩
      have HG : Hid (w1.heap.size = g) := hg
      have HX : Hid (W2.heap[g]? = some (.cells #[.int .i64 f, .int .i64 t, .string d, .bool true] 71 (0, 0))) := by show _ = _; rw [← hW2, ← hg]; exact heap_alloc_new _ _
      have HB2 : Hid (Below w.heap.size w W2) := trans2 hb1 hb2
      have HWG : Hid (w.heap.size ≤ g) := by show _ ≤ _; rw [← hg]; exact hb1.size
      clear hb1 hb2 hW2 hg
      go_upto_region 2 with fail
      rw [HW2.out, HG.out]
      obtain ⟨y0, y1, y2, y3⟩ := cells_4 HX.out
      go_wp2_with fail
      go_ret
      have e := HE.out
      subst e
      exact ⟨K, rfl, HAT.out.below HB2.out⟩
    | false =>
      rw [if_neg (by simp)] at hD2
      have HE : Hid ((⟨L.fl.set i ⟨qn, ⟨f, t, tnB d a u⟩, true⟩, L.gv, false⟩, (0 : Int)) = R) := hD2
      have HT : Hid (∀ w, Calls Try.prog 31 #[.string d, .int .i64 a, .int .u8 u] w fun e w' => e = .returned (.string (tnB d a u)) ∧ Below w.heap.size w w') := HTU.out (by omega) (by omega)
      have hu8 : IntKind.u8.wrap u = u := by unfold IntKind.wrap; simp [IntKind.bits, IntKind.signed]; omega
      obtain ⟨d', hd'⟩ : ∃ z, tnB d a u = z := ⟨_, rfl⟩
      rw [hd'] at HT HE
      clear hD2 HD HTU hd'
      go_enter Try.func13, Try.ntmps13
      go_wp2_with fail
      refine Calls.mono HF.out ?_
      rintro e w1 ⟨rfl, hb1⟩
      obtain ⟨W2, hW2⟩ : ∃ z, w1.alloc (.cells #[.int .i64 f, .int .i64 t, .string d, .bool false] 71) = z := ⟨_, rfl⟩
      have hb2 : Below w1.heap.size w1 W2 := by rw [← hW2]; exact (Below.refl _ _).alloc (Nat.le_refl _) _
      have HW2 : Hid (_ = W2) := hW2
      obtain ⟨g, hg⟩ : ∃ z, w1.heap.size = z := ⟨_, rfl⟩
      have HG : Hid (w1.heap.size = g) := hg
      have HX : Hid (W2.heap[g]? = some (.cells #[.int .i64 f, .int .i64 t, .string d, .bool false] 71 (0, 0))) := by show _ = _; rw [← hW2, ← hg]; exact heap_alloc_new _ _
      have HB2 : Hid (Below w.heap.size w W2) := trans2 hb1 hb2
      have HWG : Hid (w.heap.size ≤ g) := by show _ ≤ _; rw [← hg]; exact hb1.size
      clear hb1 hb2 hW2 hg
      go_upto_region 2 with fail
      rw [HW2.out, HG.out]
      obtain ⟨y0, y1, y2, y3⟩ := cells_4 HX.out
      go_wp2_with fail
      refine Calls.mono (HT.out _) ?_
      rintro e w3 ⟨rfl, hb3⟩
      clear y0 y1 y2 y3 h1 h2 h3 h4 hem hu8
      have HX3 : Hid (w3.heap[g]? = some (.cells #[.int .i64 f, .int .i64 t, .string d, .bool false] 71 (0, 0))) := kept_block hb3 HX.out
      have HB3 : Hid (Below w.heap.size w w3) := trans2 HB2.out hb3
      clear hb3
      obtain ⟨W4, hW4⟩ : ∃ z, (w3.setCell ⟨g, 2, none⟩ (.string d')).setCell ⟨g, 3, none⟩ (.bool true) = z := ⟨_, rfl⟩
      have HW4 : Hid (_ = W4) := hW4
      have hc4 : Chg w3 W4 (fun j => j = g) := by rw [← hW4]; exact (Chg.set _ ⟨g, 2, none⟩ _).trans (Chg.set _ ⟨g, 3, none⟩ _)
      have HX4 : Hid (W4.heap[g]? = some (.cells #[.int .i64 f, .int .i64 t, .string d', .bool true] 71 (0, 0))) := by show _ = _; rw [← hW4]; exact set_at (set_at HX3.out)
      have HB4 : Hid (Below w.heap.size w W4) := HB3.out.trans (hc4.below HB3.out.size (fun k _ e => by rw [e]; exact HWG.out))
      clear hW4 hc4
      obtain ⟨y0, y1, y2, y3⟩ := cells_4 HX3.out
      have fx := free_of HX3.out
      go_upto_region 10 with fail
      rw [HW4.out]
      clear y0 y1 y2 y3 fx
      have HBX4 : Hid (W4.heap[b]? = some (.cells #[.map (some mb), .int .i64 L.gv] 64 (0, 0))) := kept_block HB4.out HBX.out
      obtain ⟨q0, q1⟩ := cells_2 HBX4.out
      obtain ⟨y0, y1, y2, y3⟩ := cells_4 HX4.out
      obtain ⟨W5, hup, hF5, hc5⟩ := FlM.turn (w := W4.drew) (tM := 62) Try.underlying62 (FlM.keep HFM.out (Kp.of_below (below_drew HB4.out) _)) HL.out (p' := ⟨qn, ⟨f, t, d'⟩, true⟩) HQ.out.1 HQ.out.2.1 rfl HQ.out.2.2 HWF.out
      have hup' : (Instr.mapUpdate 62 (.map (some mb)) (.int .i64 (qn : Int)) (.agg #[.int .i64 f, .int .i64 t, .string d', .bool true])).run Try.prog W4.drew = .ok () W5 := hup
      have HF5 : Hid (FlM W5 Km (.map (some mb)) (L.fl.set i ⟨qn, ⟨f, t, d'⟩, true⟩) pV) := hF5
      have HC5 : Hid (Chg w W5 (fun j => j = b ∨ Km j)) := (Chg.of_below (below_drew HB4.out) _).trans (hc5.mono (fun j _ e => .inr e))
      have HBX5 : Hid (W5.heap[b]? = some (.cells #[.map (some mb), .int .i64 L.gv] 64 (0, 0))) := (hc5.block b (lt_of_blk HBX4.out) HKB.out).trans HBX4.out
      clear hup hF5 hc5
      go_region
      clear q0 q1 y0 y1 y2 y3 hup'
      go_wp2_with fail
      go_ret
      have e := HE.out
      subst e
      exact ⟨K, rfl, .inr ⟨b, some mb, Km, rfl, rfl, HBX5.out, HF5.out, HK.out⟩, HC5.out.mono (fun j _ hj => (HK.out j).2 hj), fun j hj => .inl hj⟩
  · have e : fndV L n = (pZ, 160) := by unfold fndV; rw [hf]
    have e2 : L.spl n a u = (L, 160) := by unfold LnT.spl; rw [hf]
    rw [e] at HF
    rw [e2]
    unfold pZ at HF
    clear hf e e2 h hok hn hI
    go_enter Try.func13, Try.ntmps13
    go_wp2_with fail
    refine Calls.mono HF.out ?_
    rintro e w1 ⟨rfl, hb1⟩
    obtain ⟨W2, hW2⟩ : ∃ z, w1.alloc (.cells #[.int .i64 0, .int .i64 0, .string ⟨#[]⟩, .bool false] 71) = z := ⟨_, rfl⟩
    have hb2 : Below w1.heap.size w1 W2 := by rw [← hW2]; exact (Below.refl _ _).alloc (Nat.le_refl _) _
    have HW2 : Hid (_ = W2) := hW2
    obtain ⟨g, hg⟩ : ∃ z, w1.heap.size = z := ⟨_, rfl⟩
    have HG : Hid (w1.heap.size = g) := hg
    have HX : Hid (W2.heap[g]? = some (.cells #[.int .i64 0, .int .i64 0, .string ⟨#[]⟩, .bool false] 71 (0, 0))) := by show _ = _; rw [← hW2, ← hg]; exact heap_alloc_new _ _
    have HB2 : Hid (Below w.heap.size w W2) := trans2 hb1 hb2
    have HWG : Hid (w.heap.size ≤ g) := by show _ ≤ _; rw [← hg]; exact hb1.size
    clear hb1 hb2 hW2 hg
    go_upto_region 2 with fail
    rw [HW2.out, HG.out]
    obtain ⟨y0, y1, y2, y3⟩ := cells_4 HX.out
    go_wp2_with fail
    go_ret
    exact ⟨K, rfl, HAT.out.below HB2.out⟩
end Go.Proofs.Ytfcobhgjkibdgaa
