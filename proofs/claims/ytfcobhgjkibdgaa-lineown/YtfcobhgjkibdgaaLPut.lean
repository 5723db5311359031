/-
  line: put.
-/
import Derived.Test.YtfcobhgjkibdgaaLFind
import Derived.Test.YtfcobhgjkibdgaaLOwnM
namespace Go.Proofs.Ytfcobhgjkibdgaa
open Go.RowKit Go.Maps
set_option linter.unusedVariables false
set_option linter.unusedSimpArgs false

set_option maxHeartbeats 3200000 in
set_option maxRecDepth 100000 in
theorem put_nil (m : MsT) (s : Bool) (w : World) : Calls Try.prog 29 #[.pointer none, .agg #[.int .i64 m.f, .int .i64 m.t, .string m.b, .bool s]] w fun e w' => e = .returned (.tuple #[.int .i64 0, .int .i64 46]) ∧ Below w.heap.size w w' := by
  go_enter Try.func29, Try.ntmps29
  go_wp2_with fail
  go_ret2
  exact ⟨rfl, (Below.refl _ _).alloc (Nat.le_refl _) _⟩
set_option maxHeartbeats 3200000 in
set_option maxRecDepth 100000 in
theorem put_full (b : Nat) (mv : Value) (fl : List PcT) (gv : Nat) (Km : Nat → Prop) (m : MsT) (s : Bool) (w : World) (hbox : w.heap[b]? = some (.cells #[mv, .int .i64 gv] 64 (0, 0))) (hF : FlM w Km mv fl pV) (hl : 256 ≤ fl.length) : Calls Try.prog 29 #[.pointer (some ⟨b, 0, none⟩), .agg #[.int .i64 m.f, .int .i64 m.t, .string m.b, .bool s]] w fun e w' => e = .returned (.tuple #[.int .i64 0, .int .i64 46]) ∧ Below w.heap.size w w' := by
  obtain ⟨c0, c1⟩ := cells_2 hbox
  have hmm : ∃ o, mv = .map o := by rcases hF with ⟨h, _⟩ | ⟨mb, D, h, _⟩ <;> exact ⟨_, h⟩
  obtain ⟨mo, rfl⟩ := hmm
  obtain ⟨W, hW⟩ : ∃ z, w.alloc (.cells #[.int .i64 m.f, .int .i64 m.t, .string m.b, .bool s] 71) = z := ⟨_, rfl⟩
  have hb1 : Below w.heap.size w W := by rw [← hW]; exact (Below.refl _ _).alloc (Nat.le_refl _) _
  have hlen := fun ty => (FlM.keep hF (Kp.of_below hb1 _)).len (tM := 62) Try.underlying62 ty
  obtain ⟨N, hN⟩ : ∃ z, fl.length = z := ⟨_, rfl⟩
  rw [hN] at hlen hl
  have hl' : (256 : Int) ≤ (N : Int) := by omega
  have hbl := lt_of_blk hbox
  have k0 : W.cell? ⟨b, 0, none⟩ = some (.map mo) := by rw [hb1.cell (p := ⟨b, 0, none⟩) hbl]; exact c0
  have HW : Hid (_ = W) := hW
  have HB : Hid (Below w.heap.size w W) := hb1
  clear hW hb1 c0 c1 hbox hF hN hl
  go_enter Try.func29, Try.ntmps29
  go_upto_region 1 with fail
  rw [HW.out]
  go_wp2_with fail
  go_ret2
  exact ⟨rfl, HB.out⟩
theorem eq_map_nil (w : World) (n : Nat) (mb : Nat) : (Op.equalIn (n + 1) 62 (.map (some mb)) (.map none)).run Try.prog w = .ok false w := by
  simp [Op.equalIn, run_underlying Try.underlying62]
theorem eql_map_nil (w : World) (mb : Nat) : (binOp .eql 62 (.map (some mb)) (.map none)).run Try.prog w = .ok (.bool false) w := by
  simp only [binOp]
  simp [Op.equal, Op.maxDepth, eq_map_nil]
theorem eq_nil_nil (w : World) (n : Nat) : (Op.equalIn (n + 1) 62 (.map none) (.map none)).run Try.prog w = .ok true w := by
  simp [Op.equalIn, run_underlying Try.underlying62]
theorem eql_nil_nil (w : World) : (binOp .eql 62 (.map none) (.map none)).run Try.prog w = .ok (.bool true) w := by
  simp only [binOp]
  simp [Op.equal, Op.maxDepth, eq_nil_nil]
theorem put3_4 {w : World} {g : Nat} {x0 x1 x2 x3 y0 y1 y2 : Value} {t : TypeId} (h : w.heap[g]? = some (.cells #[x0, x1, x2, x3] t (0, 0))) : (put_3 w g y0 y1 y2).heap[g]? = some (.cells #[y0, y1, y2, x3] t (0, 0)) := set_at (set_at (set_at h))
theorem chg_newG {w w1 w2 : World} {S : Nat → Prop} {g : Nat} (h : Chg w w1 S) (k : Chg w1 w2 (fun j => j = g)) (hg : w.heap.size ≤ g) : Chg w w2 S :=
  ⟨k.os.trans h.os, k.tape.trans h.tape, k.output.trans h.output, Nat.le_trans h.size k.size, fun i hi hs => (k.block i (Nat.lt_of_lt_of_le hi h.size) (fun e => by omega)).trans (h.block i hi hs)⟩
theorem chg_kn {w w1 w2 : World} {S K : Nat → Prop} (h : Chg w w1 S) (k : Chg w1 w2 K) (hk : ∀ j, K j → S j ∨ w.heap.size ≤ j) : Chg w w2 S :=
  ⟨k.os.trans h.os, k.tape.trans h.tape, k.output.trans h.output, Nat.le_trans h.size k.size, fun i hi hs => (k.block i (Nat.lt_of_lt_of_le hi h.size) (fun e => by rcases hk i e with h1 | h1; exact hs h1; omega)).trans (h.block i hi hs)⟩
/-- What put leaves of a line that is there. -/
structure PtE (w w' : World) (b : Nat) (Km : Nat → Prop) (fl : List PcT) (gv : Nat) (mo : Option Nat) (Kn : Nat → Prop) : Prop where
  box : w'.heap[b]? = some (.cells #[.map mo, .int .i64 gv] 64 (0, 0))
  fl : FlM w' Kn (.map mo) fl pV
  chg : Chg w w' (fun j => j = b ∨ Km j)
  new : ∀ j, Kn j → Km j ∨ w.heap.size ≤ j
set_option maxHeartbeats 6400000 in
set_option maxRecDepth 100000 in
theorem put_ok (b : Nat) (mv : Value) (fl : List PcT) (gv : Nat) (Km : Nat → Prop) (m : MsT) (s : Bool) (w : World) (hbox : w.heap[b]? = some (.cells #[mv, .int .i64 gv] 64 (0, 0))) (hF : FlM w Km mv fl pV) (hl : fl.length < 256) (hg : gv + 1 ≤ MaxG) (hno : fnd fl ((gv + 1 : Nat) : Int) = none) (hm : m.b.size ≤ 1000000) : Calls Try.prog 29 #[.pointer (some ⟨b, 0, none⟩), .agg #[.int .i64 m.f, .int .i64 m.t, .string m.b, .bool s]] w fun e w' => ∃ mo Kn, e = .returned (.tuple #[.int .i64 ((gv + 1 : Nat) : Int), .int .i64 0]) ∧ PtE w w' b Km (fl ++ [⟨gv + 1, m, s⟩]) (gv + 1) mo Kn := by
  obtain ⟨f, t, d⟩ := m
  obtain ⟨c0, c1⟩ := cells_2 hbox
  have HMS : Hid (d.size ≤ 1000000) := hm
  have HWF : Hid ((Lit.int .i64 ((gv + 1 : Nat) : Int)).wf = true) := wf_nat (by unfold MaxG at hg; omega)
  have HNO : Hid (fnd fl ((gv + 1 : Nat) : Int) = none) := hno
  obtain ⟨g, hgs⟩ : ∃ g, w.heap.size = g := ⟨_, rfl⟩
  have hbl := lt_of_blk hbox
  have HBG : Hid (b < g) := by show b < g; omega
  have HKB0 : Hid (¬ Km b) := fun h => FlM.sort hF b _ _ h hbox
  have HKLT : Hid (∀ j, Km j → j < g) := by rw [← hgs]; exact FlM.lt hF
  have HG : Hid (w.heap.size = g) := hgs
  have HGN : Hid (w.heap.size ≤ g) := Nat.le_of_eq hgs
  obtain ⟨W, hW⟩ : ∃ z, w.alloc (.cells #[.int .i64 f, .int .i64 t, .string d, .bool s] 71) = z := ⟨_, rfl⟩
  have hb1 : Below w.heap.size w W := by rw [← hW]; exact (Below.refl _ _).alloc (Nat.le_refl _) _
  have HX0 : Hid (W.heap[g]? = some (.cells #[.int .i64 f, .int .i64 t, .string d, .bool s] 71 (0, 0))) := by show _ = _; rw [← hW, ← hgs]; exact heap_alloc_new _ _
  have HFW : Hid (FlM W Km mv fl pV) := FlM.keep hF (Kp.of_below hb1 _)
  have hlen := fun ty => HFW.out.len (tM := 62) Try.underlying62 ty
  obtain ⟨N, hN⟩ : ∃ z, fl.length = z := ⟨_, rfl⟩
  rw [hN] at hlen
  have hl' : ¬ (256 : Int) ≤ (N : Int) := by omega
  have hg' : ¬ (2147483647 : Int) ≤ (gv : Int) := by unfold MaxG at hg; omega
  have hwr : IntKind.i64.wrap ((gv : Int) + 1) = (gv : Int) + 1 := by unfold MaxG at hg; unfold IntKind.wrap; simp [IntKind.bits, IntKind.signed]; omega
  have HL : Hid (fl.length < 256) := hl
  have HBX0 : Hid (W.heap[b]? = some (.cells #[mv, .int .i64 gv] 64 (0, 0))) := kept_block hb1 hbox
  have HW : Hid (_ = W) := hW
  have HBW : Hid (Below w.heap.size w W) := hb1
  have hcast : ((gv + 1 : Nat) : Int) = (gv : Int) + 1 := by omega
  rcases hF with ⟨rfl, hfl, hK0⟩ | ⟨mb, D, rfl, hKm, hown, hrep⟩
  · subst hfl
    obtain ⟨mb, hmb⟩ : ∃ z, W.heap.size = z := ⟨_, rfl⟩
    have hmg : mb = g + 1 := by rw [← hmb, ← hW]; simp; omega
    obtain ⟨k0, k1⟩ := cells_2 HBX0.out
    have fb0 := free_of HBX0.out
    have hqm := eql_nil_nil W
    have hmm : (Instr.makeMap 62 none).run Try.prog W = .ok (.map (some mb)) (W.alloc (.map #[] 0)) := by rw [← hmb]; exact run_makeMap ..
    have hbW := lt_of_blk HBX0.out
    obtain ⟨WS, hWS⟩ : ∃ z, W.setCell ⟨b, 0, none⟩ (.map (some mb)) = z := ⟨_, rfl⟩
    obtain ⟨WM, hWM⟩ : ∃ z, (W.setCell ⟨b, 0, none⟩ (.map (some mb))).alloc (.map #[] 0) = z := ⟨_, rfl⟩
    have HWM : Hid ((W.setCell ⟨b, 0, none⟩ (.map (some mb))).alloc (.map #[] 0) = WM) := hWM
    rw [hWS] at hWM
    have hcs : Chg W WS (fun j => j = b) := by rw [← hWS]; exact Chg.set _ ⟨b, 0, none⟩ _
    have hsz : WS.heap.size = mb := by rw [← hWS, ← hmb]; simp
    have hcm : Chg W WM (fun j => j = b) := by rw [← hWM]; exact hcs.trans (Chg.alloc WS _ _)
    have HBX : Hid (WM.heap[b]? = some (.cells #[.map (some mb), .int .i64 gv] 64 (0, 0))) := by show _ = _; rw [← hWM]; refine kept_block ((Below.refl _ _).alloc (Nat.le_refl _) _) ?_; rw [← hWS]; exact set_at HBX0.out
    have HX : Hid (WM.heap[g]? = some (.cells #[.int .i64 f, .int .i64 t, .string d, .bool s] 71 (0, 0))) := (hcm.block g (lt_of_blk HX0.out) (fun e => by have := HBG.out; omega)).trans HX0.out
    have HC : Hid (Chg w WM (fun j => j = b ∨ Km j)) := (Chg.of_below HBW.out _).trans (hcm.mono (fun j _ e => .inl e))
    obtain ⟨Kn, hKn⟩ : ∃ K : Nat → Prop, (fun j => j = mb) = K := ⟨_, rfl⟩
    have HFM : Hid (FlM WM Kn (.map (some mb)) [] pV) := by
      show FlM _ _ _ _ _
      rw [← hKn, ← hWM, ← hsz]
      exact FlM.made WS pV
    have HKN : Hid (∀ j, Kn j → (j = b ∨ Km j) ∨ w.heap.size ≤ j) := by show ∀ _, _; rw [← hKn]; intro j h; exact .inr (by rw [h]; omega)
    have HKNN : Hid (∀ j, Kn j → Km j ∨ w.heap.size ≤ j) := by show ∀ _, _; rw [← hKn]; intro j h; exact .inr (by rw [h]; omega)
    have HKB : Hid (¬ Kn b) := by show ¬ _; rw [← hKn]; intro h; have h : b = mb := h; omega
    have HKG : Hid (¬ Kn g) := by show ¬ _; rw [← hKn]; intro h; have h : g = mb := h; omega
    have HMB : Hid (W.heap.size = mb) := hmb
    clear hW hb1 c0 c1 hbox hN hl hm hno hgs hbl hKn hcast hg hWM hWS hsz hcs hcm hmb hmg hK0
    go_enter Try.func29, Try.ntmps29
    go_upto_region 1 with fail
    rw [HW.out, HG.out]
    go_upto_region 7 with fail
    rw [HWM.out]
    clear k0 k1 hlen hqm fb0 hbW hmm
    have HOWN : Hid (∀ w, Calls Try.prog 32 #[.agg #[.int .i64 f, .int .i64 t, .string d]] w fun e w' => e = .returned (.agg #[.int .i64 f, .int .i64 t, .string d]) ∧ Below w.heap.size w w') := fun w => own_any ⟨f, t, d⟩ w HMS.out
    have q0 := cells_2 HBX.out
    obtain ⟨q0, q1⟩ := q0
    obtain ⟨x0, x1, x2, x3⟩ := cells_4 HX.out
    go_wp2_with fail
    refine Calls.mono (HOWN.out _) ?_
    rintro e w1 ⟨rfl, hb1⟩
    clear q0 q1 x0 x1 x2 x3
    have HBX1 : Hid (w1.heap[b]? = some (.cells #[.map (some mb), .int .i64 gv] 64 (0, 0))) := kept_block hb1 HBX.out
    have HX1 : Hid (w1.heap[g]? = some (.cells #[.int .i64 f, .int .i64 t, .string d, .bool s] 71 (0, 0))) := kept_block hb1 HX.out
    have HC1 : Hid (Chg w w1 (fun j => j = b ∨ Km j)) := HC.out.trans (Chg.of_below hb1 _)
    have HF1 : Hid (FlM w1 Kn (.map (some mb)) [] pV) := FlM.keep HFM.out (Kp.of_below hb1 _)
    clear hb1
    obtain ⟨W2, hW2⟩ : ∃ z, put_3 w1 g (.int .i64 f) (.int .i64 t) (.string d) = z := ⟨_, rfl⟩
    have HW2 : Hid ((((w1.setCell ⟨g, 0, none⟩ (.int .i64 f)).setCell ⟨g, 1, none⟩ (.int .i64 t)).setCell ⟨g, 2, none⟩ (.string d)) = W2) := hW2
    have hc2 : Chg w1 W2 (fun j => j = g) := by rw [← hW2]; exact chg_put3 w1 g _ _ _
    have HX2 : Hid (W2.heap[g]? = some (.cells #[.int .i64 f, .int .i64 t, .string d, .bool s] 71 (0, 0))) := by show _ = _; rw [← hW2]; exact put3_4 HX1.out
    have HBX2 : Hid (W2.heap[b]? = some (.cells #[.map (some mb), .int .i64 gv] 64 (0, 0))) := (hc2.block b (lt_of_blk HBX1.out) (fun e => by have := HBG.out; omega)).trans HBX1.out
    have HC2 : Hid (Chg w W2 (fun j => j = b ∨ Km j)) := chg_newG HC1.out hc2 HGN.out
    have HF2 : Hid (FlM W2 Kn (.map (some mb)) [] pV) := FlM.keep HF1.out (Kp.of_chg hc2 (fun j hj hK e => by subst e; exact HKG.out hK))
    clear hW2 hc2
    obtain ⟨x0, x1, x2, x3⟩ := cells_4 HX1.out
    have fx := free_of HX1.out
    go_upto_region 8 with fail
    rw [HW2.out]
    clear x0 x1 x2 x3 fx
    obtain ⟨q0, q1⟩ := cells_2 HBX2.out
    have fb := free_of HBX2.out
    obtain ⟨W3, hW3⟩ : ∃ z, W2.setCell ⟨b, 1, none⟩ (.int .i64 ((gv : Int) + 1)) = z := ⟨_, rfl⟩
    have HW3 : Hid (_ = W3) := hW3
    have hc3 : Chg W2 W3 (fun j => j = b) := by rw [← hW3]; exact Chg.set W2 ⟨b, 1, none⟩ _
    have HBX3 : Hid (W3.heap[b]? = some (.cells #[.map (some mb), .int .i64 ((gv : Int) + 1)] 64 (0, 0))) := by show _ = _; rw [← hW3]; exact set_at HBX2.out
    have HX3 : Hid (W3.heap[g]? = some (.cells #[.int .i64 f, .int .i64 t, .string d, .bool s] 71 (0, 0))) := (hc3.block g (lt_of_blk HX2.out) (fun e => by have := HBG.out; omega)).trans HX2.out
    have HC3 : Hid (Chg w W3 (fun j => j = b ∨ Km j)) := HC2.out.trans (hc3.mono (fun j _ e => .inl e))
    have HF3 : Hid (FlM W3 Kn (.map (some mb)) [] pV) := FlM.keep HF2.out (Kp.of_chg hc3 (fun j hj hK e => by subst e; exact HKB.out hK))
    clear hW3 hc3
    go_upto_region 9 with fail
    rw [HW3.out]
    clear q0 q1 fb
    obtain ⟨q0, q1⟩ := cells_2 HBX3.out
    obtain ⟨x0, x1, x2, x3⟩ := cells_4 HX3.out
    obtain ⟨W4, hup, hF4, hc4⟩ := FlM.push (w := W3.drew) (tM := 62) Try.underlying62 (FlM.keep HF3.out (Kp.of_below (below_drew (Below.refl _ _)) _)) (by have := HL.out; omega) ⟨gv + 1, ⟨f, t, d⟩, s⟩ HNO.out HWF.out
    have HF4 : Hid (FlM W4 Kn (.map (some mb)) ([] ++ [⟨gv + 1, ⟨f, t, d⟩, s⟩]) pV) := hF4
    have HC4 : Hid (Chg w W4 (fun j => j = b ∨ Km j)) := chg_kn (HC3.out.trans (Chg.of_below (below_drew (Below.refl _ _)) _)) hc4 HKN.out
    have HBX4 : Hid (W4.heap[b]? = some (.cells #[.map (some mb), .int .i64 ((gv : Int) + 1)] 64 (0, 0))) := (hc4.block b (lt_of_blk HBX3.out) HKB.out).trans HBX3.out
    have hup' : (Instr.mapUpdate 62 (.map (some mb)) (.int .i64 ((gv : Int) + 1)) (.agg #[.int .i64 f, .int .i64 t, .string d, .bool s])).run Try.prog W3.drew = .ok () W4 := hup
    clear hup hF4 hc4
    go_upto_region 10 with fail
    go_region
    clear q0 q1 x0 x1 x2 x3 hup'
    obtain ⟨q0, q1⟩ := cells_2 HBX4.out
    go_wp2_with fail
    go_ret2
    exact ⟨some mb, Kn, rfl, HBX4.out, HF4.out, HC4.out, HKNN.out⟩
  · have HKN : Hid (∀ j, Km j → (j = b ∨ Km j) ∨ w.heap.size ≤ j) := fun j h => .inl (.inr h)
    have HKNN : Hid (∀ j, Km j → Km j ∨ w.heap.size ≤ j) := fun j h => .inl h
    have HKB : Hid (¬ Km b) := HKB0
    have HKG : Hid (¬ Km g) := fun h => by have := HKLT.out g h; omega
    have HBX : Hid (W.heap[b]? = some (.cells #[.map (some mb), .int .i64 gv] 64 (0, 0))) := HBX0
    have HX : Hid (W.heap[g]? = some (.cells #[.int .i64 f, .int .i64 t, .string d, .bool s] 71 (0, 0))) := HX0
    have HC : Hid (Chg w W (fun j => j = b ∨ Km j)) := Chg.of_below HBW.out _
    have HFM : Hid (FlM W Km (.map (some mb)) fl pV) := HFW
    obtain ⟨Kn, hKn⟩ : ∃ K, Km = K := ⟨_, rfl⟩
    have HKn : Hid (Km = Kn) := hKn
    have HKN : Hid (∀ j, Kn j → (j = b ∨ Km j) ∨ w.heap.size ≤ j) := by rw [← hKn]; exact HKN
    have HKNN : Hid (∀ j, Kn j → Km j ∨ w.heap.size ≤ j) := by rw [← hKn]; exact HKNN
    rw [hKn] at HKB HKG HFM
    obtain ⟨k0, k1⟩ := cells_2 HBX.out
    have hqm := eql_map_nil W mb
    clear hW hb1 c0 c1 hbox hN hl hm hno hown hrep hKm hgs hbl hKn hcast hg
    go_enter Try.func29, Try.ntmps29
    go_upto_region 1 with fail
    rw [HW.out, HG.out]
    go_upto_region 7 with fail
    clear k0 k1 hlen hqm
    have HOWN : Hid (∀ w, Calls Try.prog 32 #[.agg #[.int .i64 f, .int .i64 t, .string d]] w fun e w' => e = .returned (.agg #[.int .i64 f, .int .i64 t, .string d]) ∧ Below w.heap.size w w') := fun w => own_any ⟨f, t, d⟩ w HMS.out
    have q0 := cells_2 HBX.out
    obtain ⟨q0, q1⟩ := q0
    obtain ⟨x0, x1, x2, x3⟩ := cells_4 HX.out
    go_wp2_with fail
    refine Calls.mono (HOWN.out _) ?_
    rintro e w1 ⟨rfl, hb1⟩
    clear q0 q1 x0 x1 x2 x3
    have HBX1 : Hid (w1.heap[b]? = some (.cells #[.map (some mb), .int .i64 gv] 64 (0, 0))) := kept_block hb1 HBX.out
    have HX1 : Hid (w1.heap[g]? = some (.cells #[.int .i64 f, .int .i64 t, .string d, .bool s] 71 (0, 0))) := kept_block hb1 HX.out
    have HC1 : Hid (Chg w w1 (fun j => j = b ∨ Km j)) := HC.out.trans (Chg.of_below hb1 _)
    have HF1 : Hid (FlM w1 Kn (.map (some mb)) fl pV) := FlM.keep HFM.out (Kp.of_below hb1 _)
    clear hb1
    obtain ⟨W2, hW2⟩ : ∃ z, put_3 w1 g (.int .i64 f) (.int .i64 t) (.string d) = z := ⟨_, rfl⟩
    have HW2 : Hid ((((w1.setCell ⟨g, 0, none⟩ (.int .i64 f)).setCell ⟨g, 1, none⟩ (.int .i64 t)).setCell ⟨g, 2, none⟩ (.string d)) = W2) := hW2
    have hc2 : Chg w1 W2 (fun j => j = g) := by rw [← hW2]; exact chg_put3 w1 g _ _ _
    have HX2 : Hid (W2.heap[g]? = some (.cells #[.int .i64 f, .int .i64 t, .string d, .bool s] 71 (0, 0))) := by show _ = _; rw [← hW2]; exact put3_4 HX1.out
    have HBX2 : Hid (W2.heap[b]? = some (.cells #[.map (some mb), .int .i64 gv] 64 (0, 0))) := (hc2.block b (lt_of_blk HBX1.out) (fun e => by have := HBG.out; omega)).trans HBX1.out
    have HC2 : Hid (Chg w W2 (fun j => j = b ∨ Km j)) := chg_newG HC1.out hc2 HGN.out
    have HF2 : Hid (FlM W2 Kn (.map (some mb)) fl pV) := FlM.keep HF1.out (Kp.of_chg hc2 (fun j hj hK e => by subst e; exact HKG.out hK))
    clear hW2 hc2
    obtain ⟨x0, x1, x2, x3⟩ := cells_4 HX1.out
    have fx := free_of HX1.out
    go_upto_region 8 with fail
    rw [HW2.out]
    clear x0 x1 x2 x3 fx
    obtain ⟨q0, q1⟩ := cells_2 HBX2.out
    have fb := free_of HBX2.out
    obtain ⟨W3, hW3⟩ : ∃ z, W2.setCell ⟨b, 1, none⟩ (.int .i64 ((gv : Int) + 1)) = z := ⟨_, rfl⟩
    have HW3 : Hid (_ = W3) := hW3
    have hc3 : Chg W2 W3 (fun j => j = b) := by rw [← hW3]; exact Chg.set W2 ⟨b, 1, none⟩ _
    have HBX3 : Hid (W3.heap[b]? = some (.cells #[.map (some mb), .int .i64 ((gv : Int) + 1)] 64 (0, 0))) := by show _ = _; rw [← hW3]; exact set_at HBX2.out
    have HX3 : Hid (W3.heap[g]? = some (.cells #[.int .i64 f, .int .i64 t, .string d, .bool s] 71 (0, 0))) := (hc3.block g (lt_of_blk HX2.out) (fun e => by have := HBG.out; omega)).trans HX2.out
    have HC3 : Hid (Chg w W3 (fun j => j = b ∨ Km j)) := HC2.out.trans (hc3.mono (fun j _ e => .inl e))
    have HF3 : Hid (FlM W3 Kn (.map (some mb)) fl pV) := FlM.keep HF2.out (Kp.of_chg hc3 (fun j hj hK e => by subst e; exact HKB.out hK))
    clear hW3 hc3
    go_upto_region 9 with fail
    rw [HW3.out]
    clear q0 q1 fb
    obtain ⟨q0, q1⟩ := cells_2 HBX3.out
    obtain ⟨x0, x1, x2, x3⟩ := cells_4 HX3.out
    obtain ⟨W4, hup, hF4, hc4⟩ := FlM.push (w := W3.drew) (tM := 62) Try.underlying62 (FlM.keep HF3.out (Kp.of_below (below_drew (Below.refl _ _)) _)) (by have := HL.out; omega) ⟨gv + 1, ⟨f, t, d⟩, s⟩ HNO.out HWF.out
    have HF4 : Hid (FlM W4 Kn (.map (some mb)) (fl ++ [⟨gv + 1, ⟨f, t, d⟩, s⟩]) pV) := hF4
    have HC4 : Hid (Chg w W4 (fun j => j = b ∨ Km j)) := chg_kn (HC3.out.trans (Chg.of_below (below_drew (Below.refl _ _)) _)) hc4 HKN.out
    have HBX4 : Hid (W4.heap[b]? = some (.cells #[.map (some mb), .int .i64 ((gv : Int) + 1)] 64 (0, 0))) := (hc4.block b (lt_of_blk HBX3.out) HKB.out).trans HBX3.out
    have hup' : (Instr.mapUpdate 62 (.map (some mb)) (.int .i64 ((gv : Int) + 1)) (.agg #[.int .i64 f, .int .i64 t, .string d, .bool s])).run Try.prog W3.drew = .ok () W4 := hup
    clear hup hF4 hc4
    go_upto_region 10 with fail
    go_region
    clear q0 q1 x0 x1 x2 x3 hup'
    obtain ⟨q0, q1⟩ := cells_2 HBX4.out
    go_wp2_with fail
    go_ret2
    exact ⟨some mb, Kn, rfl, HBX4.out, HF4.out, HC4.out, HKNN.out⟩
end Go.Proofs.Ytfcobhgjkibdgaa
