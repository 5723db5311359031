/-
  heraldlaw16: plays, one call each.
-/
import Derived.Test.YtfcobhgjkibdgaaLSit
namespace Go.Proofs.Ytfcobhgjkibdgaa
open Go.RowKit
set_option linter.unusedVariables false
set_option linter.unusedSimpArgs false

theorem cells_6b {W : World} {b : Nat} {t : TypeId} {x0 x1 x2 x3 x4 x5 : Value} (h : W.heap[b]? = some (.cells #[x0, x1, x2, x3, x4, x5] t (0, 0))) : W.cell? ⟨b, 0, none⟩ = some x0 ∧ W.cell? ⟨b, 1, none⟩ = some x1 ∧ W.cell? ⟨b, 2, none⟩ = some x2 ∧ W.cell? ⟨b, 3, none⟩ = some x3 ∧ W.cell? ⟨b, 4, none⟩ = some x4 ∧ W.cell? ⟨b, 5, none⟩ = some x5 := by
  simp [World.cell?, h]
theorem LnE.below {At : World → (Nat → Prop) → LnT → Value → Prop} (sv : Lines At) {w w' w'' : World} {K K' : Nat → Prop} {L : LnT} {p : Value} (h : LnE At w K L p w' K') (hb : Below w'.heap.size w' w'') : LnE At w K L p w'' K' := ⟨sv.keep h.at' (Kp.of_below hb _), h.chg.trans (Chg.of_below hb _), h.new⟩
theorem LnE.refl {At : World → (Nat → Prop) → LnT → Value → Prop} {w : World} {K : Nat → Prop} {L : LnT} {p : Value} (h : At w K L p) : LnE At w K L p w K := ⟨h, Chg.refl _ _, fun _ hj => .inl hj⟩
theorem Chg.drw {w w' : World} {S : Nat → Prop} (h : Chg w w' S) : Chg w w'.drew S := ⟨h.os, h.tape, h.output, h.size, h.block⟩
theorem But.put3 {w : World} {G : Nat} {x0 x1 x2 : Value} : But G w (put_3 w G x0 x1 x2).drew := (((But.refl G w).set).set).set.drew
set_option maxHeartbeats 6400000 in
set_option maxRecDepth 100000 in
theorem plays_spoil {At : World → (Nat → Prop) → LnT → Value → Prop} (sv : Lines At) (w : World) (K : Nat → Prop) (L : LnT) (p v : Value) (D : Nat) (rv : Value) (on n a t : Int) (ms : List MsT) (ma : Option Addr) (mn mc : Nat) (h : Sit At w K L p v D rv) (hg : L.gv + 300 ≤ MaxG) (hw : (Lit.int .i64 n).wf = true) :
    Calls Try.prog 24 #[p, lnV v L.gv L.no, StL.val ⟨4, on, ms, n, a, t⟩ (.slice ma mn mc), .pointer (some ⟨D, 0, none⟩)] w fun e w' => ∃ K' v' rv', e = .returned (.tuple #[lnV v' (L.spl n a t).1.gv (L.spl n a t).1.no, .bool true]) ∧ PlE At w K p D rv (L.spl n a t).1 w' K' v' rv' := by
  obtain ⟨va, vc, rfl, _⟩ := fl_form h.ref
  obtain ⟨qn, hqn⟩ : ∃ z, L.fl.length = z := ⟨_, rfl⟩
  have HS : Hid (Sit At w K L p (.slice va qn vc) D rv) := by rw [← hqn]; exact h
  have HQ : Hid (L.fl.length = qn) := hqn
  rw [hqn]
  obtain ⟨hA, hB, hC, hbel⟩ := three_blocks (w := w) (t := 56) (cs := #[.slice va qn vc, .int .i64 L.gv, .bool L.no]) (t' := 47) (cs' := #[.int .i64 4, .int .i64 on, .slice ma mn mc, .int .i64 n, .int .i64 a, .int .i64 t]) (t'' := 56) (cs'' := #[.slice none 0 0, .int .i64 0, .bool false])
  obtain ⟨W, hW⟩ : ∃ W, (((w.alloc (.cells #[.slice va qn vc, .int .i64 L.gv, .bool L.no] 56)).alloc (.cells #[.int .i64 4, .int .i64 on, .slice ma mn mc, .int .i64 n, .int .i64 a, .int .i64 t] 47)).alloc (.cells #[.slice none 0 0, .int .i64 0, .bool false] 56)) = W := ⟨_, rfl⟩
  rw [hW] at hA hB hC hbel
  obtain ⟨g, hgg⟩ : ∃ g, w.heap.size = g := ⟨_, rfl⟩
  have HBW : Hid (Below w.heap.size w W) := hbel
  rw [hgg] at hA hB hC
  have HG : Hid (w.heap.size = g) := hgg
  have HW : Hid (_ = W) := hW
  have HA : Hid (W.heap[g]? = some (.cells #[.slice va qn vc, .int .i64 L.gv, .bool L.no] 56 (0, 0))) := hA
  have HB : Hid (W.heap[g + 1]? = some (.cells #[.int .i64 4, .int .i64 on, .slice ma mn mc, .int .i64 n, .int .i64 a, .int .i64 t] 47 (0, 0))) := hB
  have HC : Hid (W.heap[g + 1 + 1]? = some (.cells #[.slice none 0 0, .int .i64 0, .bool false] 56 (0, 0))) := hC
  have HLT : Hid (∀ j, K j → j < g) := fun j hj => by rw [← hgg]; exact sv.lt h.at' j hj
  have HREF : Hid (∀ w', Below w.heap.size w w' → _) := fun w' hb => refSpoil_any L n a t (.slice va qn vc) w' (owns_below HS.out.ref hb) h.ok.len (fun p hp => Nat.le_trans (h.ok.small p hp) (by decide))
  have HPRG : Hid (∀ w', Below w.heap.size w w' → _) := fun w' hb => sv.spoil w' K L p n a t (h.below sv hb).at' h.ok hw
  obtain ⟨c0, c1, c2⟩ := cells_3 hA
  obtain ⟨b0, b1, b2, b3, b4, b5⟩ := cells_6b hB
  clear hW hA hB hC hbel hqn h hgg hw
  go_enter Try.func24, Try.ntmps24
  go_upto_region 1 with fail
  rw [HW.out, HG.out]
  go_wp2_with fail
  refine Calls.mono (HREF.out _ HBW.out) ?_
  rintro e w2 ⟨v2, rfl, hf2, hb2⟩
  obtain ⟨a2, k2, rfl, _⟩ := fl_form hf2
  obtain ⟨R, hR⟩ : ∃ z, L.spl n a t = z := ⟨_, rfl⟩
  have HR : Hid (L.spl n a t = R) := hR
  rw [hR] at hf2 ⊢
  obtain ⟨n2, hn2⟩ : ∃ z, R.1.fl.length = z := ⟨_, rfl⟩
  have HN2 : Hid (R.1.fl.length = n2) := hn2
  rw [hn2]
  have HF2 : Hid (FlAt w2 (.slice a2 n2 k2) R.1.fl) := by rw [← hn2]; exact hf2
  have HB2 : Hid (Below W.heap.size W w2) := hb2
  clear hf2 hb2 hR hn2
  obtain ⟨W3, hW3⟩ : ∃ z, w2.alloc (.cells #[.slice a2 n2 k2, .int .i64 R.1.gv, .bool R.1.no] 56) = z := ⟨_, rfl⟩
  obtain ⟨g3, hg3⟩ : ∃ z, w2.heap.size = z := ⟨_, rfl⟩
  have HX3 : Hid (W3.heap[g3]? = some (.cells #[.slice a2 n2 k2, .int .i64 R.1.gv, .bool R.1.no] 56 (0, 0))) := by show _ = _; rw [← hW3, ← hg3]; exact heap_alloc_new _ _
  have hb3 : Below w2.heap.size w2 W3 := by rw [← hW3]; exact (Below.refl _ _).alloc (Nat.le_refl _) _
  have HF3 : Hid (FlAt W3 (.slice a2 n2 k2) R.1.fl) := owns_below HF2.out hb3
  have HB3 : Hid (Below W.heap.size W W3) := trans2 HB2.out hb3
  have HW3 : Hid (_ = W3) := hW3
  have HG3 : Hid (w2.heap.size = g3) := hg3
  have HGE : Hid (g + 1 + 1 < g3) := by show _ < _; rw [← hg3]; exact Nat.lt_of_lt_of_le (lt_of_blk HC.out) HB2.out.size
  clear hW3 hg3 hb3
  go_upto_region 27 with fail
  rw [HW3.out, HG3.out]
  clear c0 c1 c2 b0 b1 b2 b3 b4 b5
  obtain ⟨b0, b1, b2, b3, b4, b5⟩ := cells_6b (kept_block HB3.out HB.out)
  go_wp2_with fail
  refine Calls.mono (HPRG.out _ (trans2 HBW.out HB3.out)) ?_
  rintro e w4 ⟨K4, rfl, hE⟩
  rw [HR.out] at hE ⊢
  have HE : Hid (LnE At W3 K R.1 p w4 K4) := hE
  have k4 : ∀ j o, g ≤ j → W3.heap[j]? = some o → w4.heap[j]? = some o := fun j o hj hb => by rw [hE.chg.block j (lt_of_blk hb) (fun hk => by have := HLT.out j hk; omega)]; exact hb
  have HX4 : Hid (w4.heap[g3]? = some (.cells #[.slice a2 n2 k2, .int .i64 R.1.gv, .bool R.1.no] 56 (0, 0))) := k4 _ _ (by have := HGE.out; omega) HX3.out
  have HC4 : Hid (w4.heap[g + 1 + 1]? = some (.cells #[.slice none 0 0, .int .i64 0, .bool false] 56 (0, 0))) := k4 _ _ (by omega) (kept_block HB3.out HC.out)
  have HGL : Hid (g + 1 + 1 < W3.heap.size) := Nat.lt_of_lt_of_le (lt_of_blk HC.out) HB3.out.size
  clear hE k4 b0 b1 b2 b3 b4 b5
  have HSW : Hid (∀ w', But (g + 1 + 1) w4 w' → w'.cell? ⟨g3, 0, none⟩ = some (.slice a2 n2 k2) ∧ w'.cell? ⟨g3, 1, none⟩ = some (.int .i64 R.1.gv) ∧ w'.cell? ⟨g3, 2, none⟩ = some (.bool R.1.no)) := fun w' hb => by
    exact cells_3 (hb.blk HX4.out (by have := HGE.out; omega))
  obtain ⟨r0, r1, r2⟩ := cells_3 HC4.out
  have f4 := free_of HC4.out
  have HGX := HGE.out
  go_wp2_with fail
  go_region_held3 (fun w' => w'.cell? ⟨g3, 0, none⟩ = some (.slice a2 n2 k2) ∧ w'.cell? ⟨g3, 1, none⟩ = some (.int .i64 R.1.gv) ∧ w'.cell? ⟨g3, 2, none⟩ = some (.bool R.1.no))
    (first
    | (refine HSW.out _ ?_; repeat (first | exact But.refl _ _ | refine But.drew ?_ | refine But.set ?_))
    | go_keep)
    (first
    | (go_at_call 15
       refine (num_any R.2 _).mono ?_
       rintro e w5 ⟨rfl, rfl⟩))
  all_goals
    go_wp2_with fail
    have e := HR.out
    subst e
    exact bodyPost_ret (results_cell_tmp rfl _ _ (g + 1 + 1) 56 _ (0, 0) _ _ rfl rfl ((heap_drew_at _ _).trans (fill_3 HC4.out)) Try.underlying56 rfl (by kernel_rfl)) rfl ⟨K4, _, rv, rfl, ple_of sv HS.out (trans2 HBW.out HB3.out) HE.out HF3.out (HS.out.ok.spl n a t) ⟨by rw [HG.out]; omega, HGL.out⟩ ⟨_, HC4.out⟩ But.put3 (chg_put3 w4 (g + 1 + 1) _ _ _).drw⟩
set_option maxHeartbeats 6400000 in
set_option maxRecDepth 100000 in
theorem plays_double {At : World → (Nat → Prop) → LnT → Value → Prop} (sv : Lines At) (w : World) (K : Nat → Prop) (L : LnT) (p v : Value) (D : Nat) (rv : Value) (on n a t : Int) (ms : List MsT) (ma : Option Addr) (mn mc : Nat) (h : Sit At w K L p v D rv) (hg : L.gv + 300 ≤ MaxG) (hw : (Lit.int .i64 n).wf = true) :
    Calls Try.prog 24 #[p, lnV v L.gv L.no, StL.val ⟨3, on, ms, n, a, t⟩ (.slice ma mn mc), .pointer (some ⟨D, 0, none⟩)] w fun e w' => ∃ K' v' rv', e = .returned (.tuple #[lnV v' (L.dbl n).1.gv (L.dbl n).1.no, .bool true]) ∧ PlE At w K p D rv (L.dbl n).1 w' K' v' rv' := by
  obtain ⟨va, vc, rfl, _⟩ := fl_form h.ref
  obtain ⟨qn, hqn⟩ : ∃ z, L.fl.length = z := ⟨_, rfl⟩
  have HS : Hid (Sit At w K L p (.slice va qn vc) D rv) := by rw [← hqn]; exact h
  have HQ : Hid (L.fl.length = qn) := hqn
  rw [hqn]
  obtain ⟨hA, hB, hC, hbel⟩ := three_blocks (w := w) (t := 56) (cs := #[.slice va qn vc, .int .i64 L.gv, .bool L.no]) (t' := 47) (cs' := #[.int .i64 3, .int .i64 on, .slice ma mn mc, .int .i64 n, .int .i64 a, .int .i64 t]) (t'' := 56) (cs'' := #[.slice none 0 0, .int .i64 0, .bool false])
  obtain ⟨W, hW⟩ : ∃ W, (((w.alloc (.cells #[.slice va qn vc, .int .i64 L.gv, .bool L.no] 56)).alloc (.cells #[.int .i64 3, .int .i64 on, .slice ma mn mc, .int .i64 n, .int .i64 a, .int .i64 t] 47)).alloc (.cells #[.slice none 0 0, .int .i64 0, .bool false] 56)) = W := ⟨_, rfl⟩
  rw [hW] at hA hB hC hbel
  obtain ⟨g, hgg⟩ : ∃ g, w.heap.size = g := ⟨_, rfl⟩
  have HBW : Hid (Below w.heap.size w W) := hbel
  rw [hgg] at hA hB hC
  have HG : Hid (w.heap.size = g) := hgg
  have HW : Hid (_ = W) := hW
  have HA : Hid (W.heap[g]? = some (.cells #[.slice va qn vc, .int .i64 L.gv, .bool L.no] 56 (0, 0))) := hA
  have HB : Hid (W.heap[g + 1]? = some (.cells #[.int .i64 3, .int .i64 on, .slice ma mn mc, .int .i64 n, .int .i64 a, .int .i64 t] 47 (0, 0))) := hB
  have HC : Hid (W.heap[g + 1 + 1]? = some (.cells #[.slice none 0 0, .int .i64 0, .bool false] 56 (0, 0))) := hC
  have HLT : Hid (∀ j, K j → j < g) := fun j hj => by rw [← hgg]; exact sv.lt h.at' j hj
  have HREF : Hid (∀ w', Below w.heap.size w w' → _) := fun w' hb => refDouble_any L n (.slice va qn vc) w' (owns_below HS.out.ref hb) h.ok.len (by unfold MaxG at hg; omega)
  have HPRG : Hid (∀ w', Below w.heap.size w w' → _) := fun w' hb => sv.double w' K L p n (h.below sv hb).at' h.ok (by omega) hw
  obtain ⟨c0, c1, c2⟩ := cells_3 hA
  obtain ⟨b0, b1, b2, b3, b4, b5⟩ := cells_6b hB
  clear hW hA hB hC hbel hqn h hgg hw
  go_enter Try.func24, Try.ntmps24
  go_upto_region 1 with fail
  rw [HW.out, HG.out]
  go_wp2_with fail
  refine Calls.mono (HREF.out _ HBW.out) ?_
  rintro e w2 ⟨v2, rfl, hf2, hb2⟩
  obtain ⟨a2, k2, rfl, _⟩ := fl_form hf2
  obtain ⟨R, hR⟩ : ∃ z, L.dbl n = z := ⟨_, rfl⟩
  have HR : Hid (L.dbl n = R) := hR
  rw [hR] at hf2 ⊢
  obtain ⟨n2, hn2⟩ : ∃ z, R.1.fl.length = z := ⟨_, rfl⟩
  have HN2 : Hid (R.1.fl.length = n2) := hn2
  rw [hn2]
  have HF2 : Hid (FlAt w2 (.slice a2 n2 k2) R.1.fl) := by rw [← hn2]; exact hf2
  have HB2 : Hid (Below W.heap.size W w2) := hb2
  clear hf2 hb2 hR hn2
  obtain ⟨W3, hW3⟩ : ∃ z, w2.alloc (.cells #[.slice a2 n2 k2, .int .i64 R.1.gv, .bool R.1.no] 56) = z := ⟨_, rfl⟩
  obtain ⟨g3, hg3⟩ : ∃ z, w2.heap.size = z := ⟨_, rfl⟩
  have HX3 : Hid (W3.heap[g3]? = some (.cells #[.slice a2 n2 k2, .int .i64 R.1.gv, .bool R.1.no] 56 (0, 0))) := by show _ = _; rw [← hW3, ← hg3]; exact heap_alloc_new _ _
  have hb3 : Below w2.heap.size w2 W3 := by rw [← hW3]; exact (Below.refl _ _).alloc (Nat.le_refl _) _
  have HF3 : Hid (FlAt W3 (.slice a2 n2 k2) R.1.fl) := owns_below HF2.out hb3
  have HB3 : Hid (Below W.heap.size W W3) := trans2 HB2.out hb3
  have HW3 : Hid (_ = W3) := hW3
  have HG3 : Hid (w2.heap.size = g3) := hg3
  have HGE : Hid (g + 1 + 1 < g3) := by show _ < _; rw [← hg3]; exact Nat.lt_of_lt_of_le (lt_of_blk HC.out) HB2.out.size
  clear hW3 hg3 hb3
  go_upto_region 23 with fail
  rw [HW3.out, HG3.out]
  clear c0 c1 c2 b0 b1 b2 b3 b4 b5
  obtain ⟨b0, b1, b2, b3, b4, b5⟩ := cells_6b (kept_block HB3.out HB.out)
  go_wp2_with fail
  refine Calls.mono (HPRG.out _ (trans2 HBW.out HB3.out)) ?_
  rintro e w4 ⟨K4, rfl, hE⟩
  rw [HR.out] at hE ⊢
  have HE : Hid (LnE At W3 K R.1 p w4 K4) := hE
  have k4 : ∀ j o, g ≤ j → W3.heap[j]? = some o → w4.heap[j]? = some o := fun j o hj hb => by rw [hE.chg.block j (lt_of_blk hb) (fun hk => by have := HLT.out j hk; omega)]; exact hb
  have HX4 : Hid (w4.heap[g3]? = some (.cells #[.slice a2 n2 k2, .int .i64 R.1.gv, .bool R.1.no] 56 (0, 0))) := k4 _ _ (by have := HGE.out; omega) HX3.out
  have HC4 : Hid (w4.heap[g + 1 + 1]? = some (.cells #[.slice none 0 0, .int .i64 0, .bool false] 56 (0, 0))) := k4 _ _ (by omega) (kept_block HB3.out HC.out)
  have HGL : Hid (g + 1 + 1 < W3.heap.size) := Nat.lt_of_lt_of_le (lt_of_blk HC.out) HB3.out.size
  clear hE k4 b0 b1 b2 b3 b4 b5
  have HSW : Hid (∀ w', But (g + 1 + 1) w4 w' → w'.cell? ⟨g3, 0, none⟩ = some (.slice a2 n2 k2) ∧ w'.cell? ⟨g3, 1, none⟩ = some (.int .i64 R.1.gv) ∧ w'.cell? ⟨g3, 2, none⟩ = some (.bool R.1.no)) := fun w' hb => by
    exact cells_3 (hb.blk HX4.out (by have := HGE.out; omega))
  obtain ⟨r0, r1, r2⟩ := cells_3 HC4.out
  have f4 := free_of HC4.out
  have HGX := HGE.out
  go_wp2_with fail
  go_region_held3 (fun w' => w'.cell? ⟨g3, 0, none⟩ = some (.slice a2 n2 k2) ∧ w'.cell? ⟨g3, 1, none⟩ = some (.int .i64 R.1.gv) ∧ w'.cell? ⟨g3, 2, none⟩ = some (.bool R.1.no))
    (first
    | (refine HSW.out _ ?_; repeat (first | exact But.refl _ _ | refine But.drew ?_ | refine But.set ?_))
    | go_keep)
    (first
    | (go_at_call 15
       refine (num_any R.2.2 _).mono ?_
       rintro e w5 ⟨rfl, rfl⟩))
  all_goals
    go_wp2_with fail
    have e := HR.out
    subst e
    exact bodyPost_ret (results_cell_tmp rfl _ _ (g + 1 + 1) 56 _ (0, 0) _ _ rfl rfl ((heap_drew_at _ _).trans (fill_3 HC4.out)) Try.underlying56 rfl (by kernel_rfl)) rfl ⟨K4, _, rv, rfl, ple_of sv HS.out (trans2 HBW.out HB3.out) HE.out HF3.out (HS.out.ok.dbl n) ⟨by rw [HG.out]; omega, HGL.out⟩ ⟨_, HC4.out⟩ But.put3 (chg_put3 w4 (g + 1 + 1) _ _ _).drw⟩
set_option maxHeartbeats 6400000 in
set_option maxRecDepth 100000 in
theorem plays_take {At : World → (Nat → Prop) → LnT → Value → Prop} (sv : Lines At) (w : World) (K : Nat → Prop) (L : LnT) (p v : Value) (D : Nat) (rv : Value) (on n a t : Int) (ms : List MsT) (ma : Option Addr) (mn mc : Nat) (h : Sit At w K L p v D rv) (hg : L.gv + 300 ≤ MaxG) (hw : (Lit.int .i64 n).wf = true) :
    Calls Try.prog 24 #[p, lnV v L.gv L.no, StL.val ⟨2, on, ms, n, a, t⟩ (.slice ma mn mc), .pointer (some ⟨D, 0, none⟩)] w fun e w' => ∃ K' v' rv', e = .returned (.tuple #[lnV v' (L.tak n).1.gv (L.tak n).1.no, .bool true]) ∧ PlE At w K p D rv (L.tak n).1 w' K' v' rv' := by
  obtain ⟨va, vc, rfl, _⟩ := fl_form h.ref
  obtain ⟨qn, hqn⟩ : ∃ z, L.fl.length = z := ⟨_, rfl⟩
  have HS : Hid (Sit At w K L p (.slice va qn vc) D rv) := by rw [← hqn]; exact h
  have HQ : Hid (L.fl.length = qn) := hqn
  rw [hqn]
  obtain ⟨hA, hB, hC, hbel⟩ := three_blocks (w := w) (t := 56) (cs := #[.slice va qn vc, .int .i64 L.gv, .bool L.no]) (t' := 47) (cs' := #[.int .i64 2, .int .i64 on, .slice ma mn mc, .int .i64 n, .int .i64 a, .int .i64 t]) (t'' := 56) (cs'' := #[.slice none 0 0, .int .i64 0, .bool false])
  obtain ⟨W, hW⟩ : ∃ W, (((w.alloc (.cells #[.slice va qn vc, .int .i64 L.gv, .bool L.no] 56)).alloc (.cells #[.int .i64 2, .int .i64 on, .slice ma mn mc, .int .i64 n, .int .i64 a, .int .i64 t] 47)).alloc (.cells #[.slice none 0 0, .int .i64 0, .bool false] 56)) = W := ⟨_, rfl⟩
  rw [hW] at hA hB hC hbel
  obtain ⟨g, hgg⟩ : ∃ g, w.heap.size = g := ⟨_, rfl⟩
  have HBW : Hid (Below w.heap.size w W) := hbel
  rw [hgg] at hA hB hC
  have HG : Hid (w.heap.size = g) := hgg
  have HW : Hid (_ = W) := hW
  have HA : Hid (W.heap[g]? = some (.cells #[.slice va qn vc, .int .i64 L.gv, .bool L.no] 56 (0, 0))) := hA
  have HB : Hid (W.heap[g + 1]? = some (.cells #[.int .i64 2, .int .i64 on, .slice ma mn mc, .int .i64 n, .int .i64 a, .int .i64 t] 47 (0, 0))) := hB
  have HC : Hid (W.heap[g + 1 + 1]? = some (.cells #[.slice none 0 0, .int .i64 0, .bool false] 56 (0, 0))) := hC
  have HLT : Hid (∀ j, K j → j < g) := fun j hj => by rw [← hgg]; exact sv.lt h.at' j hj
  have HREF : Hid (∀ w', Below w.heap.size w w' → _) := fun w' hb => refTake_any L n (.slice va qn vc) w' (owns_below HS.out.ref hb) h.ok.len
  have HPRG : Hid (∀ w', Below w.heap.size w w' → _) := fun w' hb => sv.take w' K L p n (h.below sv hb).at' h.ok hw
  obtain ⟨c0, c1, c2⟩ := cells_3 hA
  obtain ⟨b0, b1, b2, b3, b4, b5⟩ := cells_6b hB
  clear hW hA hB hC hbel hqn h hgg hw
  go_enter Try.func24, Try.ntmps24
  go_upto_region 1 with fail
  rw [HW.out, HG.out]
  go_wp2_with fail
  refine Calls.mono (HREF.out _ HBW.out) ?_
  rintro e w2 ⟨v2, rfl, hf2, hb2⟩
  obtain ⟨a2, k2, rfl, _⟩ := fl_form hf2
  obtain ⟨R, hR⟩ : ∃ z, L.tak n = z := ⟨_, rfl⟩
  have HR : Hid (L.tak n = R) := hR
  rw [hR] at hf2 ⊢
  obtain ⟨n2, hn2⟩ : ∃ z, R.1.fl.length = z := ⟨_, rfl⟩
  have HN2 : Hid (R.1.fl.length = n2) := hn2
  rw [hn2]
  have HF2 : Hid (FlAt w2 (.slice a2 n2 k2) R.1.fl) := by rw [← hn2]; exact hf2
  have HB2 : Hid (Below W.heap.size W w2) := hb2
  clear hf2 hb2 hR hn2
  obtain ⟨hp1, hp2, hb3⟩ := pair_blocks (w := w2) (t := 56) (cs := #[.slice a2 n2 k2, .int .i64 R.1.gv, .bool R.1.no]) (t' := 23) (cs' := #[.int .i64 R.2.1.f, .int .i64 R.2.1.t, .string R.2.1.b])
  obtain ⟨W3, hW3⟩ : ∃ z, ((w2.alloc (.cells #[.slice a2 n2 k2, .int .i64 R.1.gv, .bool R.1.no] 56)).alloc (.cells #[.int .i64 R.2.1.f, .int .i64 R.2.1.t, .string R.2.1.b] 23)) = z := ⟨_, rfl⟩
  obtain ⟨g3, hg3⟩ : ∃ z, w2.heap.size = z := ⟨_, rfl⟩
  rw [hW3] at hp1 hp2 hb3
  rw [hg3] at hp1 hp2
  have HX3 : Hid (W3.heap[g3]? = some (.cells #[.slice a2 n2 k2, .int .i64 R.1.gv, .bool R.1.no] 56 (0, 0))) := hp1
  have HY3 : Hid (W3.heap[g3 + 1]? = some (.cells #[.int .i64 R.2.1.f, .int .i64 R.2.1.t, .string R.2.1.b] 23 (0, 0))) := hp2
  have HF3 : Hid (FlAt W3 (.slice a2 n2 k2) R.1.fl) := owns_below HF2.out hb3
  have HB3 : Hid (Below W.heap.size W W3) := trans2 HB2.out hb3
  have HW3 : Hid (_ = W3) := hW3
  have HG3 : Hid (w2.heap.size = g3) := hg3
  have HGE : Hid (g + 1 + 1 < g3) := by show _ < _; rw [← hg3]; exact Nat.lt_of_lt_of_le (lt_of_blk HC.out) HB2.out.size
  clear hW3 hg3 hb3 hp1 hp2
  go_upto_region 19 with fail
  rw [HW3.out, HG3.out]
  clear c0 c1 c2 b0 b1 b2 b3 b4 b5
  obtain ⟨b0, b1, b2, b3, b4, b5⟩ := cells_6b (kept_block HB3.out HB.out)
  go_wp2_with fail
  refine Calls.mono (HPRG.out _ (trans2 HBW.out HB3.out)) ?_
  rintro e w4 ⟨K4, rfl, hE⟩
  rw [HR.out] at hE ⊢
  have HE : Hid (LnE At W3 K R.1 p w4 K4) := hE
  have k4 : ∀ j o, g ≤ j → W3.heap[j]? = some o → w4.heap[j]? = some o := fun j o hj hb => by rw [hE.chg.block j (lt_of_blk hb) (fun hk => by have := HLT.out j hk; omega)]; exact hb
  have HX4 : Hid (w4.heap[g3]? = some (.cells #[.slice a2 n2 k2, .int .i64 R.1.gv, .bool R.1.no] 56 (0, 0))) := k4 _ _ (by have := HGE.out; omega) HX3.out
  have HY4 : Hid (w4.heap[g3 + 1]? = some (.cells #[.int .i64 R.2.1.f, .int .i64 R.2.1.t, .string R.2.1.b] 23 (0, 0))) := k4 _ _ (by have := HGE.out; omega) HY3.out
  have HC4 : Hid (w4.heap[g + 1 + 1]? = some (.cells #[.slice none 0 0, .int .i64 0, .bool false] 56 (0, 0))) := k4 _ _ (by omega) (kept_block HB3.out HC.out)
  have HGL : Hid (g + 1 + 1 < W3.heap.size) := Nat.lt_of_lt_of_le (lt_of_blk HC.out) HB3.out.size
  clear hE k4 b0 b1 b2 b3 b4 b5
  obtain ⟨W5, hW5⟩ : ∃ z, w4.alloc (.cells #[.int .i64 R.2.1.f, .int .i64 R.2.1.t, .string R.2.1.b] 23) = z := ⟨_, rfl⟩
  obtain ⟨g5, hg5⟩ : ∃ z, w4.heap.size = z := ⟨_, rfl⟩
  have HZ5 : Hid (W5.heap[g5]? = some (.cells #[.int .i64 R.2.1.f, .int .i64 R.2.1.t, .string R.2.1.b] 23 (0, 0))) := by show _ = _; rw [← hW5, ← hg5]; exact heap_alloc_new _ _
  have hb5 : Below w4.heap.size w4 W5 := by rw [← hW5]; exact (Below.refl _ _).alloc (Nat.le_refl _) _
  have HB5 : Hid (Below w4.heap.size w4 W5) := hb5
  have HC5 : Hid (W5.heap[g + 1 + 1]? = some (.cells #[.slice none 0 0, .int .i64 0, .bool false] 56 (0, 0))) := kept_block hb5 HC4.out
  have HG5 : Hid (w4.heap.size = g5 ∧ g + 1 + 1 < g5) := ⟨hg5, by rw [← hg5]; exact lt_of_blk HC4.out⟩
  have HW5 : Hid (_ = W5) := hW5
  clear hW5 hg5 hb5
  go_upto_region 20 with fail
  rw [HW5.out, HG5.out.1]
  have HSW : Hid (∀ w', But (g + 1 + 1) W5 w' → (w'.cell? ⟨g3, 0, none⟩ = some (.slice a2 n2 k2) ∧ w'.cell? ⟨g3, 1, none⟩ = some (.int .i64 R.1.gv) ∧ w'.cell? ⟨g3, 2, none⟩ = some (.bool R.1.no)) ∧ (w'.cell? ⟨g3 + 1, 0, none⟩ = some (.int .i64 R.2.1.f) ∧ w'.cell? ⟨g3 + 1, 1, none⟩ = some (.int .i64 R.2.1.t) ∧ w'.cell? ⟨g3 + 1, 2, none⟩ = some (.string R.2.1.b)) ∧ w'.cell? ⟨g5, 0, none⟩ = some (.int .i64 R.2.1.f) ∧ w'.cell? ⟨g5, 1, none⟩ = some (.int .i64 R.2.1.t) ∧ w'.cell? ⟨g5, 2, none⟩ = some (.string R.2.1.b)) := fun w' hb => by
    have h1 := HGE.out
    have h2 := HG5.out.2
    exact ⟨cells_3 (hb.blk (kept_block HB5.out HX4.out) (by omega)), cells_3 (hb.blk (kept_block HB5.out HY4.out) (by omega)), cells_3 (hb.blk HZ5.out (by omega))⟩
  obtain ⟨r0, r1, r2⟩ := cells_3 HC5.out
  have f4 := free_of HC5.out
  have HGX := HGE.out
  have HGY := HG5.out.2
  go_wp2_with fail
  go_region_held3 (fun w' => (w'.cell? ⟨g3, 0, none⟩ = some (.slice a2 n2 k2) ∧ w'.cell? ⟨g3, 1, none⟩ = some (.int .i64 R.1.gv) ∧ w'.cell? ⟨g3, 2, none⟩ = some (.bool R.1.no)) ∧ (w'.cell? ⟨g3 + 1, 0, none⟩ = some (.int .i64 R.2.1.f) ∧ w'.cell? ⟨g3 + 1, 1, none⟩ = some (.int .i64 R.2.1.t) ∧ w'.cell? ⟨g3 + 1, 2, none⟩ = some (.string R.2.1.b)) ∧ w'.cell? ⟨g5, 0, none⟩ = some (.int .i64 R.2.1.f) ∧ w'.cell? ⟨g5, 1, none⟩ = some (.int .i64 R.2.1.t) ∧ w'.cell? ⟨g5, 2, none⟩ = some (.string R.2.1.b))
    (first
    | (refine HSW.out _ ?_; repeat (first | exact But.refl _ _ | refine But.drew ?_ | refine But.set ?_))
    | go_keep)
    (first
    | (go_at_call 15
       refine (num_any R.2.2 _).mono ?_
       rintro e w5 ⟨rfl, rfl⟩))
  all_goals
    go_wp2_with fail
    have e := HR.out
    subst e
    exact bodyPost_ret (results_cell_tmp rfl _ _ (g + 1 + 1) 56 _ (0, 0) _ _ rfl rfl ((heap_drew_at _ _).trans (fill_3 HC5.out)) Try.underlying56 rfl (by kernel_rfl)) rfl ⟨K4, _, rv, rfl, ple_of sv HS.out (trans2 HBW.out HB3.out) (HE.out.below sv HB5.out) HF3.out (HS.out.ok.tak n) ⟨by rw [HG.out]; omega, HGL.out⟩ ⟨_, HC5.out⟩ But.put3 (chg_put3 W5 (g + 1 + 1) _ _ _).drw⟩
set_option maxHeartbeats 6400000 in
set_option maxRecDepth 100000 in
theorem plays_look {At : World → (Nat → Prop) → LnT → Value → Prop} (sv : Lines At) (w : World) (K : Nat → Prop) (L : LnT) (p v : Value) (D : Nat) (rv : Value) (on n a t : Int) (ms : List MsT) (ma : Option Addr) (mn mc : Nat) (h : Sit At w K L p v D rv) (hg : L.gv + 300 ≤ MaxG) (hw : (Lit.int .i64 n).wf = true) :
    Calls Try.prog 24 #[p, lnV v L.gv L.no, StL.val ⟨5, on, ms, n, a, t⟩ (.slice ma mn mc), .pointer (some ⟨D, 0, none⟩)] w fun e w' => ∃ K' v' rv', e = .returned (.tuple #[lnV v' L.gv L.no, .bool true]) ∧ PlE At w K p D rv L w' K' v' rv' := by
  obtain ⟨va, vc, rfl, _⟩ := fl_form h.ref
  obtain ⟨qn, hqn⟩ : ∃ z, L.fl.length = z := ⟨_, rfl⟩
  have HS : Hid (Sit At w K L p (.slice va qn vc) D rv) := by rw [← hqn]; exact h
  have HQ : Hid (L.fl.length = qn) := hqn
  rw [hqn]
  obtain ⟨hA, hB, hC, hbel⟩ := three_blocks (w := w) (t := 56) (cs := #[.slice va qn vc, .int .i64 L.gv, .bool L.no]) (t' := 47) (cs' := #[.int .i64 5, .int .i64 on, .slice ma mn mc, .int .i64 n, .int .i64 a, .int .i64 t]) (t'' := 56) (cs'' := #[.slice none 0 0, .int .i64 0, .bool false])
  obtain ⟨W, hW⟩ : ∃ W, (((w.alloc (.cells #[.slice va qn vc, .int .i64 L.gv, .bool L.no] 56)).alloc (.cells #[.int .i64 5, .int .i64 on, .slice ma mn mc, .int .i64 n, .int .i64 a, .int .i64 t] 47)).alloc (.cells #[.slice none 0 0, .int .i64 0, .bool false] 56)) = W := ⟨_, rfl⟩
  rw [hW] at hA hB hC hbel
  obtain ⟨g, hgg⟩ : ∃ g, w.heap.size = g := ⟨_, rfl⟩
  have HBW : Hid (Below w.heap.size w W) := hbel
  rw [hgg] at hA hB hC
  have HG : Hid (w.heap.size = g) := hgg
  have HW : Hid (_ = W) := hW
  have HA : Hid (W.heap[g]? = some (.cells #[.slice va qn vc, .int .i64 L.gv, .bool L.no] 56 (0, 0))) := hA
  have HB : Hid (W.heap[g + 1]? = some (.cells #[.int .i64 5, .int .i64 on, .slice ma mn mc, .int .i64 n, .int .i64 a, .int .i64 t] 47 (0, 0))) := hB
  have HC : Hid (W.heap[g + 1 + 1]? = some (.cells #[.slice none 0 0, .int .i64 0, .bool false] 56 (0, 0))) := hC
  have HLT : Hid (∀ j, K j → j < g) := fun j hj => by rw [← hgg]; exact sv.lt h.at' j hj
  have HREF : Hid (∀ w', Below w.heap.size w w' → _) := fun w' hb => refLook_any L.fl L.gv L.no n (.slice va qn vc) w' (owns_below HS.out.ref hb) h.ok.len
  have HPRG : Hid (∀ w', Below w.heap.size w w' → _) := fun w' hb => sv.look w' K L p n (h.below sv hb).at' h.ok hw
  obtain ⟨c0, c1, c2⟩ := cells_3 hA
  obtain ⟨b0, b1, b2, b3, b4, b5⟩ := cells_6b hB
  clear hW hA hB hC hbel hqn h hgg hw
  go_enter Try.func24, Try.ntmps24
  go_upto_region 1 with fail
  rw [HW.out, HG.out]
  go_wp2_with fail
  refine Calls.mono (HREF.out _ HBW.out) ?_
  rintro e w2 ⟨rfl, hb2⟩
  obtain ⟨R, hR⟩ : ∃ z, lookM L.fl n = z := ⟨_, rfl⟩
  rw [hR] at HPRG ⊢
  obtain ⟨W3, hW3⟩ : ∃ z, w2.alloc (.cells #[.int .i64 R.1.f, .int .i64 R.1.t, .string R.1.b] 23) = z := ⟨_, rfl⟩
  obtain ⟨g3, hg3⟩ : ∃ z, w2.heap.size = z := ⟨_, rfl⟩
  have HY3 : Hid (W3.heap[g3]? = some (.cells #[.int .i64 R.1.f, .int .i64 R.1.t, .string R.1.b] 23 (0, 0))) := by show _ = _; rw [← hW3, ← hg3]; exact heap_alloc_new _ _
  have hb3 : Below w2.heap.size w2 W3 := by rw [← hW3]; exact (Below.refl _ _).alloc (Nat.le_refl _) _
  have HB3 : Hid (Below W.heap.size W W3) := trans2 hb2 hb3
  have HW3 : Hid (_ = W3) := hW3
  have HG3 : Hid (w2.heap.size = g3) := hg3
  have HGE : Hid (g + 1 + 1 < g3) := by show _ < _; rw [← hg3]; exact Nat.lt_of_lt_of_le (lt_of_blk HC.out) hb2.size
  clear hW3 hg3 hb3 hb2 hR
  go_upto_region 31 with fail
  rw [HW3.out, HG3.out]
  clear c0 c1 c2 b0 b1 b2 b3 b4 b5
  obtain ⟨b0, b1, b2, b3, b4, b5⟩ := cells_6b (kept_block HB3.out HB.out)
  go_wp2_with fail
  refine Calls.mono (HPRG.out _ (trans2 HBW.out HB3.out)) ?_
  rintro e w4 ⟨K4, rfl, hE⟩
  have HE : Hid (LnE At W3 K L p w4 K4) := hE
  have k4 : ∀ j o, g ≤ j → W3.heap[j]? = some o → w4.heap[j]? = some o := fun j o hj hb => by rw [hE.chg.block j (lt_of_blk hb) (fun hk => by have := HLT.out j hk; omega)]; exact hb
  have HY4 : Hid (w4.heap[g3]? = some (.cells #[.int .i64 R.1.f, .int .i64 R.1.t, .string R.1.b] 23 (0, 0))) := k4 _ _ (by have := HGE.out; omega) HY3.out
  have HA4 : Hid (w4.heap[g]? = some (.cells #[.slice va qn vc, .int .i64 L.gv, .bool L.no] 56 (0, 0))) := k4 _ _ (by omega) (kept_block HB3.out HA.out)
  have HC4 : Hid (w4.heap[g + 1 + 1]? = some (.cells #[.slice none 0 0, .int .i64 0, .bool false] 56 (0, 0))) := k4 _ _ (by omega) (kept_block HB3.out HC.out)
  have HGL : Hid (g + 1 + 1 < W3.heap.size) := Nat.lt_of_lt_of_le (lt_of_blk HC.out) HB3.out.size
  have HF3 : Hid (FlAt W3 (.slice va qn vc) L.fl) := owns_below HS.out.ref (trans2 HBW.out HB3.out)
  clear hE k4 b0 b1 b2 b3 b4 b5
  obtain ⟨W5, hW5⟩ : ∃ z, w4.alloc (.cells #[.int .i64 R.1.f, .int .i64 R.1.t, .string R.1.b] 23) = z := ⟨_, rfl⟩
  obtain ⟨g5, hg5⟩ : ∃ z, w4.heap.size = z := ⟨_, rfl⟩
  have HZ5 : Hid (W5.heap[g5]? = some (.cells #[.int .i64 R.1.f, .int .i64 R.1.t, .string R.1.b] 23 (0, 0))) := by show _ = _; rw [← hW5, ← hg5]; exact heap_alloc_new _ _
  have hb5 : Below w4.heap.size w4 W5 := by rw [← hW5]; exact (Below.refl _ _).alloc (Nat.le_refl _) _
  have HB5 : Hid (Below w4.heap.size w4 W5) := hb5
  have HC5 : Hid (W5.heap[g + 1 + 1]? = some (.cells #[.slice none 0 0, .int .i64 0, .bool false] 56 (0, 0))) := kept_block hb5 HC4.out
  have HG5 : Hid (w4.heap.size = g5 ∧ g + 1 + 1 < g5) := ⟨hg5, by rw [← hg5]; exact lt_of_blk HC4.out⟩
  have HW5 : Hid (_ = W5) := hW5
  clear hW5 hg5 hb5
  go_upto_region 32 with fail
  rw [HW5.out, HG5.out.1]
  have HSW : Hid (∀ w', But (g + 1 + 1) W5 w' → (w'.cell? ⟨g, 0, none⟩ = some (.slice va qn vc) ∧ w'.cell? ⟨g, 1, none⟩ = some (.int .i64 L.gv) ∧ w'.cell? ⟨g, 2, none⟩ = some (.bool L.no)) ∧ (w'.cell? ⟨g3, 0, none⟩ = some (.int .i64 R.1.f) ∧ w'.cell? ⟨g3, 1, none⟩ = some (.int .i64 R.1.t) ∧ w'.cell? ⟨g3, 2, none⟩ = some (.string R.1.b)) ∧ w'.cell? ⟨g5, 0, none⟩ = some (.int .i64 R.1.f) ∧ w'.cell? ⟨g5, 1, none⟩ = some (.int .i64 R.1.t) ∧ w'.cell? ⟨g5, 2, none⟩ = some (.string R.1.b)) := fun w' hb => by
    have h1 := HGE.out
    have h2 := HG5.out.2
    exact ⟨cells_3 (hb.blk (kept_block HB5.out HA4.out) (by omega)), cells_3 (hb.blk (kept_block HB5.out HY4.out) (by omega)), cells_3 (hb.blk HZ5.out (by omega))⟩
  obtain ⟨r0, r1, r2⟩ := cells_3 HC5.out
  have f4 := free_of HC5.out
  have HGX := HGE.out
  have HGY := HG5.out.2
  go_wp2_with fail
  go_region_held3 (fun w' => (w'.cell? ⟨g, 0, none⟩ = some (.slice va qn vc) ∧ w'.cell? ⟨g, 1, none⟩ = some (.int .i64 L.gv) ∧ w'.cell? ⟨g, 2, none⟩ = some (.bool L.no)) ∧ (w'.cell? ⟨g3, 0, none⟩ = some (.int .i64 R.1.f) ∧ w'.cell? ⟨g3, 1, none⟩ = some (.int .i64 R.1.t) ∧ w'.cell? ⟨g3, 2, none⟩ = some (.string R.1.b)) ∧ w'.cell? ⟨g5, 0, none⟩ = some (.int .i64 R.1.f) ∧ w'.cell? ⟨g5, 1, none⟩ = some (.int .i64 R.1.t) ∧ w'.cell? ⟨g5, 2, none⟩ = some (.string R.1.b))
    (first
    | (refine HSW.out _ ?_; repeat (first | exact But.refl _ _ | refine But.drew ?_ | refine But.set ?_))
    | go_keep)
    (first
    | (go_at_call 15
       refine (num_any R.2 _).mono ?_
       rintro e w5 ⟨rfl, rfl⟩))
  all_goals
    go_wp2_with fail
    exact bodyPost_ret (results_cell_tmp rfl _ _ (g + 1 + 1) 56 _ (0, 0) _ _ rfl rfl ((heap_drew_at _ _).trans (fill_3 HC5.out)) Try.underlying56 rfl (by kernel_rfl)) rfl ⟨K4, _, rv, rfl, ple_of sv HS.out (trans2 HBW.out HB3.out) (HE.out.below sv HB5.out) HF3.out (HS.out.ok) ⟨by rw [HG.out]; omega, HGL.out⟩ ⟨_, HC5.out⟩ But.put3 (chg_put3 W5 (g + 1 + 1) _ _ _).drw⟩
set_option maxHeartbeats 6400000 in
set_option maxRecDepth 100000 in
theorem plays_else {At : World → (Nat → Prop) → LnT → Value → Prop} (sv : Lines At) (w : World) (K : Nat → Prop) (L : LnT) (p v : Value) (D : Nat) (rv : Value) (kind on n a t : Int) (ms : List MsT) (ma : Option Addr) (mn mc : Nat) (h : Sit At w K L p v D rv) (hg : L.gv + 300 ≤ MaxG) (hk : kind < 1 ∨ 6 < kind) :
    Calls Try.prog 24 #[p, lnV v L.gv L.no, StL.val ⟨kind, on, ms, n, a, t⟩ (.slice ma mn mc), .pointer (some ⟨D, 0, none⟩)] w fun e w' => ∃ K' v' rv', e = .returned (.tuple #[lnV v' L.gv L.no, .bool true]) ∧ PlE At w K p D rv L w' K' v' rv' := by
  obtain ⟨va, vc, rfl, _⟩ := fl_form h.ref
  obtain ⟨qn, hqn⟩ : ∃ z, L.fl.length = z := ⟨_, rfl⟩
  have HS : Hid (Sit At w K L p (.slice va qn vc) D rv) := by rw [← hqn]; exact h
  have HQ : Hid (L.fl.length = qn) := hqn
  rw [hqn]
  obtain ⟨hA, hB, hC, hbel⟩ := three_blocks (w := w) (t := 56) (cs := #[.slice va qn vc, .int .i64 L.gv, .bool L.no]) (t' := 47) (cs' := #[.int .i64 kind, .int .i64 on, .slice ma mn mc, .int .i64 n, .int .i64 a, .int .i64 t]) (t'' := 56) (cs'' := #[.slice none 0 0, .int .i64 0, .bool false])
  obtain ⟨W, hW⟩ : ∃ W, (((w.alloc (.cells #[.slice va qn vc, .int .i64 L.gv, .bool L.no] 56)).alloc (.cells #[.int .i64 kind, .int .i64 on, .slice ma mn mc, .int .i64 n, .int .i64 a, .int .i64 t] 47)).alloc (.cells #[.slice none 0 0, .int .i64 0, .bool false] 56)) = W := ⟨_, rfl⟩
  rw [hW] at hA hB hC hbel
  obtain ⟨g, hgg⟩ : ∃ g, w.heap.size = g := ⟨_, rfl⟩
  have HBW : Hid (Below w.heap.size w W) := hbel
  rw [hgg] at hA hB hC
  have HG : Hid (w.heap.size = g) := hgg
  have HW : Hid (_ = W) := hW
  have HA : Hid (W.heap[g]? = some (.cells #[.slice va qn vc, .int .i64 L.gv, .bool L.no] 56 (0, 0))) := hA
  have HB : Hid (W.heap[g + 1]? = some (.cells #[.int .i64 kind, .int .i64 on, .slice ma mn mc, .int .i64 n, .int .i64 a, .int .i64 t] 47 (0, 0))) := hB
  have HC : Hid (W.heap[g + 1 + 1]? = some (.cells #[.slice none 0 0, .int .i64 0, .bool false] 56 (0, 0))) := hC
  have HLT : Hid (∀ j, K j → j < g) := fun j hj => by rw [← hgg]; exact sv.lt h.at' j hj
  obtain ⟨c0, c1, c2⟩ := cells_3 hA
  obtain ⟨b0, b1, b2, b3, b4, b5⟩ := cells_6b hB
  clear hW hA hB hC hbel hqn h hgg
  go_enter Try.func24, Try.ntmps24
  go_upto_region 1 with fail
  rw [HW.out, HG.out]
  have e1 : (kind == 1) = false := by simp; omega
  have e2 : (kind == 2) = false := by simp; omega
  have e3 : (kind == 3) = false := by simp; omega
  have e4 : (kind == 4) = false := by simp; omega
  have e5 : (kind == 5) = false := by simp; omega
  have e6 : (kind == 6) = false := by simp; omega
  obtain ⟨r0, r1, r2⟩ := cells_3 HC.out
  have f4 := free_of HC.out
  clear hk
  go_wp2_with fail
  exact bodyPost_ret (results_cell_tmp rfl _ _ (g + 1 + 1) 56 _ (0, 0) _ _ rfl rfl (fill_3 HC.out) Try.underlying56 rfl (by kernel_rfl)) rfl ⟨K, _, rv, rfl, ple_of sv HS.out HBW.out (LnE.refl (sv.keep HS.out.at' (Kp.of_below HBW.out _))) (owns_below HS.out.ref HBW.out) HS.out.ok ⟨by rw [HG.out]; omega, lt_of_blk HC.out⟩ ⟨_, HC.out⟩ (((But.refl _ _).set).set).set (chg_put3 W (g + 1 + 1) _ _ _)⟩
end Go.Proofs.Ytfcobhgjkibdgaa
