/-
  heraldlaw16: plays, Numbers.
-/
import Derived.Test.YtfcobhgjkibdgaaLPlayB
namespace Go.Proofs.Ytfcobhgjkibdgaa
open Go.RowKit
set_option linter.unusedVariables false
set_option linter.unusedSimpArgs false

set_option maxHeartbeats 6400000 in
set_option maxRecDepth 100000 in
theorem plays_numbers {At : World → (Nat → Prop) → LnT → Value → Prop} (sv : Lines At) (w : World) (K : Nat → Prop) (L : LnT) (p v : Value) (D : Nat) (rv : Value) (on n a t : Int) (ms : List MsT) (ma : Option Addr) (mn mc : Nat) (h : Sit At w K L p v D rv) (hg : L.gv + 300 ≤ MaxG) :
    Calls Try.prog 24 #[p, lnV v L.gv L.no, StL.val ⟨6, on, ms, n, a, t⟩ (.slice ma mn mc), .pointer (some ⟨D, 0, none⟩)] w fun e w' => ∃ K' v' rv', e = .returned (.tuple #[lnV v' L.gv L.no, .bool true]) ∧ PlE At w K p D rv L w' K' v' rv' := by
  obtain ⟨va, vc, rfl, _⟩ := fl_form h.ref
  obtain ⟨qn, hqn⟩ : ∃ z, L.fl.length = z := ⟨_, rfl⟩
  have HS : Hid (Sit At w K L p (.slice va qn vc) D rv) := by rw [← hqn]; exact h
  have HQ : Hid (L.fl.length = qn) := hqn
  rw [hqn]
  obtain ⟨hA, hB, hC, hbel⟩ := three_blocks (w := w) (t := 56) (cs := #[.slice va qn vc, .int .i64 L.gv, .bool L.no]) (t' := 47) (cs' := #[.int .i64 6, .int .i64 on, .slice ma mn mc, .int .i64 n, .int .i64 a, .int .i64 t]) (t'' := 56) (cs'' := #[.slice none 0 0, .int .i64 0, .bool false])
  obtain ⟨W, hW⟩ : ∃ W, (((w.alloc (.cells #[.slice va qn vc, .int .i64 L.gv, .bool L.no] 56)).alloc (.cells #[.int .i64 6, .int .i64 on, .slice ma mn mc, .int .i64 n, .int .i64 a, .int .i64 t] 47)).alloc (.cells #[.slice none 0 0, .int .i64 0, .bool false] 56)) = W := ⟨_, rfl⟩
  rw [hW] at hA hB hC hbel
  obtain ⟨g, hgg⟩ : ∃ g, w.heap.size = g := ⟨_, rfl⟩
  have HBW : Hid (Below w.heap.size w W) := hbel
  rw [hgg] at hA hB hC
  have HG : Hid (w.heap.size = g) := hgg
  have HW : Hid (_ = W) := hW
  have HA : Hid (W.heap[g]? = some (.cells #[.slice va qn vc, .int .i64 L.gv, .bool L.no] 56 (0, 0))) := hA
  have HB : Hid (W.heap[g + 1]? = some (.cells #[.int .i64 6, .int .i64 on, .slice ma mn mc, .int .i64 n, .int .i64 a, .int .i64 t] 47 (0, 0))) := hB
  have HC : Hid (W.heap[g + 1 + 1]? = some (.cells #[.slice none 0 0, .int .i64 0, .bool false] 56 (0, 0))) := hC
  have HLT : Hid (∀ j, K j → j < g) := fun j hj => by rw [← hgg]; exact sv.lt h.at' j hj
  have HREF : Hid (∀ w', Below w.heap.size w w' → _) := fun w' hb => refNumbers_any L.fl L.gv L.no (.slice va qn vc) w' (owns_below HS.out.ref hb) h.ok.len
  have HPRG : Hid (∀ w', Below w.heap.size w w' → _) := fun w' hb => sv.numbers w' K L p (h.below sv hb).at' h.ok
  obtain ⟨c0, c1, c2⟩ := cells_3 hA
  obtain ⟨b0, b1, b2, b3, b4, b5⟩ := cells_6b hB
  clear hW hA hB hC hbel hqn h hgg
  go_enter Try.func24, Try.ntmps24
  go_upto_region 1 with fail
  rw [HW.out, HG.out]
  go_wp2_with fail
  refine Calls.mono (HPRG.out _ HBW.out) ?_
  rintro e w4 ⟨u4, K4, rfl, hu4, hk4, hE⟩
  obtain ⟨ua, uc, rfl, _⟩ := row_form hu4
  obtain ⟨un, hun⟩ : ∃ z, (L.fl.map fun p => (p.n : Int)).length = z := ⟨_, rfl⟩
  have HQM : Hid ((L.fl.map fun p => (p.n : Int)).length = un) := hun
  rw [hun]
  have HE : Hid (LnE At W K L p w4 K4) := hE
  have HU4 : Hid (IntsAt w4 (fun _ => True) (.slice ua un uc) (L.fl.map fun p => (p.n : Int))) := by rw [← hun]; exact ins_at hu4 (fun _ _ => trivial)
  have k4 : ∀ j o, g ≤ j → W.heap[j]? = some o → w4.heap[j]? = some o := fun j o hj hb => by rw [hE.chg.block j (lt_of_blk hb) (fun hk => by have := HLT.out j hk; omega)]; exact hb
  have HA4 : Hid (w4.heap[g]? = some (.cells #[.slice va qn vc, .int .i64 L.gv, .bool L.no] 56 (0, 0))) := k4 _ _ (by omega) HA.out
  have HC4 : Hid (w4.heap[g + 1 + 1]? = some (.cells #[.slice none 0 0, .int .i64 0, .bool false] 56 (0, 0))) := k4 _ _ (by omega) HC.out
  have HSN : Hid (Sit At w4 K4 L p (.slice va qn vc) D rv) := (HS.out.below sv HBW.out).call sv hE _ (owns_below HS.out.ref HBW.out) HS.out.ok
  have HREF2 : Hid (∀ w', Below w4.heap.size w4 w' → _) := fun w' hb => refNumbers_any L.fl L.gv L.no (.slice va qn vc) w' (owns_below HSN.out.ref hb) HS.out.ok.len
  have HUN : Hid ((L.fl.map fun p => (p.n : Int)).length ≤ 1000000) := by show _ ≤ _; rw [List.length_map]; exact Nat.le_trans HS.out.ok.len (by decide)
  have HSW : Hid (∀ w'' w', Below w4.heap.size w4 w'' → But (g + 1 + 1) w'' w' → w'.cell? ⟨g, 0, none⟩ = some (.slice va qn vc) ∧ w'.cell? ⟨g, 1, none⟩ = some (.int .i64 L.gv) ∧ w'.cell? ⟨g, 2, none⟩ = some (.bool L.no)) := fun w'' w' hb hb' => cells_3 (hb'.blk (kept_block hb HA4.out) (by omega))
  have HCW : Hid (∀ w'', Below w4.heap.size w4 w'' → w''.heap[g + 1 + 1]? = some (.cells #[.slice none 0 0, .int .i64 0, .bool false] 56 (0, 0))) := fun w'' hb => kept_block hb HC4.out
  have hgw : g + 1 + 1 < w4.heap.size := lt_of_blk HC4.out
  clear hu4 hk4 hE k4 hun c0 c1 c2 b0 b1 b2 b3 b4 b5 HREF HPRG
  obtain ⟨c0, c1, c2⟩ := cells_3 HA4.out
  obtain ⟨r0, r1, r2⟩ := cells_3 HC4.out
  have f4 := free_of HC4.out
  go_wp2_with fail
  go_region_held3 (fun w' => w'.cell? ⟨g, 0, none⟩ = some (.slice va qn vc) ∧ w'.cell? ⟨g, 1, none⟩ = some (.int .i64 L.gv) ∧ w'.cell? ⟨g, 2, none⟩ = some (.bool L.no))
    (first
    | (refine HSW.out w6 _ HB6.out ?_; repeat (first | exact But.refl _ _ | refine But.drew ?_ | refine But.set ?_))
    | (refine HSW.out w5 _ HB5.out ?_; repeat (first | exact But.refl _ _ | refine But.drew ?_ | refine But.set ?_))
    | (refine HSW.out w4 _ (Below.refl _ _) ?_; repeat (first | exact But.refl _ _ | refine But.drew ?_ | refine But.set ?_))
    | go_keep)
    (first
    | (go_at_call 27
       refine (HREF2.out _ (below_drew (Below.refl _ _))).mono ?_
       rintro e w5 ⟨u5, rfl, hu5, hb5⟩
       obtain ⟨ua5, uc5, rfl, _⟩ := row_form hu5
       rw [HQM.out]
       have HB5 : Hid (Below w4.heap.size w4 w5) := of_drew hb5
       have HU5 : Hid (IntsAt w5 (fun _ => True) (.slice ua5 un uc5) (L.fl.map fun p => (p.n : Int))) := by rw [← HQM.out]; exact ins_at hu5 (fun _ _ => trivial)
       clear hu5 hb5)
    | (go_at_call 26
       refine (ints_same (L.fl.map fun p => (p.n : Int)) _ _ _ _ _ (IntsAt.keep HU4.out (Kp.of_below HB5.out _)) HU5.out HUN.out).mono ?_
       rintro e w6 ⟨rfl, hb6⟩
       have HB6 : Hid (Below w4.heap.size w4 w6) := trans2 HB5.out hb6
       obtain ⟨q0, q1, q2⟩ := cells_3 (HCW.out _ HB6.out)
       have f6 := free_of (HCW.out _ HB6.out)
       clear hb6))
  all_goals
    go_wp2_with fail
    exact bodyPost_ret (results_cell_tmp rfl _ _ (g + 1 + 1) 56 _ (0, 0) _ _ rfl rfl (fill_3 (HCW.out _ HB6.out)) Try.underlying56 rfl (by kernel_rfl)) rfl ⟨K4, _, rv, rfl, ple_of sv HS.out HBW.out (HE.out.below sv HB6.out) (owns_below HS.out.ref HBW.out) HS.out.ok ⟨by rw [HG.out]; omega, lt_of_blk HC.out⟩ ⟨_, HCW.out _ HB6.out⟩ (((But.refl _ _).set).set).set (chg_put3 w6 (g + 1 + 1) _ _ _)⟩
end Go.Proofs.Ytfcobhgjkibdgaa
