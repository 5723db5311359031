/-
  tree: Part on both trees.
-/
import Derived.Test.YthelfbdkbldhjaaGreatDoorTRefF
import Derived.Test.YthelfbdkbldhjaaGreatDoorTRefH
import Derived.Test.YthelfbdkbldhjaaGreatDoorTPartL
import Derived.Test.YthelfbdkbldhjaaGreatDoorTLoad
import Derived.Test.YthelfbdkbldhjaaGreatDoorTPlyC
namespace Go.Proofs.YthelfbdkbldhjaaGreatDoor
open Go.RowKit Go.Maps Go.WideShapes
set_option linter.unusedVariables false
set_option linter.unusedSimpArgs false

def partM (T : List Nd) (k : Int) (p : ByteArray) : Int × List SnT := if (parse p).1 ≠ 0 then (10, []) else if k < 1 ∨ 3 < k then (1, []) else (0, parT T k p)
theorem partM_len (T : List Nd) (k : Int) (p : ByteArray) : (partM T k p).2.length ≤ T.length := by
  unfold partM
  split
  · exact Nat.zero_le _
  · split
    · exact Nat.zero_le _
    · exact parT_len _ _ _
theorem partT_all (B tb q : Nat) (T : List Nd) (k : Int) (p : ByteArray) (w : World) (hg : Ground w) (h : TrAt w B tb q T) :
    Calls Tryz.prog 26 #[.pointer (some ⟨tb, 0, none⟩), .string p, .int .i64 k] w fun e w' => ∃ a cap, e = .returned (.tuple #[.slice a (partM T k p).2.length cap, .int .i64 (partM T k p).1]) ∧ w'.ownsRow w.heap.size 102 3 (.slice a (partM T k p).2.length cap) (partM T k p).2.length ((partM T k p).2.flatMap SnT.cs) ∧ Below w.heap.size w w' := by
  unfold partM
  by_cases hp : (parse p).1 = 0
  · rw [if_neg (by simpa using hp)]
    by_cases hk : k < 1 ∨ 3 < k
    · rw [if_pos hk]
      refine Calls.mono (part_arg B tb q T k p w hg h hp hk) ?_
      rintro e w' ⟨rfl, hb⟩
      exact ⟨none, 0, rfl, World.ownsRow_nil _ _ _ _, hb⟩
    · rw [if_neg hk]
      exact part_tr B tb q T k p w hg h hp (by omega)
  · rw [if_pos hp]
    refine Calls.mono (part_bad B tb q T k p w hg h hp) ?_
    rintro e w' ⟨rfl, hb⟩
    exact ⟨none, 0, rfl, World.ownsRow_nil _ _ _ _, hb⟩
theorem refPart_all (a : Option Addr) (c : Nat) (T : List Nd) (k : Int) (p : ByteArray) (w : World) (h : NdsAt w a T) (hS : Snd T) :
    Calls Tryz.prog 25 #[rtV a T.length c, .string p, .int .i64 k] w fun e w' => ∃ v, e = .returned (.tuple #[v, .int .i64 (partM T k p).1]) ∧ w'.ownsRow w.heap.size 102 3 v (partM T k p).2.length ((partM T k p).2.flatMap SnT.cs) ∧ Below w.heap.size w w' := by
  have h0 : 0 < T.length := List.length_pos_iff.2 hS.ne
  have hi : ∀ x ∈ T, isP x.p = true := fun x hx => by simpa [isP] using (hS.inv.nd x hx).1
  have h64 := hS.inv.len
  unfold partM
  by_cases hp : (parse p).1 = 0
  · have hp' : isP p = true := by simpa [isP] using hp
    rw [if_neg (by simpa using hp)]
    by_cases hk : k < 1 ∨ 3 < k
    · rw [if_pos hk]
      refine Calls.mono (refPart_arg a T.length c p k w h0 hp' hk) ?_
      rintro e w' ⟨rfl, hb⟩
      exact ⟨_, rfl, World.ownsRow_nil _ _ _ _, hb⟩
    · rw [if_neg hk]
      show Calls _ _ _ _ (PartE w (parT T k p))
      cases hf : fnd T p with
      | none =>
        rw [part_none hS hp hf k]
        exact refPart_gone a c T p k w h h64 hp' (by omega) (by rw [fndI_none (fnd_none hf)]; decide) h0
      | some u =>
        obtain ⟨i, hi', _⟩ := fndI_fnd hf
        have hfi : 0 ≤ fndI T p := by rw [hi']; omega
        rcases (show k = 1 ∨ k = 2 ∨ k = 3 by omega) with rfl | rfl | rfl
        · exact refPart_1 a c T p w h h64 hp' hfi hi h0
        · exact refPart_2 a c T p w h h64 hp' hfi hi h0
        · exact refPart_3 a c T p w h h64 hp' hfi hi h0
  · have hp' : isP p = false := by simpa [isP] using hp
    rw [if_pos hp]
    refine Calls.mono (refPart_bad a T.length c p k w h0 hp') ?_
    rintro e w' ⟨rfl, hb⟩
    exact ⟨_, rfl, World.ownsRow_nil _ _ _ _, hb⟩
set_option maxHeartbeats 3200000 in
set_option maxRecDepth 100000 in
theorem ply_part (W w : World) (db tb q : Nat) (dv : Value) (a : Option Addr) (c : Nat) (T : List Nd) (h : Sit W w db tb q dv a T) (hg : GroundT W) (s st nn : Int) (oa : Option Addr) (n oc : Nat) (pl : ByteArray) :
    Calls Tryz.prog 11 #[.pointer (some ⟨tb, 0, none⟩), rtV a T.length c, .agg (stCs 3 s st oa n oc pl nn), .pointer (some ⟨db, 0, none⟩)] w (PlE W w db tb q dv T) := by
  have h64 : T.length ≤ 64 := h.tr.snd.inv.len
  have hpl := partM_len T nn pl
  have HPT : Hid (∀ w', Below w.heap.size w w' → _) := fun w' hb => partT_all W.heap.size tb q T nn pl w' (hg.below (trans2 h.low hb)).toGround (h.tr.below hb)
  have HRP : Hid (∀ w', Below w.heap.size w w' → _) := fun w' hb => refPart_all a c T nn pl w' (h.nds.below hb) h.tr.snd
  obtain ⟨N, hN⟩ : ∃ N, T.length = N := ⟨_, rfl⟩
  have HN : Hid (T.length = N) := hN
  have H : Hid _ := h
  obtain ⟨PM, hPM⟩ : ∃ PM, partM T nn pl = PM := ⟨_, rfl⟩
  rw [hPM] at HPT HRP hpl
  obtain ⟨pc, PL⟩ := PM
  obtain ⟨PN, hPN⟩ : ∃ PN, PL.length = PN := ⟨_, rfl⟩
  have HPN : Hid (PL.length = PN) := hPN
  have HSE : Hid (∀ (w' : World) (B1 B2 : Nat) (va vb : Value), w'.ownsRow B1 102 3 va PN (PL.flatMap SnT.cs) → w'.ownsRow B2 102 3 vb PN (PL.flatMap SnT.cs) → Calls Tryz.prog 28 #[va, vb] w' fun e w'' => e = .returned (.bool true) ∧ Below w'.heap.size w' w'') := fun w' B1 B2 va vb h1 h2 => seenT_any B1 B2 va vb PL w' (by rw [hPN]; exact h1) (by rw [hPN]; exact h2) (by have : PL.length ≤ T.length := hpl; omega)
  rw [hN] at HRP ⊢
  simp only [hPN] at HPT HRP
  clear hN h hPM hPN hpl
  have HS : Hid _ := plI_start w (.slice a N c) (stCs 3 s st oa n oc pl nn)
  go_enter Tryz.func11, Tryz.ntmps11
  go_wp2_with fail
  refine Calls.mono (HRP.out _ HS.out.low) ?_
  rintro e w1 ⟨v1, rfl, hr1, hb1⟩
  have H1 : Hid (PlI w w1 (.slice a N c) (stCs 3 s st oa n oc pl nn)) := HS.out.below hb1
  have HR1 : Hid _ := hr1
  obtain ⟨s0, s1, s2, s3, s4, s5⟩ := cells_6 H1.out.sp
  clear hb1 hr1
  go_wp2_with fail
  refine Calls.mono (HPT.out _ H1.out.low) ?_
  rintro e w2 ⟨pa, pcap, rfl, hr2, hb2⟩
  have H2 : Hid (PlI w w2 (.slice a N c) (stCs 3 s st oa n oc pl nn)) := H1.out.below hb2
  have HR2 : Hid _ := owns_chg HR1.out (Chg.of_below hb2 (fun _ => False)) (fun _ _ => id)
  have HQ2 : Hid _ := hr2
  have r0 := cells_1 H2.out.tr
  have r1 := cells_1 H2.out.rs
  have f1 := free_1 H2.out.rs
  clear hb2 hr2 s0 s1 s2 s3 s4 s5
  go_wp2_with fail
  go_region_held3 (fun w' => w'.cell? ⟨w.heap.size, 0, none⟩ = some (.slice a N c)) (first | go_keep | exact q0 | (rw [cellN (by omega)]; exact q0))
    (first
    | (go_at_call 27; go_in)
    | (go_at_call 28; refine Calls.mono (HSE.out _ _ _ _ _ (owns_chg HQ2.out (Chg.of_below (below_drew0 _) (fun _ => False)) (fun _ _ => id)) (owns_chg HR2.out (Chg.of_below (below_drew0 _) (fun _ => False)) (fun _ _ => id))) ?_; rintro e w3 ⟨rfl, hb3⟩
       have H3 : Hid (PlI w w3 (.slice a N c) (stCs 3 s st oa n oc pl nn)) := H2.out.below (of_drew hb3)
       have q0 := cells_1 H3.out.tr
       have q1 := cells_1 H3.out.rs
       have g1 := free_1 H3.out.rs
       clear hb3)
    | fail)
  go_wp2_with fail
  exact bodyPost_ret (results_tmp_cell_tmp rfl _ _ (w.heap.size + 1 + 1) 27 #[.slice a N c] (0, 0) _ (.pointer (some ⟨tb, 0, none⟩)) (.bool true) rfl rfl rfl (same_blk H3.out.rs rfl) Tryz.underlying27 rfl (by kernel_rfl)) rfl (PlE.low H.out c HN.out (H3.out.low.setCell (by simp; omega) _))
end Go.Proofs.YthelfbdkbldhjaaGreatDoor
namespace Go.Proofs.YthelfbdkbldhjaaGreatDoor
open Go.RowKit Go.Maps Go.WideShapes
set_option linter.unusedVariables false
set_option linter.unusedSimpArgs false

theorem refEnd_all (a : Option Addr) (c : Nat) (T : List Nd) (s : Int) (w : World) (h : NdsAt w a T) (hT : T.length ≤ 64) :
    Calls Tryz.prog 23 #[rtV a T.length c, .int .i64 s] w fun e w' => ∃ la lc v, e = .returned (.tuple #[rtV la (finT T s).length lc, v]) ∧ NdsAt w' la (finT T s) ∧ w'.ownsRow w.heap.size 85 4 v (finC T s).length (chCs (finC T s)) ∧ Below w.heap.size w w' := by
  unfold finT finC
  by_cases hs : s < 1
  · rw [if_pos hs, if_pos hs]
    refine Calls.mono (refEnd_low a c T.length s w hs) ?_
    rintro e w' ⟨rfl, hb⟩
    exact ⟨a, c, _, rfl, h.below hb, World.ownsRow_nil _ _ _ _, hb⟩
  · rw [if_neg hs, if_neg hs]
    refine Calls.mono (refEnd_any a c T s w h hT hs) ?_
    rintro e w' ⟨la, lc, ca, cc, rfl, h1, h2, h3, h4⟩
    exact ⟨la, lc, _, rfl, h1, h3, h4⟩
theorem Rng.finT {T : List Nd} (h : Rng T) (s : Int) : Rng (finT T s) := by
  unfold Go.Proofs.YthelfbdkbldhjaaGreatDoor.finT
  split
  · exact h
  · exact fun x hx => h x (List.mem_filter.1 hx).1
set_option maxHeartbeats 3200000 in
set_option maxRecDepth 100000 in
theorem ply_end (W w : World) (db tb q : Nat) (dv : Value) (a : Option Addr) (c : Nat) (T : List Nd) (h : Sit W w db tb q dv a T) (hq : q ≤ 900) (s st nn : Int) (oa : Option Addr) (n oc : Nat) (pl : ByteArray) :
    Calls Tryz.prog 11 #[.pointer (some ⟨tb, 0, none⟩), rtV a T.length c, .agg (stCs 2 s st oa n oc pl nn), .pointer (some ⟨db, 0, none⟩)] w (PlE W w db tb q dv (finT T s)) := by
  have h64 : T.length ≤ 64 := h.tr.snd.inv.len
  have hfl := finC_len T s
  have HRE : Hid (∀ w', Below w.heap.size w w' → _) := fun w' hb => refEnd_all a c T s w' (h.nds.below hb) h64
  have HEN : Hid (∀ w', Below w.heap.size w w' → _) := fun w' hb => end_tr W.heap.size tb q T s w' (h.tr.below hb) hq
  obtain ⟨N, hN⟩ : ∃ N, T.length = N := ⟨_, rfl⟩
  have H : Hid _ := h
  have HRF : Hid (Rng (finT T s)) := h.rng.finT s
  obtain ⟨F, hF⟩ : ∃ F, finT T s = F := ⟨_, rfl⟩
  obtain ⟨C, hC⟩ : ∃ C, finC T s = C := ⟨_, rfl⟩
  obtain ⟨FN, hFN⟩ : ∃ FN, F.length = FN := ⟨_, rfl⟩
  have HFN : Hid (F.length = FN) := hFN
  rw [hF] at HRE HEN HRF ⊢
  rw [hC] at HRE HEN hfl
  have HCH : Hid (∀ (w' : World) (B1 B2 : Nat) (va vb : Value), w'.ownsRow B1 85 4 va C.length (chCs C) → w'.ownsRow B2 85 4 vb C.length (chCs C) → Calls Tryz.prog 22 #[va, vb] w' fun e w'' => e = .returned (.bool true) ∧ Below w'.heap.size w' w'') := fun w' B1 B2 va vb h1 h2 => changesT_any B1 B2 va vb C w' h1 h2 (by omega)
  rw [hN] at HRE ⊢
  rw [hFN] at HRE
  have htl : tb < w.heap.size := h.tr.lt
  have hWl := h.low.size
  have hWt := h.tr.lo
  clear hN h hF hC hFN
  have HS : Hid _ := plI_start w (.slice a N c) (stCs 2 s st oa n oc pl nn)
  go_enter Tryz.func11, Tryz.ntmps11
  go_wp2_with fail
  refine Calls.mono (HRE.out _ HS.out.low) ?_
  rintro e w1 ⟨la, lc, v1, rfl, hn1, hr1, hb1⟩
  have H1 : Hid (PlI w w1 (.slice a N c) (stCs 2 s st oa n oc pl nn)) := HS.out.below hb1
  have hal : Below w1.heap.size w1 (w1.alloc (.cells #[.slice la FN lc] 27)) := (Below.refl _ _).alloc (Nat.le_refl _) _
  have HA : Hid (PlI w (w1.alloc (.cells #[.slice la FN lc] 27)) (.slice a N c) (stCs 2 s st oa n oc pl nn)) := H1.out.below hal
  have HNA : Hid (NdsAt (w1.alloc (.cells #[.slice la FN lc] 27)) la F) := hn1.below hal
  have HRA : Hid _ := owns_chg hr1 (Chg.of_below hal (fun _ => False)) (fun _ _ => id)
  have HVA : Hid ((w1.alloc (.cells #[.slice la FN lc] 27)).heap[w1.heap.size]? = some (.cells #[.slice la FN lc] 27 (0, 0))) := heap_alloc_new _ _
  have hrl : w.heap.size + 1 + 1 < w1.heap.size := (Array.getElem?_eq_some_iff.1 H1.out.rs).1
  obtain ⟨s0, s1, s2, s3, s4, s5⟩ := cells_6 HA.out.sp
  clear hb1 hn1 hr1 hal
  go_wp2_with fail
  refine Calls.mono (HEN.out _ HA.out.low) ?_
  rintro e w2 ⟨chV, rfl, hr2, ht2, hc2⟩
  have H2 : Hid (PlC w w2 (.slice a N c) (stCs 2 s st oa n oc pl nn) (fun k => k = tb ∨ k = db ∨ dv.ownBlock = some k)) := (HA.out.c _).turn hc2 (fun k e => .inl (.inl e)) (fun e => by have e' : w.heap.size = tb := e; omega) (fun e => by have e' : w.heap.size + 1 = tb := e; omega) (fun e => by have e' : w.heap.size + 1 + 1 = tb := e; omega)
  have HV2 : Hid (w2.heap[w1.heap.size]? = some (.cells #[.slice la FN lc] 27 (0, 0))) := kept_chg hc2 HVA.out (fun e => by have e' : w1.heap.size = tb := e; omega)
  have HS2 : Hid (Sit W w2 db tb q dv la F) := by
    obtain ⟨tv, htb⟩ := (H.out.tr.below HA.out.low).box
    exact ⟨(trans2 H.out.low HA.out.low).trans (chg_lo hc2 hWt (Nat.le_trans hWl HA.out.low.size)), (H.out.desk.below HA.out.low).chg hc2 (fun k e => ⟨#[tv], 49, by decide, by decide, by rw [show k = tb from e]; exact htb⟩), ht2, HNA.out.chg hc2 (fun k e cur hk => by
      rw [show k = tb from e, htb] at hk
      simp at hk), HRF.out⟩
  have HR2 : Hid _ := row_keep (H.out.tr.below HA.out.low) hc2 HRA.out (by decide)
  have HQ2 : Hid _ := hr2
  have z0 := cells_1 HV2.out
  clear hr2 ht2 hc2 s0 s1 s2 s3 s4 s5
  go_wp2_with fail
  go_region_held3 (fun w' => w'.cell? ⟨w1.heap.size, 0, none⟩ = some (.slice la FN lc)) (first | go_keep | exact q0 | (rw [cellN (by omega)]; exact q0) | exact z0)
    (first
    | (go_at_call 22; refine Calls.mono (HCH.out _ _ _ _ _ (owns_chg HQ2.out (Chg.of_below (below_drew0 _) (fun _ => False)) (fun _ _ => id)) (owns_chg HR2.out (Chg.of_below (below_drew0 _) (fun _ => False)) (fun _ _ => id))) ?_; rintro e w3 ⟨rfl, hb3⟩
       have H3 : Hid (PlC w w3 (.slice a N c) (stCs 2 s st oa n oc pl nn) (fun k => k = tb ∨ k = db ∨ dv.ownBlock = some k)) := H2.out.below (of_drew hb3)
       have HS3 : Hid (Sit W w3 db tb q dv la F) := HS2.out.below (of_drew hb3)
       have q0 := cells_1 (kept_block (of_drew hb3) HV2.out)
       have q1 := cells_1 H3.out.rs
       have g1 := free_1 H3.out.rs
       clear hb3)
    | fail)
  go_wp2_with fail
  refine bodyPost_ret (results_tmp_cell_tmp rfl _ _ (w.heap.size + 1 + 1) 27 #[.slice la FN lc] (0, 0) _ (.pointer (some ⟨tb, 0, none⟩)) (.bool true) rfl rfl rfl (same_blk H3.out.rs rfl) Tryz.underlying27 rfl (by kernel_rfl)) rfl ⟨tb, q, dv, la, lc, by rw [HFN.out], ?_, .inl (by omega), ?_, .inl rfl⟩
  · exact HS3.out.chg (Chg.set _ _ _) (fun k e => by
      rw [show k = w.heap.size + 1 + 1 from e]
      exact ⟨by omega, _, 27, by decide, by decide, by decide, by decide, H3.out.rs⟩)
  · exact H3.out.chg.trans' (Chg.set _ _ _) (fun k e => .inr (by rw [show k = w.heap.size + 1 + 1 from e]; omega))
end Go.Proofs.YthelfbdkbldhjaaGreatDoor
namespace Go.Proofs.YthelfbdkbldhjaaGreatDoor
open Go.RowKit Go.Maps Go.WideShapes
set_option linter.unusedVariables false
set_option linter.unusedSimpArgs false
attribute [local go_sem ↓] Go.wp_at_zero Go.wp_at_succ

theorem refIn_yes (v m : Int) (w : World) (h0 : 0 ≤ v) (h1 : v ≤ m) :
    Calls Tryz.prog 78 #[.int .i64 v, .int .i64 m] w fun e w' => e = .returned (.bool true) ∧ w' = w := by
  have h0' : ¬ v < 0 := by omega
  have h1' : ¬ m < v := by omega
  go_enter Tryz.func78, Tryz.ntmps78
  go_wp2_with fail
  go_ret
  exact ⟨rfl, rfl⟩
theorem parC_ok {p : ByteArray} (hp : (parse p).1 = 0) (hr : p ≠ pRt) : parC p = 0 := by
  obtain ⟨xs, k, x, hx, hl, hk, _⟩ := names_of hp hr
  unfold parC
  rw [if_pos hp, hx, if_neg (fun e => by
    have e' : xs = [] := e
    rw [e'] at hl
    simp at hl)]
/-- What the document asks of one node alone. -/
structure NdO (x : Nd) : Prop where
  r : NdR x
  v : 0 ≤ x.v ∧ x.v ≤ 2147483647
  d : x.d.size ≤ 64
  k : 0 ≤ x.k ∧ x.k ≤ 100000
  p : (parse x.p).1 = 0
set_option maxHeartbeats 8000000 in
set_option maxRecDepth 100000 in
theorem fits_first (x : Nd) (c : Nat) (w : World) (hx : NdO x) (hp : x.p = pRt) (ho : x.o = 0) :
    Calls Tryz.prog 50 #[.slice none 0 c, x.V] w fun e w' => e = .returned (.bool true) ∧ Below w.heap.size w w' := by
  have HIS : Hid (∀ W, Calls Tryz.prog 40 #[.string x.p] W fun e w' => e = .returned (.bool true) ∧ Below W.heap.size W w') := fun W => by have := refIs_any x.p W; rw [show isP x.p = true by simpa [isP] using hx.p] at this; exact this
  have HI1 : Hid (∀ W, Calls Tryz.prog 78 #[.int .i64 x.v, .int .i64 2147483647] W fun e w' => e = .returned (.bool true) ∧ w' = W) := fun W => refIn_yes _ _ W hx.v.1 hx.v.2
  have HI2 : Hid (∀ W, Calls Tryz.prog 78 #[.int .i64 x.m, .int .i64 2147483647] W fun e w' => e = .returned (.bool true) ∧ w' = W) := fun W => refIn_yes _ _ W hx.r.1.1 hx.r.1.2
  have HI3 : Hid (∀ W, Calls Tryz.prog 78 #[.int .i64 x.c, .int .i64 2147483647] W fun e w' => e = .returned (.bool true) ∧ w' = W) := fun W => refIn_yes _ _ W hx.r.2.1.1 hx.r.2.1.2
  have HI4 : Hid (∀ W, Calls Tryz.prog 78 #[.int .i64 x.o, .int .i64 2147483647] W fun e w' => e = .returned (.bool true) ∧ w' = W) := fun W => refIn_yes _ _ W hx.r.2.2.1.1 hx.r.2.2.1.2
  have HI5 : Hid (∀ W, Calls Tryz.prog 78 #[.int .i64 x.k, .int .i64 100000] W fun e w' => e = .returned (.bool true) ∧ w' = W) := fun W => refIn_yes _ _ W hx.k.1 hx.k.2
  have hd' : ¬ (64 : Int) < (x.d.size : Int) := by have := hx.d; omega
  obtain ⟨p, d, v, m, ch, o, k⟩ := x
  obtain rfl : p = pRt := hp
  obtain rfl : o = 0 := ho
  clear hx
  show Calls _ _ #[.slice none 0 c, .agg #[.string pRt, .string d, .int .i64 v, .int .i64 m, .int .i64 ch, .int .i64 0, .int .i64 k]] w _
  go_enter Tryz.func50, Tryz.ntmps50
  go_upto_region 1 with fail
  obtain ⟨w1, hw1⟩ : ∃ y, w.alloc (.cells #[.string pRt, .string d, .int .i64 v, .int .i64 m, .int .i64 ch, .int .i64 0, .int .i64 k] 50) = y := ⟨_, rfl⟩
  obtain ⟨nb, hnb⟩ : ∃ y, w.heap.size = y := ⟨_, rfl⟩
  have HB1 : Hid (Below w.heap.size w w1) := by rw [← hw1]; exact (Below.refl _ _).alloc (Nat.le_refl _) _
  have HN1 : Hid (w1.heap[nb]? = some (.cells #[.string pRt, .string d, .int .i64 v, .int .i64 m, .int .i64 ch, .int .i64 0, .int .i64 k] 50 (0, 0))) := by rw [← hw1, ← hnb]; exact heap_alloc_new _ _
  rw [hw1, hnb]
  clear hw1 hnb
  obtain ⟨n0, n1, n2, n3, n4, n5, n6⟩ := cells_7 HN1.out
  go_wp2_with fail
  refine Calls.mono (HIS.out _) ?_
  rintro e w2 ⟨rfl, hb2⟩
  have HB2 : Hid (Below w.heap.size w w2) := trans2 HB1.out hb2
  have HN2 : Hid _ := kept_block hb2 HN1.out
  clear hb2 n0 n1 n2 n3 n4 n5 n6
  obtain ⟨n0, n1, n2, n3, n4, n5, n6⟩ := cells_7 HN2.out
  go_wp2_with fail
  refine Calls.mono (HI1.out _) ?_
  rintro e w3 ⟨rfl, rfl⟩
  go_wp2_with fail
  refine Calls.mono (HI2.out _) ?_
  rintro e w4 ⟨rfl, rfl⟩
  go_wp2_with fail
  refine Calls.mono (HI3.out _) ?_
  rintro e w5 ⟨rfl, rfl⟩
  go_wp2_with fail
  refine Calls.mono (HI4.out _) ?_
  rintro e w6 ⟨rfl, rfl⟩
  go_wp2_with fail
  refine Calls.mono (HI5.out _) ?_
  rintro e w7 ⟨rfl, rfl⟩
  go_wp2_with fail
  go_ret
  exact ⟨rfl, HB2.out⟩
set_option maxHeartbeats 8000000 in
set_option maxRecDepth 100000 in
theorem fits_next (x z u : Nd) (a : Option Addr) (c n N i : Nat) (P : List Nd) (w : World) (h : NdsAt w a P) (hN : P.length = N) (hnN : N = n + 1) (hn : n ≤ 64) (hx : NdO x) (hr : x.p ≠ pRt) (hz : P[n]? = some z) (hzs : z.p.size ≤ 1000) (hO : O z.p x.p = -1) (hf : fndI P (parB x.p) = (i : Int)) (hu : P[i]? = some u) (ho : u.o = 0) (hok : x.o ≠ 0 → x.k = 0) :
    Calls Tryz.prog 50 #[.slice a N c, x.V] w fun e w' => e = .returned (.bool true) ∧ Below w.heap.size w w' := by
  have HIS : Hid (∀ W, Calls Tryz.prog 40 #[.string x.p] W fun e w' => e = .returned (.bool true) ∧ Below W.heap.size W w') := fun W => by have := refIs_any x.p W; rw [show isP x.p = true by simpa [isP] using hx.p] at this; exact this
  have HI1 : Hid (∀ W, Calls Tryz.prog 78 #[.int .i64 x.v, .int .i64 2147483647] W fun e w' => e = .returned (.bool true) ∧ w' = W) := fun W => refIn_yes _ _ W hx.v.1 hx.v.2
  have HI2 : Hid (∀ W, Calls Tryz.prog 78 #[.int .i64 x.m, .int .i64 2147483647] W fun e w' => e = .returned (.bool true) ∧ w' = W) := fun W => refIn_yes _ _ W hx.r.1.1 hx.r.1.2
  have HI3 : Hid (∀ W, Calls Tryz.prog 78 #[.int .i64 x.c, .int .i64 2147483647] W fun e w' => e = .returned (.bool true) ∧ w' = W) := fun W => refIn_yes _ _ W hx.r.2.1.1 hx.r.2.1.2
  have HI4 : Hid (∀ W, Calls Tryz.prog 78 #[.int .i64 x.o, .int .i64 2147483647] W fun e w' => e = .returned (.bool true) ∧ w' = W) := fun W => refIn_yes _ _ W hx.r.2.2.1.1 hx.r.2.2.1.2
  have HI5 : Hid (∀ W, Calls Tryz.prog 78 #[.int .i64 x.k, .int .i64 100000] W fun e w' => e = .returned (.bool true) ∧ w' = W) := fun W => refIn_yes _ _ W hx.k.1 hx.k.2
  have HPA : Hid (∀ W, Calls Tryz.prog 68 #[.string x.p] W fun e w' => e = .returned (.tuple #[.string (parB x.p), .int .i64 0]) ∧ Below W.heap.size W w') := fun W => by have := refParent_any x.p W; rw [parC_ok hx.p hr] at this; exact this
  have HOR : Hid (∀ W, Calls Tryz.prog 79 #[.string z.p, .string x.p] W fun e w' => e = .returned (.int .i64 (-1)) ∧ w' = W) := fun W => by
    have h9 : Calls Tryz.prog 79 #[.string z.p, .string x.p] W fun e w' => e = .returned (.int .i64 (O z.p x.p)) ∧ w' = W := ref_any z.p x.p (by unfold maxLen; omega) (by have := size_of_parse hx.p; unfold maxLen; omega) W
    rw [hO] at h9
    exact h9
  have HFI : Hid (∀ W, Below w.heap.size w W → Calls Tryz.prog 41 #[.slice a N c, .string (parB x.p)] W fun e w' => e = .returned (.int .i64 i) ∧ w' = W) := fun W hb => by have := refFind_any a c P (parB x.p) W (h.below hb) (by omega); rw [hN, hf] at this; exact this
  have hd' : ¬ (64 : Int) < (x.d.size : Int) := by have := hx.d; omega
  have H : Hid (NdsAt w a P) := h
  have hil : i < N := by rw [← hN]; exact (List.getElem?_eq_some_iff.1 hu).1
  have HZ : Hid (P[n]? = some z) := hz
  have HU : Hid (P[i]? = some u) := hu
  have hii : (i : Int) < (N : Int) := by omega
  have hi0 : ¬ (i : Int) < 0 := by omega
  have hi1 : (0 : Int) ≤ (i : Int) := by omega
  have hn0 : ((N : Int) == 0) = false := by have : ¬ (N : Int) = 0 := by omega
                                            simpa using this
  have hn1 : IntKind.i64.wrap ((N : Int) - 1) = (n : Int) := by rw [IntKind.wrap_i64]; omega
  have hn2 : (0 : Int) ≤ (n : Int) := by omega
  have hn3 : (n : Int) < (N : Int) := by omega
  obtain ⟨b, f, rfl⟩ := h.some hz
  have hok' : x.o ≤ 0 ∨ x.k ≤ 0 := by
    by_cases e : x.o = 0
    · exact .inl (by omega)
    · exact .inr (by have := hok e; omega)
  obtain ⟨p, d, v, m, ch, o, k⟩ := x
  clear hx h hz hu hf hO hok hr hN hnN
  show Calls _ _ #[.slice (some ⟨b, f, none⟩) N c, .agg #[.string p, .string d, .int .i64 v, .int .i64 m, .int .i64 ch, .int .i64 o, .int .i64 k]] w _
  go_enter Tryz.func50, Tryz.ntmps50
  go_upto_region 1 with fail
  obtain ⟨w1, hw1⟩ : ∃ y, w.alloc (.cells #[.string p, .string d, .int .i64 v, .int .i64 m, .int .i64 ch, .int .i64 o, .int .i64 k] 50) = y := ⟨_, rfl⟩
  obtain ⟨nb, hnb⟩ : ∃ y, w.heap.size = y := ⟨_, rfl⟩
  have HB1 : Hid (Below w.heap.size w w1) := by rw [← hw1]; exact (Below.refl _ _).alloc (Nat.le_refl _) _
  have HN1 : Hid (w1.heap[nb]? = some (.cells #[.string p, .string d, .int .i64 v, .int .i64 m, .int .i64 ch, .int .i64 o, .int .i64 k] 50 (0, 0))) := by rw [← hw1, ← hnb]; exact heap_alloc_new _ _
  rw [hw1, hnb]
  clear hw1 hnb
  obtain ⟨n0, n1, n2, n3, n4, n5, n6⟩ := cells_7 HN1.out
  go_wp2_with fail
  refine Calls.mono (HIS.out _) ?_
  rintro e w2 ⟨rfl, hb2⟩
  have HB2 : Hid (Below w.heap.size w w2) := trans2 HB1.out hb2
  have HN2 : Hid _ := kept_block hb2 HN1.out
  clear hb2 n0 n1 n2 n3 n4 n5 n6
  obtain ⟨n0, n1, n2, n3, n4, n5, n6⟩ := cells_7 HN2.out
  go_wp2_with fail
  refine Calls.mono (HI1.out _) ?_
  rintro e w3 ⟨rfl, rfl⟩
  go_wp2_with fail
  refine Calls.mono (HI2.out _) ?_
  rintro e w4 ⟨rfl, rfl⟩
  go_wp2_with fail
  refine Calls.mono (HI3.out _) ?_
  rintro e w5 ⟨rfl, rfl⟩
  go_wp2_with fail
  refine Calls.mono (HI4.out _) ?_
  rintro e w6 ⟨rfl, rfl⟩
  go_wp2_with fail
  refine Calls.mono (HI5.out _) ?_
  rintro e w7 ⟨rfl, rfl⟩
  by_cases hoo : 0 < o
  · have hk0 : ¬ 0 < k := by rcases hok' with e | e
                             · exact absurd hoo (by simpa using e)
                             · simpa using e
    go_wp2_with fail
    refine Calls.mono (HPA.out _) ?_
    rintro e w8 ⟨rfl, hb8⟩
    have HB8 : Hid (Below w.heap.size w w8) := trans2 HB2.out hb8
    have HN8 : Hid _ := kept_block hb8 HN2.out
    clear hb8 n0 n1 n2 n3 n4 n5 n6
    obtain ⟨n0, n1, n2, n3, n4, n5, n6⟩ := cells_7 HN8.out
    obtain ⟨hzl, z0, z1, z2, z3, z4, z5, z6⟩ := (H.out.below HB8.out).cells HZ.out
    go_upto_region 9 with fail
    go_region_held3 (fun w' => w'.cell? ⟨nb, 0, none⟩ = some (.string p) ∧ w'.cell? ⟨b, f + n * 7, none⟩ = some (.string z.p)) (first | (simp only [World.cell?_drew, n0, z0, and_self]) | go_keep)
      (first
        | (go_at_call 79; refine Calls.mono (HOR.out _) ?_; rintro e w9 ⟨rfl, rfl⟩))
    obtain ⟨w9, hw9⟩ : ∃ x, w8.drew = x := ⟨_, rfl⟩
    have HB9 : Hid (Below w.heap.size w w9) := by rw [← hw9]; exact below_drew HB8.out
    rw [hw9]
    clear hw9 n0 n1 n2 n3 n4 n5 n6 z0 z1 z2 z3 z4 z5 z6
    obtain ⟨hul, y0, y1, y2, y3, y4, y5, y6⟩ := (H.out.below HB9.out).cells HU.out
    rw [ho] at y5
    go_wp2_with fail
    refine Calls.mono (HFI.out _ HB9.out) ?_
    rintro e w10 ⟨rfl, rfl⟩
    go_wp2_with fail
    go_ret
    exact ⟨rfl, HB9.out⟩
  · skip
    go_wp2_with fail
    refine Calls.mono (HPA.out _) ?_
    rintro e w8 ⟨rfl, hb8⟩
    have HB8 : Hid (Below w.heap.size w w8) := trans2 HB2.out hb8
    have HN8 : Hid _ := kept_block hb8 HN2.out
    clear hb8 n0 n1 n2 n3 n4 n5 n6
    obtain ⟨n0, n1, n2, n3, n4, n5, n6⟩ := cells_7 HN8.out
    obtain ⟨hzl, z0, z1, z2, z3, z4, z5, z6⟩ := (H.out.below HB8.out).cells HZ.out
    go_upto_region 9 with fail
    go_region_held3 (fun w' => w'.cell? ⟨nb, 0, none⟩ = some (.string p) ∧ w'.cell? ⟨b, f + n * 7, none⟩ = some (.string z.p)) (first | (simp only [World.cell?_drew, n0, z0, and_self]) | go_keep)
      (first
        | (go_at_call 79; refine Calls.mono (HOR.out _) ?_; rintro e w9 ⟨rfl, rfl⟩))
    obtain ⟨w9, hw9⟩ : ∃ x, w8.drew = x := ⟨_, rfl⟩
    have HB9 : Hid (Below w.heap.size w w9) := by rw [← hw9]; exact below_drew HB8.out
    rw [hw9]
    clear hw9 n0 n1 n2 n3 n4 n5 n6 z0 z1 z2 z3 z4 z5 z6
    obtain ⟨hul, y0, y1, y2, y3, y4, y5, y6⟩ := (H.out.below HB9.out).cells HU.out
    rw [ho] at y5
    go_wp2_with fail
    refine Calls.mono (HFI.out _ HB9.out) ?_
    rintro e w10 ⟨rfl, rfl⟩
    go_wp2_with fail
    go_ret
    exact ⟨rfl, HB9.out⟩
theorem fndI_take {T : List Nd} {i n : Nat} {u : Nd} (hi : Inv T) (hu : T[i]? = some u) (hn : i < n) : fndI (T.take n) u.p = i := by
  refine fndI_some (by rw [List.getElem?_take, if_pos hn]; exact hu) rfl (fun y hy e => ?_)
  rw [List.take_take, Nat.min_eq_left (Nat.le_of_lt hn)] at hy
  obtain ⟨j, hj⟩ := List.mem_iff_getElem?.1 hy
  rw [List.getElem?_take] at hj
  split at hj
  · rename_i hji
    obtain ⟨h2, e2⟩ := List.getElem?_eq_some_iff.1 hj
    obtain ⟨h3, e3⟩ := List.getElem?_eq_some_iff.1 hu
    have := List.pairwise_iff_getElem.1 hi.srt j i h2 h3 hji
    rw [e2, e3, e, O_self] at this
    cases this
  · cases hj
theorem ndO_of {T : List Nd} (hS : Snd T) (hR : Rng T) {x : Nd} (hx : x ∈ T) : NdO x := by
  have h := hS.inv.nd x hx
  exact ⟨hR x hx, ⟨h.2.2.1, h.2.2.2.1⟩, h.2.1, ⟨h.2.2.2.2.1, h.2.2.2.2.2⟩, h.1⟩
/-- A node of a tree behind those ahead of it. -/
theorem fits_at (T : List Nd) (q : Nat) (x : Nd) (a : Option Addr) (c : Nat) (w : World) (hS : Snd T) (hR : Rng T) (hx : T[q]? = some x) (h : NdsAt w a (T.take q)) (ha : q = 0 → a = none) :
    Calls Tryz.prog 50 #[.slice a q c, x.V] w fun e w' => e = .returned (.bool true) ∧ Below w.heap.size w w' := by
  have hxm := List.mem_of_getElem? hx
  have hql := (List.getElem?_eq_some_iff.1 hx).1
  have h64 := hS.inv.len
  cases q with
  | zero =>
    obtain rfl := ha rfl
    obtain ⟨r, hr0, hrp, hro⟩ := hS.first
    rw [hx] at hr0
    obtain rfl := Option.some.inj hr0
    exact fits_first x c w (ndO_of hS hR hxm) hrp hro
  | succ n =>
    obtain ⟨hxr, k, u, hk, hu, hup, huo⟩ := hS.above (by omega) hx
    obtain ⟨z, hz⟩ : ∃ z, T[n]? = some z := ⟨T[n], List.getElem?_eq_getElem (by omega)⟩
    exact fits_next x z u a c n (n + 1) k (T.take (n + 1)) w h (by rw [List.length_take]; omega) rfl (by omega) (ndO_of hS hR hxm) hxr (by rw [List.getElem?_take, if_pos (by omega)]; exact hz) (Nat.le_trans (size_of_parse (hS.inv.nd z (List.mem_of_getElem? hz)).1) (by decide)) (hS.order hz hx) (by rw [← hup]; exact fndI_take hS.inv hu hk) (by rw [List.getElem?_take, if_pos hk]; exact hu) huo (hR x hxm).2.2.2
set_option maxHeartbeats 8000000 in
set_option maxRecDepth 100000 in
theorem refLoad_ok (a : Option Addr) (c : Nat) (T : List Nd) (w : World) (hS : Snd T) (hR : Rng T) (h : NdsAt w a T) :
    Calls Tryz.prog 30 #[.slice a T.length c] w fun e w' => ∃ la lc, e = .returned (.tuple #[rtV la T.length lc, .int .i64 0]) ∧ NdsAt w' la T ∧ Below w.heap.size w w' := by
  obtain ⟨i0, hi0, hz0, hz1, hz2⟩ := info_parts Tryz.infoRF
  have H : Hid (NdsAt w a T) := h
  have HS : Hid (Snd T) := hS
  have HR : Hid (Rng T) := hR
  have hT : T.length ≤ 64 := hS.inv.len
  have hT1 : 1 ≤ T.length := List.length_pos_iff.2 hS.ne
  obtain ⟨N, hN⟩ : ∃ N, T.length = N := ⟨_, rfl⟩
  have HN : Hid (T.length = N) := hN
  rw [hN] at hT hT1 ⊢
  have hn64 : ¬ (64 : Int) < (N : Int) := by omega
  clear h hN hS hR
  go_enter Tryz.func30, Tryz.ntmps30
  go_upto_region 1 with fail
  obtain ⟨w1, hw1⟩ : ∃ y, w.alloc (.cells #[.slice none 0 0] 27) = y := ⟨_, rfl⟩
  obtain ⟨tb, htb⟩ : ∃ y, w.heap.size = y := ⟨_, rfl⟩
  have HB1 : Hid (Below w.heap.size w w1) := by rw [← hw1]; exact (Below.refl _ _).alloc (Nat.le_refl _) _
  have HX1 : Hid (w1.heap[tb]? = some (.cells #[.slice none 0 0] 27 (0, 0))) := by rw [← hw1, ← htb]; exact heap_alloc_new _ _
  have HTB : Hid (w.heap.size = tb) := htb
  rw [hw1, htb]
  clear hw1 htb
  go_wp2_with fail
  go_loopw [4, 5] (fun v i wr => ∃ (q : Nat) (la : Option Addr) (lc : Nat), i = .int .i64 q ∧ q ≤ N ∧ v = .slice la q lc ∧ (q = 0 → la = none) ∧ Hid (wr.ownsRow w1.heap.size 50 7 v q ((T.take q).flatMap Nd.cs)) ∧ Hid (Below w1.heap.size w1 wr)) (fun _ i _ => N - (intOf i).toNat)
  case atStart => exact ⟨0, none, 0, rfl, Nat.zero_le _, rfl, fun _ => rfl, World.ownsRow_nil _ _ _ _, Below.refl _ _⟩
  case round =>
    obtain ⟨q, la, lc, rfl, hq, hv, hla, HO, HB⟩ := hrel
    have HV : Hid (u4 = .slice la q lc) := hv
    clear hv
    have HXr : Hid _ := kept_block HB.out HX1.out
    by_cases hlt : q < N
    · have hlt' : (q : Int) < (N : Int) := by omega
      obtain ⟨x, hx⟩ : ∃ x, T[q]? = some x := ⟨T[q]'(by rw [HN.out]; exact hlt), List.getElem?_eq_getElem _⟩
      obtain ⟨gb, gf, rfl⟩ := H.out.some hx
      obtain ⟨hgl, x0, x1, x2, x3, x4, x5, x6⟩ := (H.out.below (trans2 HB1.out HB.out)).cells hx
      have HTK : Hid (T.take (q + 1) = T.take q ++ [x]) := by show _ = _; rw [List.take_add_one, hx]; rfl
      have HFT : Hid (Calls Tryz.prog 50 #[u4, x.V] wr fun e w' => e = .returned (.bool true) ∧ Below wr.heap.size wr w') := by
        have h9 := HO.out
        rw [HV.out] at h9 ⊢
        exact fits_at T q x la lc wr HS.out HR.out hx (nds_row' h9) hla
      have HXX : Hid (T[q]? = some x) := hx
      have hs := HB.out.size
      clear hx
      go_wp2_with fail
      refine Calls.mono HFT.out ?_
      rintro e w3 ⟨rfl, hb3⟩
      have HO3 : Hid (w3.ownsRow w1.heap.size 50 7 u4 q ((T.take q).flatMap Nd.cs)) := owns_chg HO.out (Chg.of_below hb3 (fun _ => False)) (fun _ _ => id)
      have HB3 : Hid (Below w1.heap.size w1 w3) := trans2 HB.out hb3
      have hs3 := HB3.out.size
      clear hb3 x0 x1 x2 x3 x4 x5 x6
      obtain ⟨hgl3, x0, x1, x2, x3, x4, x5, x6⟩ := (H.out.below (trans2 HB1.out HB3.out)).cells HXX.out
      obtain ⟨U, hU⟩ : ∃ U, T.take q = U := ⟨_, rfl⟩
      rw [hU] at HO3 HTK
      clear hU
      go_wp2_with (first
        | (at_builtin; refine wpList_append_lies _ rfl _ _ _ rfl w1.heap.size 50 i0 _ 7 72 Tryz.underlying25 hi0 hz0 hz1 hz2 rfl (by omega) u4 q (U.flatMap Nd.cs) rfl (World.ownsRow.alloc HO3.out _) ⟨w3.heap.size, 0, none⟩ 1 1 [.string x.p, .string x.d, .int .i64 x.v, .int .i64 x.m, .int .i64 x.c, .int .i64 x.o, .int .i64 x.k] rfl rfl (World.news_of_block (cs := #[.string x.p, .string x.d, .int .i64 x.v, .int .i64 x.m, .int .i64 x.c, .int .i64 x.o, .int .i64 x.k]) (t := 50) (fr := (0, 0)) (heap_alloc_new w3 _)) (by simp [Value.oneCell']) (by omega) (by unfold maxLen; omega) (by omega) (by simp; omega) (w3.heap.size + 1) (by simp) ?_
           intro g4 cap4 w4 hown4 hgrow4 hat4 hlt4
           have HN4 : Hid (w4.ownsRow w1.heap.size 50 7 (.slice (some ⟨g4, 0, none⟩) (q + 1) cap4) (q + 1) (U.flatMap Nd.cs ++ [.string x.p, .string x.d, .int .i64 x.v, .int .i64 x.m, .int .i64 x.c, .int .i64 x.o, .int .i64 x.k])) := hown4
           have HB4 : Hid (Below w1.heap.size w1 w4) := HB3.out.trans (((Below.refl _ _).alloc (by omega) _).grown hgrow4 (by simp; omega) (fun j hj => (HO3.out.lt j hj).1))
           clear hown4 hgrow4 hat4 hlt4)
        | fail)
      go_roundw
      case rel => exact ⟨q + 1, some ⟨g4, 0, none⟩, cap4, by go_num, by omega, rfl, (fun e => by omega), by show World.ownsRow _ _ _ _ _ _ _; rw [HTK.out, List.flatMap_append]; have h9 := HN4.out; simpa using h9, HB4.out⟩
      case measure => simp [intOf]; omega
    · obtain rfl : q = N := by omega
      obtain rfl := HV.out
      have hge : ¬ (q : Int) < (q : Int) := by omega
      have hq0 : ((q : Int) == 0) = false := by have : ¬ (q : Int) = 0 := by omega
                                                simpa using this
      have y0 := cells_1 HXr.out
      have yf := free_1 HXr.out
      have HOT : Hid (wr.ownsRow w1.heap.size 50 7 (.slice la q lc) q (T.flatMap Nd.cs)) := by
        have h9 := HO.out
        rw [List.take_of_length_le (by rw [HN.out]; exact Nat.le_refl _)] at h9
        exact h9
      go_wp2_with fail
      have hset : (wr.setCell ⟨tb, 0, none⟩ (.slice la q lc)).ownsRow w1.heap.size 50 7 (.slice la q lc) q (T.flatMap Nd.cs) := owns_chg HOT.out (Chg.set _ _ _) (fun k hk e => by
        have := (HOT.out.lt k hk).1
        have e' : k = tb := e
        have := (Array.getElem?_eq_some_iff.1 HX1.out).1
        omega)
      exact bodyPost_ret (results_cell_tmp rfl _ _ tb 27 _ (0, 0) _ (.int .i64 0) rfl rfl (fill_1 HXr.out) Tryz.underlying27 rfl (by kernel_rfl)) rfl ⟨la, ⟨lc, rfl⟩, nds_row' hset, (trans2 HB1.out HB.out).setCell (by rw [HTB.out]; exact Nat.le_refl _) _⟩
end Go.Proofs.YthelfbdkbldhjaaGreatDoor
