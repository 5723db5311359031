/-
  tree: Part on both trees.
-/
import Derived.Test.YthelfbdkbldhjaaGreatDoorTPlyE
import Derived.Test.YthelfbdkbldhjaaGreatDoorTRefH
namespace Go.Proofs.YthelfbdkbldhjaaGreatDoor
open Go.RowKit Go.Maps Go.WideShapes
set_option linter.unusedVariables false
set_option linter.unusedSimpArgs false

def partM (T : List Nd) (k : Int) (p : ByteArray) : Int × List SnT := if (parse p).1 ≠ 0 then (10, []) else if k < 1 ∨ 3 < k then (1, []) else (0, parT T k p)
theorem partM_len (T : List Nd) (k : Int) (p : ByteArray) : (partM T k p).2.length ≤ T.length := by
  unfold partM
  split
  · exact Nat.zero_le _
  · split
    · exact Nat.zero_le _
    · exact parT_len _ _ _
theorem partT_all (B tb q : Nat) (T : List Nd) (k : Int) (p : ByteArray) (w : World) (hg : Ground w) (h : TrAt w B tb q T) :
    Calls Tryz.prog 26 #[.pointer (some ⟨tb, 0, none⟩), .string p, .int .i64 k] w fun e w' => ∃ a cap, e = .returned (.tuple #[.slice a (partM T k p).2.length cap, .int .i64 (partM T k p).1]) ∧ w'.ownsRow w.heap.size 102 3 (.slice a (partM T k p).2.length cap) (partM T k p).2.length ((partM T k p).2.flatMap SnT.cs) ∧ Below w.heap.size w w' := by
  unfold partM
  by_cases hp : (parse p).1 = 0
  · rw [if_neg (by simpa using hp)]
    by_cases hk : k < 1 ∨ 3 < k
    · rw [if_pos hk]
      refine Calls.mono (part_arg B tb q T k p w hg h hp hk) ?_
      rintro e w' ⟨rfl, hb⟩
      exact ⟨none, 0, rfl, World.ownsRow_nil _ _ _ _, hb⟩
    · rw [if_neg hk]
      exact part_tr B tb q T k p w hg h hp (by omega)
  · rw [if_pos hp]
    refine Calls.mono (part_bad B tb q T k p w hg h hp) ?_
    rintro e w' ⟨rfl, hb⟩
    exact ⟨none, 0, rfl, World.ownsRow_nil _ _ _ _, hb⟩
theorem refPart_all (a : Option Addr) (c : Nat) (T : List Nd) (k : Int) (p : ByteArray) (w : World) (h : NdsAt w a T) (hS : Snd T) :
    Calls Tryz.prog 25 #[rtV a T.length c, .string p, .int .i64 k] w fun e w' => ∃ v, e = .returned (.tuple #[v, .int .i64 (partM T k p).1]) ∧ w'.ownsRow w.heap.size 102 3 v (partM T k p).2.length ((partM T k p).2.flatMap SnT.cs) ∧ Below w.heap.size w w' := by
  have h0 : 0 < T.length := List.length_pos_iff.2 hS.ne
  have hi : ∀ x ∈ T, isP x.p = true := fun x hx => by simpa [isP] using (hS.inv.nd x hx).1
  have h64 := hS.inv.len
  unfold partM
  by_cases hp : (parse p).1 = 0
  · have hp' : isP p = true := by simpa [isP] using hp
    rw [if_neg (by simpa using hp)]
    by_cases hk : k < 1 ∨ 3 < k
    · rw [if_pos hk]
      refine Calls.mono (refPart_arg a T.length c p k w h0 hp' hk) ?_
      rintro e w' ⟨rfl, hb⟩
      exact ⟨_, rfl, World.ownsRow_nil _ _ _ _, hb⟩
    · rw [if_neg hk]
      show Calls _ _ _ _ (PartE w (parT T k p))
      cases hf : fnd T p with
      | none =>
        rw [part_none hS hp hf k]
        exact refPart_gone a c T p k w h h64 hp' (by omega) (by rw [fndI_none (fnd_none hf)]; decide) h0
      | some u =>
        obtain ⟨i, hi', _⟩ := fndI_fnd hf
        have hfi : 0 ≤ fndI T p := by rw [hi']; omega
        rcases (show k = 1 ∨ k = 2 ∨ k = 3 by omega) with rfl | rfl | rfl
        · exact refPart_1 a c T p w h h64 hp' hfi hi h0
        · exact refPart_2 a c T p w h h64 hp' hfi hi h0
        · exact refPart_3 a c T p w h h64 hp' hfi hi h0
  · have hp' : isP p = false := by simpa [isP] using hp
    rw [if_pos hp]
    refine Calls.mono (refPart_bad a T.length c p k w h0 hp') ?_
    rintro e w' ⟨rfl, hb⟩
    exact ⟨_, rfl, World.ownsRow_nil _ _ _ _, hb⟩
set_option maxHeartbeats 3200000 in
set_option maxRecDepth 100000 in
theorem ply_part (W w : World) (db tb q : Nat) (dv : Value) (a : Option Addr) (c : Nat) (T : List Nd) (h : Sit W w db tb q dv a T) (hg : GroundT W) (s st nn : Int) (oa : Option Addr) (n oc : Nat) (pl : ByteArray) :
    Calls Tryz.prog 11 #[.pointer (some ⟨tb, 0, none⟩), rtV a T.length c, .agg (stCs 3 s st oa n oc pl nn), .pointer (some ⟨db, 0, none⟩)] w (PlE W w db tb q dv T) := by
  have h64 : T.length ≤ 64 := h.tr.snd.inv.len
  have hpl := partM_len T nn pl
  have HPT : Hid (∀ w', Below w.heap.size w w' → _) := fun w' hb => partT_all W.heap.size tb q T nn pl w' (hg.below (trans2 h.low hb)).toGround (h.tr.below hb)
  have HRP : Hid (∀ w', Below w.heap.size w w' → _) := fun w' hb => refPart_all a c T nn pl w' (h.nds.below hb) h.tr.snd
  obtain ⟨N, hN⟩ : ∃ N, T.length = N := ⟨_, rfl⟩
  have HN : Hid (T.length = N) := hN
  have H : Hid _ := h
  obtain ⟨PM, hPM⟩ : ∃ PM, partM T nn pl = PM := ⟨_, rfl⟩
  rw [hPM] at HPT HRP hpl
  obtain ⟨pc, PL⟩ := PM
  obtain ⟨PN, hPN⟩ : ∃ PN, PL.length = PN := ⟨_, rfl⟩
  have HPN : Hid (PL.length = PN) := hPN
  have HSE : Hid (∀ (w' : World) (B1 B2 : Nat) (va vb : Value), w'.ownsRow B1 102 3 va PN (PL.flatMap SnT.cs) → w'.ownsRow B2 102 3 vb PN (PL.flatMap SnT.cs) → Calls Tryz.prog 28 #[va, vb] w' fun e w'' => e = .returned (.bool true) ∧ Below w'.heap.size w' w'') := fun w' B1 B2 va vb h1 h2 => seenT_any B1 B2 va vb PL w' (by rw [hPN]; exact h1) (by rw [hPN]; exact h2) (by have : PL.length ≤ T.length := hpl; omega)
  rw [hN] at HRP ⊢
  simp only [hPN] at HPT HRP
  clear hN h hPM hPN hpl
  have HS : Hid _ := plI_start w (.slice a N c) (stCs 3 s st oa n oc pl nn)
  go_enter Tryz.func11, Tryz.ntmps11
  go_wp2_with fail
  refine Calls.mono (HRP.out _ HS.out.low) ?_
  rintro e w1 ⟨v1, rfl, hr1, hb1⟩
  have H1 : Hid (PlI w w1 (.slice a N c) (stCs 3 s st oa n oc pl nn)) := HS.out.below hb1
  have HR1 : Hid _ := hr1
  obtain ⟨s0, s1, s2, s3, s4, s5⟩ := cells_6 H1.out.sp
  clear hb1 hr1
  go_wp2_with fail
  refine Calls.mono (HPT.out _ H1.out.low) ?_
  rintro e w2 ⟨pa, pcap, rfl, hr2, hb2⟩
  have H2 : Hid (PlI w w2 (.slice a N c) (stCs 3 s st oa n oc pl nn)) := H1.out.below hb2
  have HR2 : Hid _ := owns_chg HR1.out (Chg.of_below hb2 (fun _ => False)) (fun _ _ => id)
  have HQ2 : Hid _ := hr2
  have r0 := cells_1 H2.out.tr
  have r1 := cells_1 H2.out.rs
  have f1 := free_1 H2.out.rs
  clear hb2 hr2 s0 s1 s2 s3 s4 s5
  go_wp2_with fail
  go_region_held3 (fun w' => w'.cell? ⟨w.heap.size, 0, none⟩ = some (.slice a N c)) (first | go_keep | exact q0 | (rw [cellN (by omega)]; exact q0))
    (first
    | (go_at_call 27; go_in)
    | (go_at_call 28; refine Calls.mono (HSE.out _ _ _ _ _ (owns_chg HQ2.out (Chg.of_below (below_drew0 _) (fun _ => False)) (fun _ _ => id)) (owns_chg HR2.out (Chg.of_below (below_drew0 _) (fun _ => False)) (fun _ _ => id))) ?_; rintro e w3 ⟨rfl, hb3⟩
       have H3 : Hid (PlI w w3 (.slice a N c) (stCs 3 s st oa n oc pl nn)) := H2.out.below (of_drew hb3)
       have q0 := cells_1 H3.out.tr
       have q1 := cells_1 H3.out.rs
       have g1 := free_1 H3.out.rs
       clear hb3)
    | fail)
  go_wp2_with fail
  exact bodyPost_ret (results_tmp_cell_tmp rfl _ _ (w.heap.size + 1 + 1) 27 #[.slice a N c] (0, 0) _ (.pointer (some ⟨tb, 0, none⟩)) (.bool true) rfl rfl rfl (same_blk H3.out.rs rfl) Tryz.underlying27 rfl (by kernel_rfl)) rfl (PlE.low H.out c HN.out (H3.out.low.setCell (by simp; omega) _))
end Go.Proofs.YthelfbdkbldhjaaGreatDoor
