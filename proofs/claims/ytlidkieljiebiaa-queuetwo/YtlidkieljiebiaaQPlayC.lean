/-
  heraldlaw10: plays, Next.
-/
import Derived.Test.YtlidkieljiebiaaQPlayE
import Derived.Deep.Cut
import Derived.Deep.CutRange
import Derived.Deep.CutBlock
import Derived.Deep.RegionHeld3
namespace Go.Proofs.Ytlidkieljiebiaa
open Go.RowKit
set_option linter.unusedVariables false
set_option linter.unusedSimpArgs false

set_option maxHeartbeats 6400000 in
set_option maxRecDepth 100000 in
theorem plays_next (B D : Nat) (Q : QuT) (kind on st : Int) (cs : List TgT) (ps : List PaT) (v tv pv sv nv : Value) (L M : List Value) (u1 u2 : Value) (w : World) (S P : Nat → Prop) (h : Sit w S B D Q v tv pv sv nv L M) (h1 : TgsAt w P u1 cs) (h2 : PasAt w P u2 ps) (hs : (⟨kind, on, st, cs, ps⟩ : StT).Small) (ht : (⟨kind, on, st, cs, ps⟩ : StT).Tight) (hP : ∀ j, P j → ¬ DeskK D tv pv sv nv L M j ∧ j ≠ B) (k3 : kind = 3) :
    Calls Try.prog 25 #[.pointer (some ⟨B, 0, none⟩), rqV Q.room Q.last v, .agg #[.int .i64 kind, .int .i64 on, .int .i64 st, u1, u2], .pointer (some ⟨D, 0, none⟩)] w fun e w' => PlE w S B D (DeskK D tv pv sv nv L M) Q.room Q.last Q.l e w' := by
  obtain ⟨va, vc, rfl, _⟩ := RowAt.form h.ref
  obtain ⟨a1, c1, rfl, _⟩ := RowAt.form h1
  obtain ⟨a2, c2, rfl, _⟩ := RowAt.form h2
  obtain ⟨n1, hn1⟩ : ∃ z, cs.length = z := ⟨_, rfl⟩
  obtain ⟨n2, hn2⟩ : ∃ z, ps.length = z := ⟨_, rfl⟩
  obtain ⟨qn, hqn⟩ : ∃ z, Q.l.length = z := ⟨_, rfl⟩
  rw [hn1] at h1 ⊢
  rw [hn2] at h2 ⊢
  rw [hqn] at h ⊢
  obtain ⟨K, hK⟩ : ∃ K, DeskK D tv pv sv nv L M = K := ⟨_, rfl⟩
  have HK : Hid (DeskK D tv pv sv nv L M = K) := hK
  rw [hK] at hP ⊢
  have hbx := boxes3 (w := w) (a := #[.int .i64 Q.room, .int .i64 Q.last, .slice va qn vc]) (b := #[.int .i64 kind, .int .i64 on, .int .i64 st, .slice a1 n1 c1, .slice a2 n2 c2]) (c := #[.int .i64 0, .int .i64 0, .slice none 0 0]) (t := 67) (u := 33)
  obtain ⟨W, hW⟩ : ∃ W, ((w.alloc (.cells #[.int .i64 Q.room, .int .i64 Q.last, .slice va qn vc] 67)).alloc (.cells #[.int .i64 kind, .int .i64 on, .int .i64 st, .slice a1 n1 c1, .slice a2 n2 c2] 33)).alloc (.cells #[.int .i64 0, .int .i64 0, .slice none 0 0] 67) = W := ⟨_, rfl⟩
  simp only [hW] at hbx
  obtain ⟨⟨hA, hBx, hC⟩, hbel, hsz⟩ := hbx
  obtain ⟨g, hg⟩ : ∃ g, w.heap.size = g := ⟨_, rfl⟩
  rw [hg] at hA hBx hC hsz
  have hSit : Sit W (fun j => S j ∧ ¬ j = g + 1 + 1) B D Q (.slice va qn vc) tv pv sv nv L M := h.begin hbel (fun j hj => by omega)
  have HA : Hid _ := hA
  have HBX : Hid _ := hBx
  have HC : Hid _ := hC
  have HBW : Hid (Below w.heap.size w W) := hbel
  have HG : Hid (w.heap.size = g ∧ W.heap.size = g + 1 + 1 + 1) := ⟨hg, hsz⟩
  have HS : Hid (Sit W (fun j => S j ∧ ¬ j = g + 1 + 1) B D Q (.slice va qn vc) tv pv sv nv L M) := hSit
  have HW : Hid (((w.alloc (.cells #[.int .i64 Q.room, .int .i64 Q.last, .slice va qn vc] 67)).alloc (.cells #[.int .i64 kind, .int .i64 on, .int .i64 st, .slice a1 n1 c1, .slice a2 n2 c2] 33)).alloc (.cells #[.int .i64 0, .int .i64 0, .slice none 0 0] 67) = W) := hW
  have HN : Hid (cs.length = n1 ∧ ps.length = n2 ∧ Q.l.length = qn) := ⟨hn1, hn2, hqn⟩
  have HT1 : Hid (TgsAt W P (.slice a1 n1 c1) cs) := TgsAt.keep h1 (Kp.of_below hbel _)
  have HT2 : Hid (PasAt W P (.slice a2 n2 c2) ps) := PasAt.keep h2 (Kp.of_below hbel _)
  have HSM : Hid (⟨kind, on, st, cs, ps⟩ : StT).Small := hs
  have HTI : Hid (⟨kind, on, st, cs, ps⟩ : StT).Tight := ht
  have HP : Hid (∀ j, P j → ¬ K j ∧ j ≠ B) := hP
  have HKL : Hid (∀ j, K j → j < g) := fun j hj => by rw [← hg]; exact h.desk.lt j (by rw [hK]; exact hj)
  have HBL : Hid (B < g) := by rw [← hg]; exact h.q.lt
  have hq32 : qn ≤ 32 := by rw [← hqn]; have h1 := h.q.ok.room; have h2 := h.q.ok.fits; omega
  obtain ⟨a0, a1', a2'⟩ := cells_3 hA
  obtain ⟨b0, b1, b2, b3, b4⟩ := cells_5 hBx
  obtain ⟨r0, r1, r2⟩ := cells_3 hC
  have fr := free_of hC
  clear h h1 h2 hs ht hP hA hBx hC hbel hsz hSit hW hn1 hn2 hqn hK
  subst k3
  have hg1 : ∀ (w : World) i v o, (w.setCell ⟨g + 1 + 1, i, none⟩ v).cell? ⟨g, o, none⟩ = w.cell? ⟨g, o, none⟩ := fun w i v o => cellN (by omega)
  have hsm : ∀ t ∈ Q.l, t.Small := HS.out.q.ok.small
  have HNX : Hid (∀ w', Sit w' (fun j => S j ∧ ¬ j = g + 1 + 1) B D Q (.slice va qn vc) tv pv sv nv L M → Calls Try.prog 17 #[.pointer (some ⟨B, 0, none⟩), .int .i64 st] w' fun e w'' => ∃ v1, e = .returned v1 ∧ ItsAt w'' (NewIn w') v1 (Q.l.take (nextN Q.l st)) ∧ Sit w'' (fun j => S j ∧ ¬ j = g + 1 + 1) B D Q (.slice va qn vc) tv pv sv nv L M ∧ Chg w' w'' (fun j => j = B)) := fun w' h => (next_some B Q st w' _ h.q).mono fun e w'' ⟨v1, he, hi, hq, hc⟩ => ⟨v1, he, hi, h.queue hq hc (its_queue h.ref h.q.out hc) h.snd, hc⟩
  have HRN : Hid (∀ w', Sit w' (fun j => S j ∧ ¬ j = g + 1 + 1) B D Q (.slice va qn vc) tv pv sv nv L M → Calls Try.prog 27 #[rqV Q.room Q.last (.slice va qn vc), .int .i64 st] w' fun e w'' => ∃ v2, e = .returned v2 ∧ ItsAt w'' (NewIn w') v2 (Q.l.take (nextN Q.l st)) ∧ Below w'.heap.size w' w'') := fun w' h => refNext_any Q st _ w' _ h.ref (by rw [HN.out.2.2]; exact hq32) hsm
  have HSA : Hid (∀ v1 v2 w' S1 S2, ItsAt w' S1 v1 (Q.l.take (nextN Q.l st)) → ItsAt w' S2 v2 (Q.l.take (nextN Q.l st)) → Calls Try.prog 22 #[v1, v2] w' fun e w'' => e = .returned (.bool true) ∧ Below w'.heap.size w' w'') := fun v1 v2 w' S1 S2 h1 h2 => items_same v1 v2 _ w' S1 S2 h1 h2 (by rw [List.length_take, HN.out.2.2]; omega) (fun t ht => hsm t (List.mem_of_mem_take ht))
  clear hsm
  go_enter Try.func25, Try.ntmps25
  go_upto_region 1 with fail
  rw [HW.out]
  clear hg
  go_wp2_with (first | (go_at_call 17; refine (HNX.out _ HS.out).mono ?_; rintro e w2 ⟨v1, rfl, hi1, hs2, hc2⟩
                        have HI1 : Hid (ItsAt w2 (NewIn W) v1 (Q.l.take (nextN Q.l st))) := hi1
                        have HS2 : Hid (Sit w2 (fun j => S j ∧ ¬ j = g + 1 + 1) B D Q (.slice va qn vc) tv pv sv nv L M) := hs2
                        have HC2 : Hid (Chg W w2 (fun j => j = B)) := hc2
                        have HA2 : Hid (w2.heap[g]? = some (.cells #[.int .i64 Q.room, .int .i64 Q.last, .slice va qn vc] 67 (0, 0))) := blk_queue HA.out HBL.out hc2
                        have HB2 : Hid (w2.heap[g + 1]? = some (.cells #[.int .i64 3, .int .i64 on, .int .i64 st, .slice a1 n1 c1, .slice a2 n2 c2] 33 (0, 0))) := blk_queue HBX.out (by have := HBL.out; omega) hc2
                        have HR2 : Hid (w2.heap[g + 1 + 1]? = some (.cells #[.int .i64 0, .int .i64 0, .slice none 0 0] 67 (0, 0))) := blk_queue HC.out (by have := HBL.out; omega) hc2
                        clear hi1 hs2 hc2 a0 a1' a2' b0 b1 b2 b3 b4 r0 r1 r2 fr
                        obtain ⟨a0, a1', a2'⟩ := cells_3 HA2.out
                        obtain ⟨b0, b1, b2, b3, b4⟩ := cells_5 HB2.out) | fail)
  go_region_held3 (fun w' => w'.cell? ⟨g, 0, none⟩ = some (.int .i64 Q.room) ∧ w'.cell? ⟨g, 1, none⟩ = some (.int .i64 Q.last) ∧ w'.cell? ⟨g, 2, none⟩ = some (.slice va qn vc) ∧ w'.cell? ⟨g + 1, 2, none⟩ = some (.int .i64 st)) (first | exact ⟨a0, a1', a2', b2⟩ | go_keep)
    (first
    | (go_at_call 27; refine (HRN.out _ (HS2.out.below (below_drew (Below.refl _ _)))).mono ?_; rintro e w3 ⟨v2, rfl, hi2, hb3⟩
       have HI2 : Hid (ItsAt w3 (NewIn w2.drew) v2 (Q.l.take (nextN Q.l st))) := hi2
       have HB3 : Hid (Below w2.heap.size w2 w3) := of_drew hb3
       have HA3 : Hid _ := kept_block HB3.out HA2.out
       have HX3 : Hid _ := kept_block HB3.out HB2.out
       clear hi2 hb3 a0 a1' a2' b0 b1 b2 b3 b4
       obtain ⟨a0, a1', a2'⟩ := cells_3 HA3.out
       obtain ⟨b0, b1, b2, b3, b4⟩ := cells_5 HX3.out)
    | (go_at_call 22; refine (HSA.out _ _ _ _ _ (ItsAt.keep HI1.out (Kp.of_below HB3.out _)) HI2.out).mono ?_; rintro e w4 ⟨rfl, hb4⟩
       have HB4 : Hid (Below w2.heap.size w2 w4) := trans2 HB3.out hb4
       have HA4 : Hid _ := kept_block HB4.out HA2.out
       have HX4 : Hid _ := kept_block HB4.out HB2.out
       have HR4 : Hid _ := kept_block HB4.out HR2.out
       clear hb4 a0 a1' a2' b0 b1 b2 b3 b4
       obtain ⟨a0, a1', a2'⟩ := cells_3 HA4.out
       obtain ⟨b0, b1, b2, b3, b4⟩ := cells_5 HX4.out
       obtain ⟨r0, r1, r2⟩ := cells_3 HR4.out
       have fr := free_of HR4.out)
    | fail)
  go_wp2_with fail
  refine bodyPost_ret (results_cell_tmp rfl _ _ (g + 1 + 1) 67 _ (0, 0) _ _ rfl rfl (fill_3 HR4.out) Try.underlying67 rfl (by kernel_rfl)) rfl ?_
  have hc := chg_put3 w4 (g + 1 + 1) (.int .i64 Q.room) (.int .i64 Q.last) (.slice va qn vc)
  refine ⟨_, Q.first, .slice va qn vc, tv, pv, sv, nv, L, M, rfl, (HS2.out.below HB4.out).other hc (fun j _ e => ?_), fun j hj => hj.1, ?_, fun j hj => .inl (by rw [← HK.out]; exact hj)⟩
  · have e : j = g + 1 + 1 := e
    have h1 := HBL.out
    exact ⟨fun hh => hh.2 e, by omega, fun hh => by have := HKL.out j (by rw [← HK.out]; exact hh); omega⟩
  · exact chg_ext (((Chg.of_below HBW.out _).trans (HC2.out.mono fun j _ e => .inl e)).trans (Chg.of_below HB4.out _)) hc (fun j e => by have e : j = g + 1 + 1 := e; have := HG.out; exact .inr (by omega))
end Go.Proofs.Ytlidkieljiebiaa
