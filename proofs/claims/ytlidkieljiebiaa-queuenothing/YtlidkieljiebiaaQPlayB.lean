/-
  heraldlaw10: plays, Took.
-/
import Derived.Test.YtlidkieljiebiaaQPlayC
import Derived.Deep.Cut
import Derived.Deep.CutRange
import Derived.Deep.CutBlock
import Derived.Deep.RegionHeld3
namespace Go.Proofs.Ytlidkieljiebiaa
open Go.RowKit
set_option linter.unusedVariables false
set_option linter.unusedSimpArgs false

theorem chg_undrew {w w' : World} {S : Nat → Prop} (h : Chg w.drew w' S) : Chg w w' S := ⟨h.os, h.tape, h.output, h.size, h.block⟩
set_option maxHeartbeats 6400000 in
set_option maxRecDepth 100000 in
theorem plays_took (B D : Nat) (Q : QuT) (kind on st : Int) (cs : List TgT) (ps : List PaT) (v tv pv sv nv : Value) (L M : List Value) (u1 u2 : Value) (w : World) (S P : Nat → Prop) (h : Sit w S B D Q v tv pv sv nv L M) (h1 : TgsAt w P u1 cs) (h2 : PasAt w P u2 ps) (hs : (⟨kind, on, st, cs, ps⟩ : StT).Small) (ht : (⟨kind, on, st, cs, ps⟩ : StT).Tight) (hP : ∀ j, P j → ¬ DeskK D tv pv sv nv L M j ∧ j ≠ B) (k4 : kind = 4) :
    Calls Try.prog 25 #[.pointer (some ⟨B, 0, none⟩), rqV Q.room Q.last v, .agg #[.int .i64 kind, .int .i64 on, .int .i64 st, u1, u2], .pointer (some ⟨D, 0, none⟩)] w fun e w' => PlE w S B D (DeskK D tv pv sv nv L M) Q.room Q.last (Q.l.drop (tookN Q.l st)) e w' := by
  obtain ⟨va, vc, rfl, _⟩ := RowAt.form h.ref
  obtain ⟨a1, c1, rfl, _⟩ := RowAt.form h1
  obtain ⟨a2, c2, rfl, _⟩ := RowAt.form h2
  obtain ⟨n1, hn1⟩ : ∃ z, cs.length = z := ⟨_, rfl⟩
  obtain ⟨n2, hn2⟩ : ∃ z, ps.length = z := ⟨_, rfl⟩
  obtain ⟨qn, hqn⟩ : ∃ z, Q.l.length = z := ⟨_, rfl⟩
  rw [hn1] at h1 ⊢
  rw [hn2] at h2 ⊢
  rw [hqn] at h ⊢
  obtain ⟨K, hK⟩ : ∃ K, DeskK D tv pv sv nv L M = K := ⟨_, rfl⟩
  have HK : Hid (DeskK D tv pv sv nv L M = K) := hK
  rw [hK] at hP ⊢
  have hbx := boxes3 (w := w) (a := #[.int .i64 Q.room, .int .i64 Q.last, .slice va qn vc]) (b := #[.int .i64 kind, .int .i64 on, .int .i64 st, .slice a1 n1 c1, .slice a2 n2 c2]) (c := #[.int .i64 0, .int .i64 0, .slice none 0 0]) (t := 67) (u := 33)
  obtain ⟨W, hW⟩ : ∃ W, ((w.alloc (.cells #[.int .i64 Q.room, .int .i64 Q.last, .slice va qn vc] 67)).alloc (.cells #[.int .i64 kind, .int .i64 on, .int .i64 st, .slice a1 n1 c1, .slice a2 n2 c2] 33)).alloc (.cells #[.int .i64 0, .int .i64 0, .slice none 0 0] 67) = W := ⟨_, rfl⟩
  simp only [hW] at hbx
  obtain ⟨⟨hA, hBx, hC⟩, hbel, hsz⟩ := hbx
  obtain ⟨g, hg⟩ : ∃ g, w.heap.size = g := ⟨_, rfl⟩
  rw [hg] at hA hBx hC hsz
  have hSit : Sit W (fun j => S j ∧ ¬ j = g + 1 + 1) B D Q (.slice va qn vc) tv pv sv nv L M := h.begin hbel (fun j hj => by omega)
  have HA : Hid _ := hA
  have HBX : Hid _ := hBx
  have HC : Hid _ := hC
  have HBW : Hid (Below w.heap.size w W) := hbel
  have HG : Hid (w.heap.size = g ∧ W.heap.size = g + 1 + 1 + 1) := ⟨hg, hsz⟩
  have HS : Hid (Sit W (fun j => S j ∧ ¬ j = g + 1 + 1) B D Q (.slice va qn vc) tv pv sv nv L M) := hSit
  have HW : Hid (((w.alloc (.cells #[.int .i64 Q.room, .int .i64 Q.last, .slice va qn vc] 67)).alloc (.cells #[.int .i64 kind, .int .i64 on, .int .i64 st, .slice a1 n1 c1, .slice a2 n2 c2] 33)).alloc (.cells #[.int .i64 0, .int .i64 0, .slice none 0 0] 67) = W) := hW
  have HN : Hid (cs.length = n1 ∧ ps.length = n2 ∧ Q.l.length = qn) := ⟨hn1, hn2, hqn⟩
  have HT1 : Hid (TgsAt W P (.slice a1 n1 c1) cs) := TgsAt.keep h1 (Kp.of_below hbel _)
  have HT2 : Hid (PasAt W P (.slice a2 n2 c2) ps) := PasAt.keep h2 (Kp.of_below hbel _)
  have HSM : Hid (⟨kind, on, st, cs, ps⟩ : StT).Small := hs
  have HTI : Hid (⟨kind, on, st, cs, ps⟩ : StT).Tight := ht
  have HP : Hid (∀ j, P j → ¬ K j ∧ j ≠ B) := hP
  have HKL : Hid (∀ j, K j → j < g) := fun j hj => by rw [← hg]; exact h.desk.lt j (by rw [hK]; exact hj)
  have HBL : Hid (B < g) := by rw [← hg]; exact h.q.lt
  have hq32 : qn ≤ 32 := by rw [← hqn]; have h1 := h.q.ok.room; have h2 := h.q.ok.fits; omega
  obtain ⟨a0, a1', a2'⟩ := cells_3 hA
  obtain ⟨b0, b1, b2, b3, b4⟩ := cells_5 hBx
  obtain ⟨r0, r1, r2⟩ := cells_3 hC
  have fr := free_of hC
  clear h h1 h2 hs ht hP hA hBx hC hbel hsz hSit hW hn1 hn2 hqn hK
  subst k4
  obtain ⟨tk, htk⟩ : ∃ z, tookN Q.l st = z := ⟨_, rfl⟩
  have HTK : Hid (tookN Q.l st = tk) := htk
  rw [htk]
  clear htk
  have HRT : Hid (Calls Try.prog 55 #[rqV Q.room Q.last (.slice va qn vc), .int .i64 st] W fun e w'' => ∃ a3 c3, e = .returned (.tuple #[rqV Q.room Q.last (.slice a3 (Q.l.drop tk).length c3), .int .i64 tk]) ∧ ItsAt w'' (fun j => S j ∧ ¬ j = g + 1 + 1) (.slice a3 (Q.l.drop tk).length c3) (Q.l.drop tk) ∧ Below W.heap.size W w'') := (refTook_any Q st _ W _ HS.out.ref (by rw [HN.out.2.2]; exact hq32) HS.out.snd).mono fun e w'' ⟨v2, he, hi, hb⟩ => by
    rw [HTK.out] at he hi
    obtain ⟨a3, c3, hv, _⟩ := RowAt.form hi
    subst hv
    exact ⟨a3, c3, he, its_mono hi (fun j _ hj => hj.elim id (fun hj => HS.out.hi j hj)), hb⟩
  obtain ⟨dn, hdn⟩ : ∃ z, (Q.l.drop tk).length = z := ⟨_, rfl⟩
  rw [hdn] at HRT
  clear hdn
  have HTO : Hid (∀ w' (X : Nat → Prop), QueueAt w' X B 0 Q → Calls Try.prog 16 #[.pointer (some ⟨B, 0, none⟩), .int .i64 st] w' fun e w'' => e = .returned (.int .i64 tk) ∧ (∃ f, QueueAt w'' X B 0 ⟨Q.room, f, Q.last, Q.l.drop tk⟩) ∧ Chg w' w'' (fun j => j = B)) := fun w' X h => by
    have := took_some B Q st w' X h
    rw [HTK.out] at this
    exact this
  go_enter Try.func25, Try.ntmps25
  go_upto_region 1 with fail
  rw [HW.out]
  clear hg
  go_wp2_with (first | (go_at_call 55; refine HRT.out.mono ?_; rintro e w2 ⟨a3, c3, rfl, hi1, hb2⟩
                        have HI1 : Hid (ItsAt w2 (fun j => S j ∧ ¬ j = g + 1 + 1) (.slice a3 dn c3) (Q.l.drop tk)) := hi1
                        have HB2 : Hid (Below W.heap.size W w2) := hb2
                        have HX2 : Hid _ := kept_block hb2 HBX.out
                        have HR2 : Hid _ := kept_block hb2 HC.out
                        clear hi1 hb2 a0 a1' a2' b0 b1 b2 b3 b4 r0 r1 r2 fr) | fail)
  obtain ⟨b25, h25⟩ : ∃ b, w2.heap.size = b := ⟨_, rfl⟩
  obtain ⟨w3, hw3⟩ : ∃ w3, w2.alloc (.cells #[.int .i64 Q.room, .int .i64 Q.last, .slice a3 dn c3] 67) = w3 := ⟨_, rfl⟩
  rw [hw3, h25]
  have H25 : Hid (w2.heap.size = b25 ∧ g + 1 + 1 + 1 ≤ b25) := ⟨h25, by have h1 := HB2.out.size; have h2 := HG.out; omega⟩
  have HB3 : Hid (Below w2.heap.size w2 w3) := by show Below _ _ _; rw [← hw3]; exact (Below.refl _ _).alloc (Nat.le_refl _) _
  have HN3 : Hid (w3.heap[b25]? = some (.cells #[.int .i64 Q.room, .int .i64 Q.last, .slice a3 dn c3] 67 (0, 0)) ∧ w3.heap.size = b25 + 1) := by
    show _ ∧ _
    rw [← hw3, ← h25]
    exact ⟨heap_alloc_new _ _, by simp⟩
  have HX3 : Hid _ := kept_block HB3.out HX2.out
  have HR3 : Hid _ := kept_block HB3.out HR2.out
  have HS3 : Hid (Sit w3 (fun j => (S j ∧ ¬ j = g + 1 + 1) ∧ ¬ j = b25) B D Q (.slice va qn vc) tv pv sv nv L M) := (HS.out.below HB2.out).begin HB3.out (fun j hj => by have h1 := HN3.out.2; omega)
  have HI3 : Hid (ItsAt w3 (fun j => (S j ∧ ¬ j = g + 1 + 1) ∧ ¬ j = b25) (.slice a3 dn c3) (Q.l.drop tk)) := ItsAt.keep (its_mono HI1.out (fun j hj hS => ⟨hS, by omega⟩)) (Kp.of_below HB3.out _)
  have hg1 : ∀ (w : World) i v o, (w.setCell ⟨g + 1 + 1, i, none⟩ v).cell? ⟨b25, o, none⟩ = w.cell? ⟨b25, o, none⟩ := fun w i v o => cellN (by have := H25.out.2; omega)
  obtain ⟨d0, d1, d2⟩ := cells_3 HN3.out.1
  obtain ⟨b0, b1, b2, b3, b4⟩ := cells_5 HX3.out
  clear h25 hw3
  go_region_held3 (fun w' => w'.cell? ⟨b25, 0, none⟩ = some (.int .i64 Q.room) ∧ w'.cell? ⟨b25, 1, none⟩ = some (.int .i64 Q.last) ∧ w'.cell? ⟨b25, 2, none⟩ = some (.slice a3 dn c3) ∧ w'.cell? ⟨g + 1, 2, none⟩ = some (.int .i64 st)) (first | exact ⟨d0, d1, d2, b2⟩ | go_keep)
    (first
    | (go_at_call 16; refine (HTO.out _ _ (HS3.out.q.below (below_drew (Below.refl _ _)))).mono ?_; rintro e w4 ⟨rfl, ⟨f, hq4⟩, hc4⟩
       have HC4 : Hid (Chg w3 w4 (fun j => j = B)) := chg_undrew hc4
       have HS4 : Hid (Sit w4 (fun j => (S j ∧ ¬ j = g + 1 + 1) ∧ ¬ j = b25) B D ⟨Q.room, f, Q.last, Q.l.drop tk⟩ (.slice a3 dn c3) tv pv sv nv L M) := HS3.out.queue hq4 HC4.out (its_queue HI3.out HS3.out.q.out HC4.out) (HS3.out.snd.drop tk)
       have HN4 : Hid _ := blk_queue HN3.out.1 (by have h1 := HBL.out; have h2 := H25.out.2; omega) HC4.out
       have HX4 : Hid _ := blk_queue HX3.out (by have := HBL.out; omega) HC4.out
       have HR4 : Hid _ := blk_queue HR3.out (by have := HBL.out; omega) HC4.out
       clear hq4 hc4 d0 d1 d2 b0 b1 b2 b3 b4
       obtain ⟨d0, d1, d2⟩ := cells_3 HN4.out
       obtain ⟨b0, b1, b2, b3, b4⟩ := cells_5 HX4.out
       obtain ⟨r0, r1, r2⟩ := cells_3 HR4.out
       have fr := free_of HR4.out)
    | fail)
  go_wp2_with fail
  refine bodyPost_ret (results_cell_tmp rfl _ _ (g + 1 + 1) 67 _ (0, 0) _ _ rfl rfl (fill_3 HR4.out) Try.underlying67 rfl (by kernel_rfl)) rfl ?_
  have hc := chg_put3 w4 (g + 1 + 1) (.int .i64 Q.room) (.int .i64 Q.last) (.slice a3 dn c3)
  refine ⟨_, f, .slice a3 dn c3, tv, pv, sv, nv, L, M, rfl, HS4.out.other hc (fun j _ e => ?_), fun j hj => hj.1.1, ?_, fun j hj => .inl (by rw [← HK.out]; exact hj)⟩
  · have e : j = g + 1 + 1 := e
    have h1 := HBL.out
    exact ⟨fun hh => hh.1.2 e, by omega, fun hh => by have := HKL.out j (by rw [← HK.out]; exact hh); omega⟩
  · exact chg_ext ((((Chg.of_below HBW.out _).trans (Chg.of_below HB2.out _)).trans (Chg.of_below HB3.out _)).trans (HC4.out.mono fun j _ e => .inl e)) hc (fun j e => by have e : j = g + 1 + 1 := e; have := HG.out; exact .inr (by omega))
end Go.Proofs.Ytlidkieljiebiaa
