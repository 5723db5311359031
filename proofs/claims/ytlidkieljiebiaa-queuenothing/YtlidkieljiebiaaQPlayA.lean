/-
  heraldlaw10: plays, what does nothing.
-/
import Derived.Test.YtlidkieljiebiaaQSit
import Derived.Deep.Cut
import Derived.Deep.CutRange
import Derived.Deep.CutBlock
import Derived.Deep.RegionHeld3
namespace Go.Proofs.Ytlidkieljiebiaa
open Go.RowKit
set_option linter.unusedVariables false
set_option linter.unusedSimpArgs false

set_option maxHeartbeats 6400000 in
set_option maxRecDepth 100000 in
theorem plays_else (B D : Nat) (Q : QuT) (kind on st : Int) (cs : List TgT) (ps : List PaT) (v tv pv sv nv : Value) (L M : List Value) (u1 u2 : Value) (w : World) (S P : Nat → Prop) (h : Sit w S B D Q v tv pv sv nv L M) (h1 : TgsAt w P u1 cs) (h2 : PasAt w P u2 ps) (hs : (⟨kind, on, st, cs, ps⟩ : StT).Small) (ht : (⟨kind, on, st, cs, ps⟩ : StT).Tight) (hP : ∀ j, P j → ¬ DeskK D tv pv sv nv L M j ∧ j ≠ B) (k1 : kind ≠ 1) (k2 : kind ≠ 2) (k3 : kind ≠ 3) (k4 : kind ≠ 4) (k5 : kind ≠ 5) :
    Calls Try.prog 25 #[.pointer (some ⟨B, 0, none⟩), rqV Q.room Q.last v, .agg #[.int .i64 kind, .int .i64 on, .int .i64 st, u1, u2], .pointer (some ⟨D, 0, none⟩)] w fun e w' => PlE w S B D (DeskK D tv pv sv nv L M) Q.room Q.last Q.l e w' := by
  obtain ⟨va, vc, rfl, _⟩ := RowAt.form h.ref
  obtain ⟨a1, c1, rfl, _⟩ := RowAt.form h1
  obtain ⟨a2, c2, rfl, _⟩ := RowAt.form h2
  obtain ⟨n1, hn1⟩ : ∃ z, cs.length = z := ⟨_, rfl⟩
  obtain ⟨n2, hn2⟩ : ∃ z, ps.length = z := ⟨_, rfl⟩
  obtain ⟨qn, hqn⟩ : ∃ z, Q.l.length = z := ⟨_, rfl⟩
  rw [hn1] at h1 ⊢
  rw [hn2] at h2 ⊢
  rw [hqn] at h ⊢
  obtain ⟨K, hK⟩ : ∃ K, DeskK D tv pv sv nv L M = K := ⟨_, rfl⟩
  have HK : Hid (DeskK D tv pv sv nv L M = K) := hK
  rw [hK] at hP ⊢
  have hbx := boxes3 (w := w) (a := #[.int .i64 Q.room, .int .i64 Q.last, .slice va qn vc]) (b := #[.int .i64 kind, .int .i64 on, .int .i64 st, .slice a1 n1 c1, .slice a2 n2 c2]) (c := #[.int .i64 0, .int .i64 0, .slice none 0 0]) (t := 67) (u := 33)
  obtain ⟨W, hW⟩ : ∃ W, ((w.alloc (.cells #[.int .i64 Q.room, .int .i64 Q.last, .slice va qn vc] 67)).alloc (.cells #[.int .i64 kind, .int .i64 on, .int .i64 st, .slice a1 n1 c1, .slice a2 n2 c2] 33)).alloc (.cells #[.int .i64 0, .int .i64 0, .slice none 0 0] 67) = W := ⟨_, rfl⟩
  simp only [hW] at hbx
  obtain ⟨⟨hA, hBx, hC⟩, hbel, hsz⟩ := hbx
  obtain ⟨g, hg⟩ : ∃ g, w.heap.size = g := ⟨_, rfl⟩
  rw [hg] at hA hBx hC hsz
  have hSit : Sit W (fun j => S j ∧ ¬ j = g + 1 + 1) B D Q (.slice va qn vc) tv pv sv nv L M := h.begin hbel (fun j hj => by omega)
  have HA : Hid _ := hA
  have HBX : Hid _ := hBx
  have HC : Hid _ := hC
  have HBW : Hid (Below w.heap.size w W) := hbel
  have HG : Hid (w.heap.size = g ∧ W.heap.size = g + 1 + 1 + 1) := ⟨hg, hsz⟩
  have HS : Hid (Sit W (fun j => S j ∧ ¬ j = g + 1 + 1) B D Q (.slice va qn vc) tv pv sv nv L M) := hSit
  have HW : Hid (((w.alloc (.cells #[.int .i64 Q.room, .int .i64 Q.last, .slice va qn vc] 67)).alloc (.cells #[.int .i64 kind, .int .i64 on, .int .i64 st, .slice a1 n1 c1, .slice a2 n2 c2] 33)).alloc (.cells #[.int .i64 0, .int .i64 0, .slice none 0 0] 67) = W) := hW
  have HN : Hid (cs.length = n1 ∧ ps.length = n2 ∧ Q.l.length = qn) := ⟨hn1, hn2, hqn⟩
  have HT1 : Hid (TgsAt W P (.slice a1 n1 c1) cs) := TgsAt.keep h1 (Kp.of_below hbel _)
  have HT2 : Hid (PasAt W P (.slice a2 n2 c2) ps) := PasAt.keep h2 (Kp.of_below hbel _)
  have HSM : Hid (⟨kind, on, st, cs, ps⟩ : StT).Small := hs
  have HTI : Hid (⟨kind, on, st, cs, ps⟩ : StT).Tight := ht
  have HP : Hid (∀ j, P j → ¬ K j ∧ j ≠ B) := hP
  have HKL : Hid (∀ j, K j → j < g) := fun j hj => by rw [← hg]; exact h.desk.lt j (by rw [hK]; exact hj)
  have HBL : Hid (B < g) := by rw [← hg]; exact h.q.lt
  have hq32 : qn ≤ 32 := by rw [← hqn]; have h1 := h.q.ok.room; have h2 := h.q.ok.fits; omega
  obtain ⟨a0, a1', a2'⟩ := cells_3 hA
  obtain ⟨b0, b1, b2, b3, b4⟩ := cells_5 hBx
  obtain ⟨r0, r1, r2⟩ := cells_3 hC
  have fr := free_of hC
  clear h h1 h2 hs ht hP hA hBx hC hbel hsz hSit hW hn1 hn2 hqn hK
  have d1 : (kind == 1) = false := by simpa using k1
  have d2 : (kind == 2) = false := by simpa using k2
  have d3 : (kind == 3) = false := by simpa using k3
  have d4 : (kind == 4) = false := by simpa using k4
  have d5 : (kind == 5) = false := by simpa using k5
  clear k1 k2 k3 k4 k5
  go_enter Try.func25, Try.ntmps25
  go_upto_region 1 with fail
  rw [HW.out]
  clear hg
  go_wp2_with fail
  refine bodyPost_ret (results_cell_tmp rfl _ _ (g + 1 + 1) 67 _ (0, 0) _ _ rfl rfl (fill_3 HC.out) Try.underlying67 rfl (by kernel_rfl)) rfl ?_
  have hc := chg_put3 W (g + 1 + 1) (.int .i64 Q.room) (.int .i64 Q.last) (.slice va qn vc)
  refine ⟨_, Q.first, .slice va qn vc, tv, pv, sv, nv, L, M, rfl, HS.out.other hc (fun j _ e => ?_), fun j hj => hj.1, ?_, fun j hj => .inl (by rw [← HK.out]; exact hj)⟩
  · have e : j = g + 1 + 1 := e
    have h1 := HBL.out
    exact ⟨fun hh => hh.2 e, by omega, fun hh => by have := HKL.out j (by rw [← HK.out]; exact hh); omega⟩
  · exact chg_ext (Chg.of_below HBW.out _) hc (fun j e => by have e : j = g + 1 + 1 := e; have := HG.out; exact .inr (by omega))
end Go.Proofs.Ytlidkieljiebiaa
