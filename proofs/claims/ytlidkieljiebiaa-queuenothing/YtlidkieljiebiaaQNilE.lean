/-
  heraldlaw10: plays at a nil queue.
-/
import Derived.Test.YtlidkieljiebiaaQNilL
import Derived.Test.YtlidkieljiebiaaQPlayE
import Derived.Test.YtlidkieljiebiaaQTwoN
import Derived.Deep.Cut
import Derived.Deep.CutRange
import Derived.Deep.CutBlock
import Derived.Deep.RegionHeld3
namespace Go.Proofs.Ytlidkieljiebiaa
open Go.RowKit
set_option linter.unusedVariables false
set_option linter.unusedSimpArgs false

theorem chg_put3D {W w1 : World} {g : Nat} {a b c : Value} {T : Nat → Prop} (h : Chg W w1 T) (hT : T g) : Chg W (put_3 w1 g a b c) T := h.trans ((chg_put3 w1 g a b c).mono fun j _ e => by have e : j = g := e; rw [e]; exact hT)
theorem tell_chg1 {W w6 w7 : World} {g : Nat} {a b c : Value} (h6 : Below (put_3 W.drew g a b c).heap.size (put_3 W.drew g a b c) w6) (h7 : Below w6.heap.size w6 w7) : Chg W w7 (fun j => j = g) :=
  ((chg_put3D (T := fun j => j = g) (Chg.of_below (below_drew (Below.refl _ _)) _) rfl).trans (Chg.of_below h6 _)).trans (Chg.of_below h7 _)
theorem tell_chg2 {W w6 w7 : World} {g : Nat} {a b c : Value} (h6 : Below W.drew.heap.size W.drew w6) (h7 : Below (put_3 w6 g a b c).heap.size (put_3 w6 g a b c) w7) : Chg W w7 (fun j => j = g) :=
  (chg_put3D (T := fun j => j = g) (Chg.of_below (of_drew h6) _) rfl).trans (Chg.of_below h7 _)
theorem tell_chg3 {W w6 w7 : World} {g : Nat} {a b c : Value} (h6 : Below W.drew.heap.size W.drew w6) (h7 : Below w6.heap.size w6 w7) : Chg W (put_3 w7 g a b c) (fun j => j = g) :=
  chg_put3D (T := fun j => j = g) ((Chg.of_below (of_drew h6) _).trans (Chg.of_below h7 _)) rfl
set_option maxHeartbeats 6400000 in
set_option maxRecDepth 100000 in
theorem plays_tell_nil (B D : Nat) (Q : QuT) (kind on st : Int) (cs : List TgT) (ps : List PaT) (v tv pv sv nv : Value) (L M : List Value) (u1 u2 : Value) (w : World) (S P : Nat → Prop) (HQ0 : Hid (Q.room = 0 ∧ Q.last = 0 ∧ Q.l = [])) (h : Sit w S B D Q v tv pv sv nv L M) (h1 : TgsAt w P u1 cs) (h2 : PasAt w P u2 ps) (hs : (⟨kind, on, st, cs, ps⟩ : StT).Small) (ht : (⟨kind, on, st, cs, ps⟩ : StT).Tight) (hP : ∀ j, P j → ¬ DeskK D tv pv sv nv L M j ∧ j ≠ B) (k5 : kind = 5) :
    Calls Try.prog 25 #[.pointer none, rqV Q.room Q.last v, .agg #[.int .i64 kind, .int .i64 on, .int .i64 st, u1, u2], .pointer (some ⟨D, 0, none⟩)] w fun e w' => PlE w S B D (DeskK D tv pv sv nv L M) Q.room Q.last Q.l e w' := by
  obtain ⟨va, vc, rfl, _⟩ := RowAt.form h.ref
  obtain ⟨a1, c1, rfl, _⟩ := RowAt.form h1
  obtain ⟨a2, c2, rfl, _⟩ := RowAt.form h2
  obtain ⟨n1, hn1⟩ : ∃ z, cs.length = z := ⟨_, rfl⟩
  obtain ⟨n2, hn2⟩ : ∃ z, ps.length = z := ⟨_, rfl⟩
  obtain ⟨qn, hqn⟩ : ∃ z, Q.l.length = z := ⟨_, rfl⟩
  rw [hn1] at h1 ⊢
  rw [hn2] at h2 ⊢
  rw [hqn] at h ⊢
  obtain ⟨K, hK⟩ : ∃ K, DeskK D tv pv sv nv L M = K := ⟨_, rfl⟩
  have HK : Hid (DeskK D tv pv sv nv L M = K) := hK
  rw [hK] at hP ⊢
  have hbx := boxes3 (w := w) (a := #[.int .i64 Q.room, .int .i64 Q.last, .slice va qn vc]) (b := #[.int .i64 kind, .int .i64 on, .int .i64 st, .slice a1 n1 c1, .slice a2 n2 c2]) (c := #[.int .i64 0, .int .i64 0, .slice none 0 0]) (t := 67) (u := 33)
  obtain ⟨W, hW⟩ : ∃ W, ((w.alloc (.cells #[.int .i64 Q.room, .int .i64 Q.last, .slice va qn vc] 67)).alloc (.cells #[.int .i64 kind, .int .i64 on, .int .i64 st, .slice a1 n1 c1, .slice a2 n2 c2] 33)).alloc (.cells #[.int .i64 0, .int .i64 0, .slice none 0 0] 67) = W := ⟨_, rfl⟩
  simp only [hW] at hbx
  obtain ⟨⟨hA, hBx, hC⟩, hbel, hsz⟩ := hbx
  obtain ⟨g, hg⟩ : ∃ g, w.heap.size = g := ⟨_, rfl⟩
  rw [hg] at hA hBx hC hsz
  have hSit : Sit W (fun j => S j ∧ ¬ j = g + 1 + 1) B D Q (.slice va qn vc) tv pv sv nv L M := h.begin hbel (fun j hj => by omega)
  have HA : Hid _ := hA
  have HBX : Hid _ := hBx
  have HC : Hid _ := hC
  have HBW : Hid (Below w.heap.size w W) := hbel
  have HG : Hid (w.heap.size = g ∧ W.heap.size = g + 1 + 1 + 1) := ⟨hg, hsz⟩
  have HS : Hid (Sit W (fun j => S j ∧ ¬ j = g + 1 + 1) B D Q (.slice va qn vc) tv pv sv nv L M) := hSit
  have HW : Hid (((w.alloc (.cells #[.int .i64 Q.room, .int .i64 Q.last, .slice va qn vc] 67)).alloc (.cells #[.int .i64 kind, .int .i64 on, .int .i64 st, .slice a1 n1 c1, .slice a2 n2 c2] 33)).alloc (.cells #[.int .i64 0, .int .i64 0, .slice none 0 0] 67) = W) := hW
  have HN : Hid (cs.length = n1 ∧ ps.length = n2 ∧ Q.l.length = qn) := ⟨hn1, hn2, hqn⟩
  have HT1 : Hid (TgsAt W P (.slice a1 n1 c1) cs) := TgsAt.keep h1 (Kp.of_below hbel _)
  have HT2 : Hid (PasAt W P (.slice a2 n2 c2) ps) := PasAt.keep h2 (Kp.of_below hbel _)
  have HSM : Hid (⟨kind, on, st, cs, ps⟩ : StT).Small := hs
  have HTI : Hid (⟨kind, on, st, cs, ps⟩ : StT).Tight := ht
  have HP : Hid (∀ j, P j → ¬ K j ∧ j ≠ B) := hP
  have HKL : Hid (∀ j, K j → j < g) := fun j hj => by rw [← hg]; exact h.desk.lt j (by rw [hK]; exact hj)
  have HBL : Hid (B < g) := by rw [← hg]; exact h.q.lt
  have hq32 : qn ≤ 32 := by rw [← hqn]; have h1 := h.q.ok.room; have h2 := h.q.ok.fits; omega
  obtain ⟨a0, a1', a2'⟩ := cells_3 hA
  obtain ⟨b0, b1, b2, b3, b4⟩ := cells_5 hBx
  obtain ⟨r0, r1, r2⟩ := cells_3 hC
  have fr := free_of hC
  clear h h1 h2 hs ht hP hA hBx hC hbel hsz hSit hW hn1 hn2 hqn hK
  subst k5
  have HEL : Hid (∀ args w, (callFunc 20 args).run Try.prog w = .ok (.enter 20 args) w) := enters_of Try.func20 (by kernel_rfl) rfl
  have HEA : Hid (∀ args w, (callFunc 13 args).run Try.prog w = .ok (.enter 13 args) w) := enters_of Try.func13 (by kernel_rfl) rfl
  have HLN : Hid (∀ w', Calls Try.prog 20 #[.pointer none] w' fun e w'' => e = .returned (.int .i64 qn) ∧ Below w'.heap.size w' w'') := fun w' => (len_none w').mono fun e w'' hh => ⟨by rw [hh.1, ← HN.out.2.2, HQ0.out.2.2]; rfl, hh.2⟩
  have HLA : Hid (∀ w', Calls Try.prog 13 #[.pointer none] w' fun e w'' => e = .returned (.int .i64 Q.last) ∧ Below w'.heap.size w' w'') := fun w' => (last_none w').mono fun e w'' hh => ⟨by rw [hh.1, HQ0.out.2.1]; rfl, hh.2⟩
  have hg1 : ∀ (w : World) i v o, (w.setCell ⟨g + 1 + 1, i, none⟩ v).cell? ⟨g, o, none⟩ = w.cell? ⟨g, o, none⟩ := fun w i v o => cellN (by omega)
  have HKEY : Hid (∀ w', Chg W w' (fun j => j = g + 1 + 1) → PlE w S B D K Q.room Q.last Q.l (.returned (.tuple #[rqV Q.room Q.last (.slice va qn vc), .bool true])) w') := fun w' hcw => ⟨_, Q.first, .slice va qn vc, tv, pv, sv, nv, L, M, rfl, HS.out.other hcw (fun j _ e => by
      have e : j = g + 1 + 1 := e
      have h1 := HBL.out
      exact ⟨fun hh => hh.2 e, by omega, fun hh => by have := HKL.out j (by rw [← HK.out]; exact hh); omega⟩), fun j hj => hj.1, chg_ext (Chg.of_below HBW.out _) hcw (fun j e => by have e : j = g + 1 + 1 := e; have := HG.out; exact .inr (by omega)), fun j hj => .inl (by rw [← HK.out]; exact hj)⟩
  have HSW : Hid (∀ w', Old W (fun j => j = g + 1 + 1) w' → w'.cell? ⟨g, 0, none⟩ = some (.int .i64 Q.room) ∧ w'.cell? ⟨g, 1, none⟩ = some (.int .i64 Q.last) ∧ w'.cell? ⟨g, 2, none⟩ = some (.slice va qn vc)) := fun w' ho => ⟨ho.cell (lt_of_blk HA.out) (by omega) a0, ho.cell (lt_of_blk HA.out) (by omega) a1', ho.cell (lt_of_blk HA.out) (by omega) a2'⟩
  go_enter Try.func25, Try.ntmps25
  go_upto_region 1 with fail
  rw [HW.out]
  clear hg
  go_wp2_with fail
  go_region_held3 (fun w' => w'.cell? ⟨g, 0, none⟩ = some (.int .i64 Q.room) ∧ w'.cell? ⟨g, 1, none⟩ = some (.int .i64 Q.last) ∧ w'.cell? ⟨g, 2, none⟩ = some (.slice va qn vc))
    (first
    | (refine HSW.out _ ?_; repeat (first | exact HO7.out | exact HO6.out | exact Old.refl _ _ | refine Old.drew ?_ | refine Old.setT ?_ rfl))
    | go_keep)
    (first
    | (go_at_call 20; refine (HLN.out _).mono ?_; rintro e w6 ⟨rfl, hb6⟩
       have HP6 : Hid _ := hb6
       have HO6 : Hid (Old W (fun j => j = g + 1 + 1) w6) := Old.below (by repeat (first | exact Old.refl _ _ | refine Old.drew ?_ | refine Old.setT ?_ rfl)) hb6
       first
       | (have HR6 : Hid (w6.heap[g + 1 + 1]? = some (.cells #[.int .i64 0, .int .i64 0, .slice none 0 0] 67 (0, 0))) := kept_block hb6 HC.out
          clear hb6 r0 r1 r2 fr
          obtain ⟨r0, r1, r2⟩ := cells_3 HR6.out
          have fr := free_of HR6.out)
       | (have HR6 : Hid (w6.heap[g + 1 + 1]? = some (.cells #[.int .i64 Q.room, .int .i64 Q.last, .slice va qn vc] 67 (0, 0))) := kept_block hb6 (fill_3 HC.out)
          clear hb6 r0 r1 r2 fr
          obtain ⟨r0, r1, r2⟩ := cells_3 HR6.out
          have fr := free_of HR6.out))
    | (go_at_call 13; refine (HLA.out _).mono ?_; rintro e w7 ⟨rfl, hb7⟩
       have HP7 : Hid _ := hb7
       have HO7 : Hid (Old W (fun j => j = g + 1 + 1) w7) := Old.below (by repeat (first | exact HO6.out | exact Old.refl _ _ | refine Old.drew ?_ | refine Old.setT ?_ rfl)) hb7
       first
       | (have HR7 : Hid (w7.heap[g + 1 + 1]? = some (.cells #[.int .i64 0, .int .i64 0, .slice none 0 0] 67 (0, 0))) := kept_block hb7 HR6.out
          clear hb7 r0 r1 r2 fr
          obtain ⟨r0, r1, r2⟩ := cells_3 HR7.out
          have fr := free_of HR7.out)
       | (have HR7 : Hid (w7.heap[g + 1 + 1]? = some (.cells #[.int .i64 Q.room, .int .i64 Q.last, .slice va qn vc] 67 (0, 0))) := kept_block hb7 HR6.out
          clear hb7 r0 r1 r2 fr
          obtain ⟨r0, r1, r2⟩ := cells_3 HR7.out
          have fr := free_of HR7.out)
       | (have HR7 : Hid (w7.heap[g + 1 + 1]? = some (.cells #[.int .i64 Q.room, .int .i64 Q.last, .slice va qn vc] 67 (0, 0))) := kept_block hb7 (fill_3 HR6.out)
          clear hb7 r0 r1 r2 fr
          obtain ⟨r0, r1, r2⟩ := cells_3 HR7.out
          have fr := free_of HR7.out))
    | fail)
  all_goals go_wp2_with fail
  all_goals (
    refine bodyPost_ret (results_cell_tmp rfl _ _ (g + 1 + 1) 67 _ (0, 0) _ _ rfl rfl (by first | exact HR7.out | exact fill_3 HR7.out) Try.underlying67 rfl (by kernel_rfl)) rfl ?_
    exact HKEY.out _ (by first | exact tell_chg1 HP6.out HP7.out | exact tell_chg2 HP6.out HP7.out | exact tell_chg3 HP6.out HP7.out))
end Go.Proofs.Ytlidkieljiebiaa
