import Derived.Test.YtlidkieljiebiaaQSit
import Derived.Deep.Cut
import Derived.Deep.CutRange
import Derived.Deep.CutBlock
import Derived.Deep.RegionHeld3
namespace Go.Proofs.Ytlidkieljiebiaa
open Go.RowKit
set_option linter.unusedVariables false

theorem step_oneG {P : Program} {ops : Array Oper} {o : Oper} {a : Act} {w : World} {K : Act → World → Prop} {Q : Exit → Act → World → Prop} {E : Prop} (hw : Region.wanted o (yielded ops a.tmps) = true) (f : FuncId) (x : Operand) (ts : Array TypeId)
    (ho : o.op = .call { callee := .value (.func f), args := #[x], argTypes := ts }) (ef : ∀ args w, (callFunc f args).run P w = .ok (.enter f args) w) (u : Value) (hx : a.eval x = u) {R : Ending → World → Prop} (hc : Calls P f #[u] w R)
    (h : ∀ e w', R e w' → ∃ r, e = .returned r ∧ K (a.put o.dst r) w') :
    if Region.wanted o (yielded ops a.tmps) = true then Oper.wp P o a w K Q else E := by
  rw [if_pos hw]
  have he : (execOp a.eval o).run P w = .ok (.enter f #[u]) w := by
    have hf : a.eval (.func f) = .func (.func f) #[] #[] := rfl
    simp [execOp, ho, resolve, invoke, Deferred.ofValue, hx, hf, ef]
  unfold Oper.wp
  rw [he, Oper.upon_enter]
  refine hc.mono ?_
  intro e w' hR
  obtain ⟨r, rfl, hk⟩ := h e w' hR
  exact hk
end Go.Proofs.Ytlidkieljiebiaa
namespace Go.Proofs.Ytlidkieljiebiaa
open Go.RowKit
set_option linter.unusedVariables false
set_option linter.unusedSimpArgs false

/-- The queue itself is written. -/
theorem Sit.queue {w w1 : World} {S : Nat → Prop} {B D : Nat} {Q Q' : QuT} {v v' tv pv sv nv : Value} {L M : List Value} (h : Sit w S B D Q v tv pv sv nv L M) (hq : QueueAt w1 S B 0 Q') (hc : Chg w w1 (fun j => j = B)) (hr : ItsAt w1 S v' Q'.l) (hs : Snd Q'.last Q'.l) : Sit w1 S B D Q' v' tv pv sv nv L M :=
  ⟨hq, hr, h.desk.chg hc (fun j hj e => (h.out j hj).2 e), fun j hj => h.hi j (Nat.le_trans hc.size hj), h.out, hs⟩
theorem its_queue {w w1 : World} {S : Nat → Prop} {B : Nat} {v : Value} {l : List ItT} (h : ItsAt w S v l) (hB : ¬ S B) (hc : Chg w w1 (fun j => j = B)) : ItsAt w1 S v l :=
  ItsAt.keep h (Kp.of_chg hc (fun j _ hS e => hB (by have e : j = B := e; rw [← e]; exact hS)))
theorem blk_queue {w w1 : World} {B g : Nat} {cs : Array Value} {t : TypeId} (h : w.heap[g]? = some (.cells cs t (0, 0))) (hB : B < g) (hc : Chg w w1 (fun j => j = B)) : w1.heap[g]? = some (.cells cs t (0, 0)) := by
  rw [hc.block g (lt_of_blk h) (fun e => by have e : g = B := e; omega)]
  exact h
set_option maxHeartbeats 6400000 in
set_option maxRecDepth 100000 in
theorem plays_tell (B D : Nat) (Q : QuT) (kind on st : Int) (cs : List TgT) (ps : List PaT) (v tv pv sv nv : Value) (L M : List Value) (u1 u2 : Value) (w : World) (S P : Nat → Prop) (h : Sit w S B D Q v tv pv sv nv L M) (h1 : TgsAt w P u1 cs) (h2 : PasAt w P u2 ps) (hs : (⟨kind, on, st, cs, ps⟩ : StT).Small) (ht : (⟨kind, on, st, cs, ps⟩ : StT).Tight) (hP : ∀ j, P j → ¬ DeskK D tv pv sv nv L M j ∧ j ≠ B) (k5 : kind = 5) :
    Calls Try.prog 25 #[.pointer (some ⟨B, 0, none⟩), rqV Q.room Q.last v, .agg #[.int .i64 kind, .int .i64 on, .int .i64 st, u1, u2], .pointer (some ⟨D, 0, none⟩)] w fun e w' => PlE w S B D (DeskK D tv pv sv nv L M) Q.room Q.last Q.l e w' := by
  obtain ⟨va, vc, rfl, _⟩ := RowAt.form h.ref
  obtain ⟨a1, c1, rfl, _⟩ := RowAt.form h1
  obtain ⟨a2, c2, rfl, _⟩ := RowAt.form h2
  obtain ⟨n1, hn1⟩ : ∃ z, cs.length = z := ⟨_, rfl⟩
  obtain ⟨n2, hn2⟩ : ∃ z, ps.length = z := ⟨_, rfl⟩
  obtain ⟨qn, hqn⟩ : ∃ z, Q.l.length = z := ⟨_, rfl⟩
  rw [hn1] at h1 ⊢
  rw [hn2] at h2 ⊢
  rw [hqn] at h ⊢
  obtain ⟨K, hK⟩ : ∃ K, DeskK D tv pv sv nv L M = K := ⟨_, rfl⟩
  have HK : Hid (DeskK D tv pv sv nv L M = K) := hK
  rw [hK] at hP ⊢
  have hbx := boxes3 (w := w) (a := #[.int .i64 Q.room, .int .i64 Q.last, .slice va qn vc]) (b := #[.int .i64 kind, .int .i64 on, .int .i64 st, .slice a1 n1 c1, .slice a2 n2 c2]) (c := #[.int .i64 0, .int .i64 0, .slice none 0 0]) (t := 67) (u := 33)
  obtain ⟨W, hW⟩ : ∃ W, ((w.alloc (.cells #[.int .i64 Q.room, .int .i64 Q.last, .slice va qn vc] 67)).alloc (.cells #[.int .i64 kind, .int .i64 on, .int .i64 st, .slice a1 n1 c1, .slice a2 n2 c2] 33)).alloc (.cells #[.int .i64 0, .int .i64 0, .slice none 0 0] 67) = W := ⟨_, rfl⟩
  simp only [hW] at hbx
  obtain ⟨⟨hA, hBx, hC⟩, hbel, hsz⟩ := hbx
  obtain ⟨g, hg⟩ : ∃ g, w.heap.size = g := ⟨_, rfl⟩
  rw [hg] at hA hBx hC hsz
  have hSit : Sit W (fun j => S j ∧ ¬ j = g + 1 + 1) B D Q (.slice va qn vc) tv pv sv nv L M := h.begin hbel (fun j hj => by omega)
  have HA : Hid _ := hA
  have HBX : Hid _ := hBx
  have HC : Hid _ := hC
  have HBW : Hid (Below w.heap.size w W) := hbel
  have HG : Hid (w.heap.size = g ∧ W.heap.size = g + 1 + 1 + 1) := ⟨hg, hsz⟩
  have HS : Hid (Sit W (fun j => S j ∧ ¬ j = g + 1 + 1) B D Q (.slice va qn vc) tv pv sv nv L M) := hSit
  have HW : Hid (((w.alloc (.cells #[.int .i64 Q.room, .int .i64 Q.last, .slice va qn vc] 67)).alloc (.cells #[.int .i64 kind, .int .i64 on, .int .i64 st, .slice a1 n1 c1, .slice a2 n2 c2] 33)).alloc (.cells #[.int .i64 0, .int .i64 0, .slice none 0 0] 67) = W) := hW
  have HN : Hid (cs.length = n1 ∧ ps.length = n2 ∧ Q.l.length = qn) := ⟨hn1, hn2, hqn⟩
  have HT1 : Hid (TgsAt W P (.slice a1 n1 c1) cs) := TgsAt.keep h1 (Kp.of_below hbel _)
  have HT2 : Hid (PasAt W P (.slice a2 n2 c2) ps) := PasAt.keep h2 (Kp.of_below hbel _)
  have HSM : Hid (⟨kind, on, st, cs, ps⟩ : StT).Small := hs
  have HTI : Hid (⟨kind, on, st, cs, ps⟩ : StT).Tight := ht
  have HP : Hid (∀ j, P j → ¬ K j ∧ j ≠ B) := hP
  have HKL : Hid (∀ j, K j → j < g) := fun j hj => by rw [← hg]; exact h.desk.lt j (by rw [hK]; exact hj)
  have HBL : Hid (B < g) := by rw [← hg]; exact h.q.lt
  have hq32 : qn ≤ 32 := by rw [← hqn]; have h1 := h.q.ok.room; have h2 := h.q.ok.fits; omega
  obtain ⟨a0, a1', a2'⟩ := cells_3 hA
  obtain ⟨b0, b1, b2, b3, b4⟩ := cells_5 hBx
  obtain ⟨r0, r1, r2⟩ := cells_3 hC
  have fr := free_of hC
  clear h h1 h2 hs ht hP hA hBx hC hbel hsz hSit hW hn1 hn2 hqn hK
  subst k5
  have HEL : Hid (∀ args w, (callFunc 20 args).run Try.prog w = .ok (.enter 20 args) w) := enters_of Try.func20 (by kernel_rfl) rfl
  have HEA : Hid (∀ args w, (callFunc 13 args).run Try.prog w = .ok (.enter 13 args) w) := enters_of Try.func13 (by kernel_rfl) rfl
  have hcP := chg_put3 W.drew (g + 1 + 1) (.int .i64 Q.room) (.int .i64 Q.last) (.slice va qn vc)
  have HSP : Hid (Sit (put_3 W.drew (g + 1 + 1) (.int .i64 Q.room) (.int .i64 Q.last) (.slice va qn vc)) (fun j => S j ∧ ¬ j = g + 1 + 1) B D Q (.slice va qn vc) tv pv sv nv L M) := (HS.out.below (below_drew (Below.refl _ _))).other hcP (fun j _ e => by
    have e : j = g + 1 + 1 := e
    have h1 := HBL.out
    exact ⟨fun hh => hh.2 e, by omega, fun hh => by have := HKL.out j (by rw [← HK.out]; exact hh); omega⟩)
  have HCP : Hid (Chg w (put_3 W.drew (g + 1 + 1) (.int .i64 Q.room) (.int .i64 Q.last) (.slice va qn vc)) (fun j => j = B ∨ K j)) := chg_ext (Chg.of_below (below_drew HBW.out) _) hcP (fun j e => by have e : j = g + 1 + 1 := e; have := HG.out; exact .inr (by omega))
  have hg1 : ∀ (w : World) i v o, (w.setCell ⟨g + 1 + 1, i, none⟩ v).cell? ⟨g, o, none⟩ = w.cell? ⟨g, o, none⟩ := fun w i v o => cellN (by omega)
  have HQW : Hid (QueueAt W.drew (fun j => S j ∧ ¬ j = g + 1 + 1) B 0 Q) := HS.out.q.below (below_drew (Below.refl _ _))
  clear hcP
  have HLN : Hid (∀ w', QueueAt w' (fun j => S j ∧ ¬ j = g + 1 + 1) B 0 Q → Calls Try.prog 20 #[.pointer (some ⟨B, 0, none⟩)] w' fun e w'' => e = .returned (.int .i64 qn) ∧ w'' = w') := fun w' h => (len_some B Q w' _ h).mono fun e w'' hh => ⟨by rw [hh.1, HN.out.2.2], hh.2⟩
  have HLA : Hid (∀ w', QueueAt w' (fun j => S j ∧ ¬ j = g + 1 + 1) B 0 Q → Calls Try.prog 13 #[.pointer (some ⟨B, 0, none⟩)] w' fun e w'' => e = .returned (.int .i64 Q.last) ∧ w'' = w') := fun w' h => last_some B Q w' _ h
  go_enter Try.func25, Try.ntmps25
  go_upto_region 1 with fail
  rw [HW.out]
  clear hg
  go_wp2_with fail
  go_region_held3 (fun w' => w'.cell? ⟨g, 0, none⟩ = some (.int .i64 Q.room) ∧ w'.cell? ⟨g, 1, none⟩ = some (.int .i64 Q.last) ∧ w'.cell? ⟨g, 2, none⟩ = some (.slice va qn vc)) (first | exact ⟨a0, a1', a2'⟩ | go_keep)
    (first
    | (go_at_call 20; refine (HLN.out _ (by first | exact HQW.out | exact HSP.out.q)).mono ?_; rintro e w6 ⟨rfl, rfl⟩)
    | (go_at_call 13; refine (HLA.out _ (by first | exact HQW.out | exact HSP.out.q)).mono ?_; rintro e w7 ⟨rfl, rfl⟩)
    | fail)
  go_wp2_with fail
  refine bodyPost_ret (results_cell_tmp rfl _ _ (g + 1 + 1) 67 _ (0, 0) _ _ rfl rfl (fill_3 HC.out) Try.underlying67 rfl (by kernel_rfl)) rfl ?_
  exact ⟨_, Q.first, .slice va qn vc, tv, pv, sv, nv, L, M, rfl, HSP.out, fun j hj => hj.1, HCP.out, fun j hj => .inl (by rw [← HK.out]; exact hj)⟩
end Go.Proofs.Ytlidkieljiebiaa
