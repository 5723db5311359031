/-
  queue: Next.
-/
import Derived.Test.YtjcnigffpamcgaaGreatDoorQTook
namespace Go.Proofs.YtjcnigffpamcgaaGreatDoor
open Go.RowKit Go.MuLone
set_option linter.unusedVariables false
set_option linter.unusedSimpArgs false

abbrev ItsAt (w : World) (S : Nat → Prop) (v : Value) (l : List ItT) : Prop := RowAt w S 5 (fun b o t => ∃ u1 u2, itE w S b o t u1 u2) v l
theorem Tryz.info_it : (Tryz.prog.info? 130).map (fun i => (i.zero, i.size, i.bytes)) = some (some (.agg #[.int .i64 0, .int .i64 0, .bool false, .slice none 0 0, .slice none 0 0]), 5, 72) := by kernel_rfl
def nextN (l : List ItT) (most : Int) : Nat := (min most (l.length : Int)).toNat
set_option maxHeartbeats 6400000 in
set_option maxRecDepth 100000 in
theorem next_some (b : Nat) (Q : QuT) (most : Int) (w : World) (S : Nat → Prop) (h : QueueAt w S b 0 Q) :
    Calls Tryz.prog 71 #[.pointer (some ⟨b, 0, none⟩), .int .i64 most] w fun e w' => ∃ v, e = .returned v ∧ ItsAt w' (NewIn w) v (Q.l.take (nextN Q.l most)) ∧ QueueAt w' S b 0 Q ∧ Chg w w' (fun j => j = b) := by
  have HQ : Hid (QueueAt w S b 0 Q) := h
  obtain ⟨W, hW⟩ : ∃ W, w.setCell ⟨b, 0, none⟩ (.int .i32 1) = W := ⟨_, rfl⟩
  have HL : Hid (QueueAt W S b 1 Q) := by show QueueAt _ _ _ _ _; rw [← hW]; exact (qset_lock h 1).1
  have HC : Hid (Chg w W (fun j => j = b)) := by show Chg _ _ _; rw [← hW]; exact (qset_lock h 1).2
  obtain ⟨n, hn⟩ : ∃ n, Q.l.length = n := ⟨_, rfl⟩
  have HN : Hid (Q.l.length = n) := hn
  have hn32 : n ≤ 32 := by have h1 := h.ok.room; have h2 := h.ok.fits; omega
  have c164 : W.cell? ⟨b, 164, none⟩ = some (.int .i64 n) := by have := HL.out.count; rw [hn] at this; exact this
  have HWS : Hid (W.heap.size = w.heap.size) := by show _ = _; rw [← hW]; simp
  obtain ⟨z, hz⟩ : ∃ z : Int, min most (n : Int) = z := ⟨_, rfl⟩
  have hzn : z ≤ n := by rw [← hz]; exact Int.min_le_right _ _
  by_cases hpos : 0 < z
  case neg =>
    have HK : Hid (Q.l.take (nextN Q.l most) = []) := by
      show _ = _
      have : nextN Q.l most = 0 := by unfold nextN; rw [hn, hz]; omega
      rw [this]
      rfl
    clear h hn
    go_enter_defers Tryz.func71, Tryz.ntmps71
    go_wp2_with (first
      | (go_at_call 132; refine (orZero_some b _).mono ?_; rintro e w1 ⟨rfl, hw1⟩; subst hw1)
      | (go_at_call 65; refine (lock_free Tryz.muLib ⟨b, 0, none⟩ _ HQ.out.lock (HQ.out.free 0)).mono ?_; rintro e w2 ⟨rfl, hw2⟩; rw [hW] at hw2; subst hw2))
    go_loopw [29] (fun i wr => i = .int .i64 0 ∧ wr = w2) (fun _ _ => 0)
    case atStart => exact ⟨rfl, rfl⟩
    case round =>
      obtain ⟨rfl, hwr⟩ := hrel
      subst hwr
      go_wp2_with fail
      refine leaves_cons (f := 66) (args := #[.pointer (some ⟨b, 0, none⟩)]) (by simp) (by simp [go_sem]) ?_
      refine (unlock_deferred Tryz.muLib ⟨b, 0, none⟩ .returning _ HL.out.lock (HL.out.free 0)).mono ?_
      rintro e u' w'' ⟨rfl, rfl, rfl⟩
      obtain ⟨hq6, hc6⟩ := qset_lock HL.out 0
      exact ⟨_, results_tmp rfl _ _ _, _, rfl, by rw [HK.out]; exact RowAt.nil _ _ _ _, hq6, HC.out.trans hc6⟩
  obtain ⟨k, rfl⟩ : ∃ k : Nat, z = k := ⟨z.toNat, by omega⟩
  have hk0 : 0 < k := by omega
  have hkn : k ≤ n := by omega
  have HK : Hid (nextN Q.l most = k) := by show _ = _; unfold nextN; rw [hn, hz]; rfl
  obtain ⟨M, hM, hmk⟩ := make_any Tryz.underlying71 Tryz.info_it k (by unfold MaxRow; omega) (by unfold MaxRow; omega)
  have HM : Hid (M.size = k * 5) := hM
  clear h hn hM
  go_enter_defers Tryz.func71, Tryz.ntmps71
  go_wp2_with (first
    | (go_at_call 132; refine (orZero_some b _).mono ?_; rintro e w1 ⟨rfl, hw1⟩; subst hw1)
    | (go_at_call 65; refine (lock_free Tryz.muLib ⟨b, 0, none⟩ _ HQ.out.lock (HQ.out.free 0)).mono ?_; rintro e w2 ⟨rfl, hw2⟩; rw [hW] at hw2; subst hw2))
  have HG1 : Hid ((w2.alloc (.cells M 130)).heap[w2.heap.size]? = some (.cells M 130 (0, 0))) := heap_alloc_new _ _
  have HSb : Hid (¬ S b) := HL.out.out
  have HL2 : Hid (QueueAt w2 (fun j => S j ∧ j < w2.heap.size) b 1 Q) := HL.out.mono (fun j hj hs => ⟨hs, hj⟩) (fun h => HSb.out h.1)
  have HQ1 : Hid (QueueAt (w2.alloc (.cells M 130)) (fun j => S j ∧ j < w2.heap.size) b 1 Q) := HL2.out.below ((Below.refl _ _).alloc (Nat.le_refl _) _)
  have HC1 : Hid (Chg w1 (w2.alloc (.cells M 130)) (fun j => j = b)) := HC.out.trans (Chg.alloc _ _ _)
  have hblt : b < w2.heap.size := HL.out.lt
  clear hmk
  go_loopw [29] (fun i wr => ∃ q : Nat, i = .int .i64 q ∧ q ≤ k ∧ (∃ arr : Array Value, Hid (wr.heap[w2.heap.size]? = some (.cells arr 130 (0, 0))) ∧ Hid (arr.size = k * 5)) ∧ Hid (∀ i x, i < q → Q.l[i]? = some x → ∃ u1 u2, itE wr (fun j => w2.heap.size ≤ j ∧ j ≠ w2.heap.size) w2.heap.size (i * 5) x u1 u2) ∧ Hid (QueueAt wr (fun j => S j ∧ j < w2.heap.size) b 1 Q) ∧ Hid (Chg w1 wr (fun j => j = b))) (fun i _ => k - (intOf i).toNat)
  case atStart => exact ⟨0, rfl, Nat.zero_le _, ⟨M, HG1, HM⟩, fun i x hi => absurd hi (Nat.not_lt_zero _), HQ1, HC1⟩
  case round =>
    obtain ⟨q, rfl, hq, ⟨arr, HG, HA⟩, HE, HI, HCr⟩ := hrel
    by_cases hlt : q < k
    · have hqi : (q : Int) < (k : Int) := by omega
      obtain ⟨t, ht⟩ : ∃ t, Q.l[q]? = some t := ⟨Q.l[q]'(by rw [HN.out]; omega), List.getElem?_eq_getElem _⟩
      have h0 : 0 < Q.room := by have := HI.out.ok.fits; rw [HN.out] at this; omega
      have HAT : Hid _ := at_any b q 1 Q wr _ HI.out h0 (by omega)
      obtain ⟨u1, u2, hi⟩ := HI.out.items q t ht
      obtain ⟨o, ho⟩ : ∃ o, 2 + (Q.first + q) % Q.room * 5 = o := ⟨_, rfl⟩
      rw [ho] at HAT hi
      obtain ⟨xa, xc, rfl, _⟩ := _root_.id hi.cs
      obtain ⟨ya, yc, rfl, _⟩ := _root_.id hi.ps
      have HIT : Hid (itE wr (fun j => S j ∧ j < w2.heap.size) b o t (.slice xa t.cs.length xc) (.slice ya t.ps.length yc)) := hi
      have HSM : Hid t.Small := HI.out.ok.small t (List.mem_of_getElem? ht)
      clear hi ho
      go_wp2_with fail
      refine Calls.mono HAT.out ?_
      rintro e w4 ⟨rfl, j4, rfl⟩
      have H4 : Hid (itE (wr.drewN j4) (fun j => S j ∧ j < w2.heap.size) b o t (.slice xa t.cs.length xc) (.slice ya t.ps.length yc)) := HIT.out.keep (Kp.of_below (below_drewN (Below.refl _ _) _) _) (fun j v hj _ _ => hj)
      have c0 := H4.out.st
      have c1 := H4.out.af
      have c2 := H4.out.mark
      have c3 := H4.out.c1
      have c4 := H4.out.c2
      go_wp2_with fail
      refine Calls.mono (ownItem_any t (.slice xa t.cs.length xc) (.slice ya t.ps.length yc) (wr.drewN j4) _ H4.out.cs H4.out.ps HSM.out) ?_
      rintro e w5 ⟨v1, v2, rfl, hv1, hv2, hb5⟩
      obtain ⟨va, vc, rfl, _⟩ := _root_.id hv1
      obtain ⟨za, zc, rfl, _⟩ := _root_.id hv2
      have HB5 : Hid (Below wr.heap.size wr w5) := trans2 (below_drewN (Below.refl _ _) _) hb5
      have hg2 : w2.heap.size < wr.heap.size := lt_of_blk HG.out
      have HV1 : Hid (TgsAt w5 (fun j => w2.heap.size ≤ j ∧ j ≠ w2.heap.size) (.slice va t.cs.length vc) t.cs) := TgsAt.mono hv1 (fun j _ hj => by have h3 : wr.heap.size ≤ j := hj; exact ⟨by omega, by omega⟩)
      have HV2 : Hid (PasAt w5 (fun j => w2.heap.size ≤ j ∧ j ≠ w2.heap.size) (.slice za t.ps.length zc) t.ps) := PasAt.mono hv2 (fun j _ hj => by have h3 : wr.heap.size ≤ j := hj; exact ⟨by omega, by omega⟩)
      have HG5 : Hid (w5.heap[w2.heap.size]? = some (.cells arr 130 (0, 0))) := kept_block HB5.out HG.out
      have HI5 : Hid (QueueAt w5 (fun j => S j ∧ j < w2.heap.size) b 1 Q) := HI.out.below HB5.out
      have hsz : q * 5 + 5 ≤ arr.size := by rw [HA.out]; omega
      obtain ⟨y0, d0⟩ : ∃ y, w5.cell? ⟨w2.heap.size, q * 5, none⟩ = some y := ⟨arr[q * 5]'(by omega), by rw [cell_of HG5.out]; exact Array.getElem?_eq_getElem _⟩
      obtain ⟨y1, d1⟩ : ∃ y, w5.cell? ⟨w2.heap.size, q * 5 + 1, none⟩ = some y := ⟨arr[q * 5 + 1]'(by omega), by rw [cell_of HG5.out]; exact Array.getElem?_eq_getElem _⟩
      obtain ⟨y2, d2⟩ : ∃ y, w5.cell? ⟨w2.heap.size, q * 5 + 2, none⟩ = some y := ⟨arr[q * 5 + 2]'(by omega), by rw [cell_of HG5.out]; exact Array.getElem?_eq_getElem _⟩
      obtain ⟨y3, d3⟩ : ∃ y, w5.cell? ⟨w2.heap.size, q * 5 + 3, none⟩ = some y := ⟨arr[q * 5 + 3]'(by omega), by rw [cell_of HG5.out]; exact Array.getElem?_eq_getElem _⟩
      obtain ⟨y4, d4⟩ : ∃ y, w5.cell? ⟨w2.heap.size, q * 5 + 4, none⟩ = some y := ⟨arr[q * 5 + 4]'(by omega), by rw [cell_of HG5.out]; exact Array.getElem?_eq_getElem _⟩
      have f2 := free_of HG5.out
      clear hv1 hv2 hb5 c0 c1 c2 c3 c4
      dsimp only [itA]
      go_wp2_with fail
      go_roundw
      case rel =>
        obtain ⟨arr', hg', hs', e0, e1, e2, e3, e4, hoth⟩ := at_s5 (x0 := .int .i64 t.st) (x1 := .int .i64 t.af) (x2 := .bool t.mark) (x3 := .slice va t.cs.length vc) (x4 := .slice za t.ps.length zc) HG5.out hsz
        have HC' : Chg w5 _ (fun j => j = w2.heap.size) := chg_s5 w5 w2.heap.size (q * 5) (.int .i64 t.st) (.int .i64 t.af) (.bool t.mark) (.slice va t.cs.length vc) (.slice za t.ps.length zc)
        have hlow : Chg w1 w5 (fun j => j = b) := HCr.out.trans (Chg.of_below HB5.out _)
        refine ⟨q + 1, by go_num, by omega, ⟨arr', hg', by show _ = _; rw [hs', HA.out]⟩, ?_, HI5.out.keep (Kp.of_chg HC' (fun j _ hj e => ?_)), ?_⟩
        · intro i z hi hzi
          by_cases he : i = q
          · subst he
            rw [ht] at hzi
            cases hzi
            exact ⟨_, _, by rw [cell_of hg']; exact e0, by rw [cell_of hg']; exact e1, by rw [cell_of hg']; exact e2, by rw [cell_of hg']; exact e3, by rw [cell_of hg']; exact e4, TgsAt.keep HV1.out (Kp.of_chg HC' (fun j _ hj e => hj.2 e)), PasAt.keep HV2.out (Kp.of_chg HC' (fun j _ hj e => hj.2 e))⟩
          · obtain ⟨u0, u9, h0⟩ := HE.out i z (by omega) hzi
            refine ⟨u0, u9, (h0.keep (Kp.of_below HB5.out _) (fun j v hj _ _ => by rw [HB5.out.cell (p := ⟨w2.heap.size, j, none⟩) (lt_of_blk HG.out)]; exact hj)).keep (Kp.of_chg HC' (fun j _ hj e => hj.2 e)) (fun j v hj h1 h2 => ?_)⟩
            rw [cell_of HG5.out] at hj
            rw [cell_of hg', hoth j (by omega)]
            exact hj
        · have e : j = w2.heap.size := e
          rcases hj with hj | hj
          · have := hj.2
            omega
          · omega
        · refine Chg.mono (S := fun j => j = b ∨ j = w2.heap.size) ((hlow.mono (fun j _ e => .inl e)).trans (HC'.mono (fun j _ e => .inr e))) (fun j hj e => ?_)
          rcases e with e | e
          · exact e
          · have := HWS.out
            omega
      case measure => simp [intOf]; omega
    · obtain rfl : q = k := by omega
      have hge : ¬ (q : Int) < (q : Int) := by omega
      go_wp2_with fail
      refine leaves_cons (f := 66) (args := #[.pointer (some ⟨b, 0, none⟩)]) (by simp) (by simp [go_sem]) ?_
      refine (unlock_deferred Tryz.muLib ⟨b, 0, none⟩ .returning _ HI.out.lock (HI.out.free 0)).mono ?_
      rintro e u' w'' ⟨rfl, rfl, rfl⟩
      obtain ⟨hq6, hc6⟩ := qset_lock HI.out 0
      have hlen : (Q.l.take q).length = q := by rw [List.length_take, HN.out]; omega
      have hkq : Kp wr (wr.setCell ⟨b, 0, none⟩ (.int .i32 0)) (fun j => w2.heap.size ≤ j ∧ j ≠ w2.heap.size) := Kp.of_chg hc6 (fun j _ hj e => by have e : j = b := e; omega)
      refine ⟨_, results_tmp rfl _ _ _, .slice (some ⟨w2.heap.size, 0, none⟩) q q, rfl, ?_, hq6.mono (fun j _ hj => hj.1) HSb.out, HCr.out.trans hc6⟩
      rw [HK.out]
      refine ⟨some ⟨w2.heap.size, 0, none⟩, q, by rw [hlen], by rw [hlen]; exact Nat.le_refl _, (fun e => by cases e), .inr ⟨w2.heap.size, 0, rfl, by show w1.heap.size ≤ _; rw [HWS.out]; exact Nat.le_refl _, ?_, fun i x hi => ?_⟩⟩
      · have := lt_of_blk HG.out
        simpa using this
      · rw [List.getElem?_take] at hi
        split at hi
        · rename_i hiq
          obtain ⟨u0, u9, h0⟩ := HE.out i x hiq hi
          rw [Nat.zero_add]
          refine ⟨u0, u9, itE.mono (h0.keep hkq (fun j v hj _ _ => ?_)) (fun j _ hj => by show w1.heap.size ≤ j; rw [← HWS.out]; exact hj.1)⟩
          rw [cellN (by omega)]
          exact hj
        · cases hi
end Go.Proofs.YtjcnigffpamcgaaGreatDoor
