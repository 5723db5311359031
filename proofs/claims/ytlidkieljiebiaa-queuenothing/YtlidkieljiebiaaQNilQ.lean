/-
  heraldlaw10: plays at a nil queue.
-/
import Derived.Test.YtlidkieljiebiaaQNilL
import Derived.Test.YtlidkieljiebiaaQPlayQ
import Derived.Deep.Cut
import Derived.Deep.CutRange
import Derived.Deep.CutBlock
import Derived.Deep.RegionHeld3
namespace Go.Proofs.Ytlidkieljiebiaa
open Go.RowKit
set_option linter.unusedVariables false
set_option linter.unusedSimpArgs false

set_option maxHeartbeats 6400000 in
set_option maxRecDepth 100000 in
theorem plays_coll_nil (B D : Nat) (Q : QuT) (kind on st : Int) (cs : List TgT) (ps : List PaT) (v tv pv sv nv : Value) (L M : List Value) (u1 u2 : Value) (w : World) (S P : Nat → Prop) (HQ0 : Hid (Q.room = 0 ∧ Q.last = 0 ∧ Q.l = [])) (h : Sit w S B D Q v tv pv sv nv L M) (h1 : TgsAt w P u1 cs) (h2 : PasAt w P u2 ps) (hs : (⟨kind, on, st, cs, ps⟩ : StT).Small) (ht : (⟨kind, on, st, cs, ps⟩ : StT).Tight) (hP : ∀ j, P j → ¬ DeskK D tv pv sv nv L M j ∧ j ≠ B) (k2 : kind = 2) :
    Calls Try.prog 25 #[.pointer none, rqV Q.room Q.last v, .agg #[.int .i64 kind, .int .i64 on, .int .i64 st, u1, u2], .pointer (some ⟨D, 0, none⟩)] w fun e w' => PlE w S B D (DeskK D tv pv sv nv L M) Q.room (Q.collL st ps).1 (Q.collL st ps).2 e w' := by
  obtain ⟨va, vc, rfl, _⟩ := RowAt.form h.ref
  obtain ⟨a1, c1, rfl, _⟩ := RowAt.form h1
  obtain ⟨a2, c2, rfl, _⟩ := RowAt.form h2
  obtain ⟨n1, hn1⟩ : ∃ z, cs.length = z := ⟨_, rfl⟩
  obtain ⟨n2, hn2⟩ : ∃ z, ps.length = z := ⟨_, rfl⟩
  obtain ⟨qn, hqn⟩ : ∃ z, Q.l.length = z := ⟨_, rfl⟩
  rw [hn1] at h1 ⊢
  rw [hn2] at h2 ⊢
  rw [hqn] at h ⊢
  obtain ⟨K, hK⟩ : ∃ K, DeskK D tv pv sv nv L M = K := ⟨_, rfl⟩
  have HK : Hid (DeskK D tv pv sv nv L M = K) := hK
  rw [hK] at hP ⊢
  have hbx := boxes3 (w := w) (a := #[.int .i64 Q.room, .int .i64 Q.last, .slice va qn vc]) (b := #[.int .i64 kind, .int .i64 on, .int .i64 st, .slice a1 n1 c1, .slice a2 n2 c2]) (c := #[.int .i64 0, .int .i64 0, .slice none 0 0]) (t := 67) (u := 33)
  obtain ⟨W, hW⟩ : ∃ W, ((w.alloc (.cells #[.int .i64 Q.room, .int .i64 Q.last, .slice va qn vc] 67)).alloc (.cells #[.int .i64 kind, .int .i64 on, .int .i64 st, .slice a1 n1 c1, .slice a2 n2 c2] 33)).alloc (.cells #[.int .i64 0, .int .i64 0, .slice none 0 0] 67) = W := ⟨_, rfl⟩
  simp only [hW] at hbx
  obtain ⟨⟨hA, hBx, hC⟩, hbel, hsz⟩ := hbx
  obtain ⟨g, hg⟩ : ∃ g, w.heap.size = g := ⟨_, rfl⟩
  rw [hg] at hA hBx hC hsz
  have hSit : Sit W (fun j => S j ∧ ¬ j = g + 1 + 1) B D Q (.slice va qn vc) tv pv sv nv L M := h.begin hbel (fun j hj => by omega)
  have HA : Hid _ := hA
  have HBX : Hid _ := hBx
  have HC : Hid _ := hC
  have HBW : Hid (Below w.heap.size w W) := hbel
  have HG : Hid (w.heap.size = g ∧ W.heap.size = g + 1 + 1 + 1) := ⟨hg, hsz⟩
  have HS : Hid (Sit W (fun j => S j ∧ ¬ j = g + 1 + 1) B D Q (.slice va qn vc) tv pv sv nv L M) := hSit
  have HW : Hid (((w.alloc (.cells #[.int .i64 Q.room, .int .i64 Q.last, .slice va qn vc] 67)).alloc (.cells #[.int .i64 kind, .int .i64 on, .int .i64 st, .slice a1 n1 c1, .slice a2 n2 c2] 33)).alloc (.cells #[.int .i64 0, .int .i64 0, .slice none 0 0] 67) = W) := hW
  have HN : Hid (cs.length = n1 ∧ ps.length = n2 ∧ Q.l.length = qn) := ⟨hn1, hn2, hqn⟩
  have HT1 : Hid (TgsAt W P (.slice a1 n1 c1) cs) := TgsAt.keep h1 (Kp.of_below hbel _)
  have HT2 : Hid (PasAt W P (.slice a2 n2 c2) ps) := PasAt.keep h2 (Kp.of_below hbel _)
  have HSM : Hid (⟨kind, on, st, cs, ps⟩ : StT).Small := hs
  have HTI : Hid (⟨kind, on, st, cs, ps⟩ : StT).Tight := ht
  have HP : Hid (∀ j, P j → ¬ K j ∧ j ≠ B) := hP
  have HKL : Hid (∀ j, K j → j < g) := fun j hj => by rw [← hg]; exact h.desk.lt j (by rw [hK]; exact hj)
  have HBL : Hid (B < g) := by rw [← hg]; exact h.q.lt
  have hq32 : qn ≤ 32 := by rw [← hqn]; have h1 := h.q.ok.room; have h2 := h.q.ok.fits; omega
  obtain ⟨a0, a1', a2'⟩ := cells_3 hA
  obtain ⟨b0, b1, b2, b3, b4⟩ := cells_5 hBx
  obtain ⟨r0, r1, r2⟩ := cells_3 hC
  have fr := free_of hC
  clear h h1 h2 hs ht hP hA hBx hC hbel hsz hSit hW hn1 hn2 hqn hK
  subst k2
  obtain ⟨pl, hpl⟩ : ∃ z, (Q.collL st ps).1 = z := ⟨_, rfl⟩
  obtain ⟨pk, hpk⟩ : ∃ z, (Q.collL st ps).2 = z := ⟨_, rfl⟩
  obtain ⟨pc, hpc⟩ : ∃ z, Q.collC st ps = z := ⟨_, rfl⟩
  obtain ⟨pn, hpn⟩ : ∃ z, pk.length = z := ⟨_, rfl⟩
  have HSD : Hid (Snd pl pk) := by show Snd _ _; rw [← hpl, ← hpk]; exact collL_snd HS.out.snd st ps
  have HRP : Hid (Calls Try.prog 52 #[rqV Q.room Q.last (.slice va qn vc), .int .i64 st, .slice a2 n2 c2] W fun e w' => ∃ a c, e = .returned (.tuple #[rqV Q.room pl (.slice a pn c), .int .i64 pc]) ∧ ItsAt w' (fun j => S j ∧ ¬ j = g + 1 + 1) (.slice a pn c) pk ∧ Below W.heap.size W w') := by
    have := refColl_l Q st _ _ ps W _ P HS.out.ref HT2.out HSM.out.ps HS.out.q.ok.fits HS.out.q.ok.room HS.out.q.ok.small HS.out.hi
    rw [hpl, hpk, hpc, hpn] at this
    exact this
  have HPU : Hid (∀ (w' : World) (v : Value) (S1 P1 : Nat → Prop), QueueAt w' S1 B 0 Q → PasAt w' P1 v ps → ¬ P1 B → (∀ j, w'.heap.size ≤ j → S1 j) → Calls Try.prog 15 #[.pointer none, .int .i64 st, v] w' fun e w'' => e = .returned (.int .i64 pc) ∧ (∃ f, QueueAt w'' S1 B 0 ⟨Q.room, f, pl, pk⟩) ∧ Chg w' w'' (fun j => j = B)) := fun w' v S1 P1 h1 h2 h3 h4 => by
    have := coll_nil B Q st v ps w' S1 P1 HQ0.out h1 h2 HSM.out.ps
    rw [hpl, hpk, hpc] at this
    exact this
  rw [hpl, hpk]
  clear hpl hpk hpc hpn
  go_enter Try.func25, Try.ntmps25
  go_upto_region 1 with fail
  rw [HW.out]
  clear hg
  go_upto_region 18 with
    (first
    | (go_at_call 52; refine HRP.out.mono ?_; rintro e w2 ⟨a3, c3, rfl, hi1, hb2⟩
       have HI1 : Hid (ItsAt w2 (fun j => S j ∧ ¬ j = g + 1 + 1) (.slice a3 pn c3) pk) := hi1
       have HB2 : Hid (Below W.heap.size W w2) := hb2
       have HX2 : Hid _ := kept_block hb2 HBX.out
       have HR2 : Hid _ := kept_block hb2 HC.out
       clear hi1 hb2 a0 a1' a2' b0 b1 b2 b3 b4 r0 r1 r2 fr)
    | fail)
  obtain ⟨b10, h10⟩ : ∃ b, w2.heap.size = b := ⟨_, rfl⟩
  obtain ⟨w3, hw3⟩ : ∃ w3, w2.alloc (.cells #[.int .i64 Q.room, .int .i64 pl, .slice a3 pn c3] 67) = w3 := ⟨_, rfl⟩
  rw [hw3, h10]
  have H10 : Hid (w2.heap.size = b10 ∧ g + 1 + 1 + 1 ≤ b10) := ⟨h10, by have h1 := HB2.out.size; have h2 := HG.out; omega⟩
  have HB3 : Hid (Below w2.heap.size w2 w3) := by show Below _ _ _; rw [← hw3]; exact (Below.refl _ _).alloc (Nat.le_refl _) _
  have HN3 : Hid (w3.heap[b10]? = some (.cells #[.int .i64 Q.room, .int .i64 pl, .slice a3 pn c3] 67 (0, 0)) ∧ w3.heap.size = b10 + 1) := by
    show _ ∧ _
    rw [← hw3, ← h10]
    exact ⟨heap_alloc_new _ _, by simp⟩
  have HX3 : Hid _ := kept_block HB3.out HX2.out
  have HR3 : Hid _ := kept_block HB3.out HR2.out
  have HS3 : Hid (Sit w3 (fun j => (S j ∧ ¬ j = g + 1 + 1) ∧ ¬ j = b10) B D Q (.slice va qn vc) tv pv sv nv L M) := (HS.out.below HB2.out).begin HB3.out (fun j hj => by have h1 := HN3.out.2; omega)
  have HI3 : Hid (ItsAt w3 (fun j => (S j ∧ ¬ j = g + 1 + 1) ∧ ¬ j = b10) (.slice a3 pn c3) pk) := ItsAt.keep (its_mono HI1.out (fun j hj hS => ⟨hS, by omega⟩)) (Kp.of_below HB3.out _)
  have HC3 : Hid (Chg w w3 (fun j => j = B ∨ K j)) := ((Chg.of_below HBW.out _).trans (Chg.of_below HB2.out _)).trans (Chg.of_below HB3.out _)
  have HT3 : Hid (PasAt w3 P (.slice a2 n2 c2) ps) := PasAt.keep (PasAt.keep HT2.out (Kp.of_below HB2.out _)) (Kp.of_below HB3.out _)
  have HTW : Hid _ := twins_any D pv tv nv sv M L (.slice a2 n2 c2) ps w3 P HS3.out.desk HT3.out HSM.out.ps HTI.out.ps (fun j hj => by rw [HK.out]; exact (HP.out j hj).1) trivial
  obtain ⟨b0, b1, b2, b3, b4⟩ := cells_5 HX3.out
  clear h10 hw3
  go_upto_region 19 with
    (first
    | (go_at_call 53; refine Calls.mono HTW.out ?_; rintro e w4 ⟨mv, nv', M', us, rfl, hd4, hu4, hl4, hm4, he4, hc4, hk4⟩
       have HND : Hid (HandP w4 mv ps M' us) := ⟨hm4, hu4, hl4, he4⟩
       have HD4 : Hid (DeskAt w4 D tv mv sv nv' L M') := hd4
       have HC4 : Hid (Chg w3 w4 (DeskK D tv pv sv nv L M)) := hc4
       have HK4 : Hid (∀ j, DeskK D tv mv sv nv' L M' j → DeskK D tv pv sv nv L M j ∨ w3.heap.size ≤ j) := hk4
       clear hd4 hu4 hl4 hm4 he4 hc4 hk4)
    | fail)
  obtain ⟨gm, cm, hmv, hcm, _⟩ := HND.out.pas (S := fun _ => True) (fun _ _ => trivial) (fun _ _ _ _ => trivial)
  rw [HN.out.2.1] at hmv hcm
  subst hmv
  clear b0 b1 b2 b3 b4
  obtain ⟨K', hK'⟩ : ∃ K', DeskK D tv (.slice (some ⟨gm, 0, none⟩) (n2 + 1) cm) sv nv' L M' = K' := ⟨_, rfl⟩
  have HKK : Hid (DeskK D tv (.slice (some ⟨gm, 0, none⟩) (n2 + 1) cm) sv nv' L M' = K') := hK'
  have HKN : Hid (∀ j, K' j → K j ∨ w3.heap.size ≤ j) := fun j hj => by rw [← HK.out]; exact HK4.out j (by rw [HKK.out]; exact hj)
  have HS4 : Hid (Sit w4 (fun j => ((S j ∧ ¬ j = g + 1 + 1) ∧ ¬ j = b10) ∧ ¬ K' j) B D Q (.slice va qn vc) tv (.slice (some ⟨gm, 0, none⟩) (n2 + 1) cm) sv nv' L M') := by
    have := HS3.out.twin HD4.out HC4.out HK4.out
    rw [HKK.out] at this
    exact this
  have HI4 : Hid (ItsAt w4 (fun j => ((S j ∧ ¬ j = g + 1 + 1) ∧ ¬ j = b10) ∧ ¬ K' j) (.slice a3 pn c3) pk) := its_twin HI3.out (fun j hj => (HS3.out.out j hj).1) HC4.out (fun j hj => HK4.out j (by rw [HKK.out]; exact hj))
  have hlow : ∀ j, g ≤ j → ¬ DeskK D tv pv sv nv L M j := fun j hj hh => by rw [HK.out] at hh; have := HKL.out j hh; omega
  have hkeep : ∀ (j : Nat) (o : Array Value) (t : TypeId), g ≤ j → w3.heap[j]? = some (.cells o t (0, 0)) → w4.heap[j]? = some (.cells o t (0, 0)) := fun j o t hj h => by rw [HC4.out.block j (lt_of_blk h) (hlow j hj)]; exact h
  have HX4 : Hid _ := hkeep _ _ _ (by omega) HX3.out
  have HR4 : Hid _ := hkeep _ _ _ (by omega) HR3.out
  have HN4 : Hid _ := hkeep _ _ _ (by have := H10.out.2; omega) HN3.out.1
  have HT4 : Hid (PasAt w4 P (.slice a2 n2 c2) ps) := PasAt.keep HT3.out (Kp.of_chg HC4.out (fun j _ hj e => (HP.out j hj).1 (by rw [← HK.out]; exact e)))
  have HK'L : Hid (∀ j, K' j → (j < g ∨ b10 < j) ∧ j ≠ B) := fun j hj => ⟨(HKN.out j hj).elim (fun h => .inl (HKL.out j h)) (fun h => .inr (by have := HN3.out.2; omega)), (HS4.out.out j (by rw [HKK.out]; exact hj)).2⟩
  have HTG : Hid (PasAt w4 K' (.slice (some ⟨gm, 0, none⟩) n2 cm) ps) := by
    obtain ⟨g', c', hv, _, ht⟩ := HND.out.pas (S := K') (fun k hk => by rw [← HKK.out]; exact .inr (.inr (.inl hk))) (fun t ht k hk => by rw [← HKK.out]; exact .inr (.inr (.inr (.inr (.inr (.inr ⟨t, ht, hk⟩))))))
    cases hv
    rw [HN.out.2.1] at ht
    exact ht
  have HC4w : Hid (Chg w w4 (fun j => j = B ∨ K j)) := chg_ext HC3.out HC4.out (fun j e => .inl (.inr (by rw [← HK.out]; exact e)))
  have H34 : Hid (w.heap.size ≤ w3.heap.size) := HC3.out.size
  obtain ⟨b0, b1, b2, b3, b4⟩ := cells_5 HX4.out
  clear hlow hkeep hK'
  have hcm1 : n2 ≤ cm := by omega
  have hcm2 : (n2 : Int) ≤ (cm : Int) := by omega
  go_region_held3 (fun w' => w'.cell? ⟨g + 1, 2, none⟩ = some (.int .i64 st) ∧ w'.cell? ⟨g + 1, 4, none⟩ = some (.slice a2 n2 c2)) (first | exact ⟨b2, b4⟩ | go_keep)
    (first
    | (go_at_call 15; refine (HPU.out _ _ _ K' (HS4.out.q.below (below_drew (Below.refl _ _))) (PasAt.keep HTG.out (Kp.of_below (below_drew (Below.refl _ _)) _)) (fun h => (HK'L.out B h).2 rfl) HS4.out.hi).mono ?_; rintro e w5 ⟨rfl, ⟨f, hq5⟩, hc5⟩
       have HC5 : Hid (Chg w4 w5 (fun j => j = B)) := chg_undrew hc5
       have HS5 : Hid (Sit w5 (fun j => ((S j ∧ ¬ j = g + 1 + 1) ∧ ¬ j = b10) ∧ ¬ K' j) B D ⟨Q.room, f, pl, pk⟩ (.slice a3 pn c3) tv (.slice (some ⟨gm, 0, none⟩) (n2 + 1) cm) sv nv' L M') := HS4.out.queue hq5 HC5.out (its_queue HI4.out HS4.out.q.out HC5.out) HSD.out
       have HN5 : Hid _ := blk_queue HN4.out (by have h1 := HBL.out; have h2 := H10.out.2; omega) HC5.out
       have HX5 : Hid _ := blk_queue HX4.out (by have := HBL.out; omega) HC5.out
       have HR5 : Hid _ := blk_queue HR4.out (by have := HBL.out; omega) HC5.out
       clear hq5 hc5 b0 b1 b2 b3 b4
       obtain ⟨b0, b1, b2, b3, b4⟩ := cells_5 HX5.out)
    | fail)
  have HND5 : Hid (HandP w5 (.slice (some ⟨gm, 0, none⟩) (n2 + 1) cm) ps M' us) := HND.out.keep HC5.out (fun k hk e => (HK'L.out k (by rw [← HKK.out]; exact .inr (.inr (.inl hk)))).2 e) (fun t ht k hk e => (HK'L.out k (by rw [← HKK.out]; exact .inr (.inr (.inr (.inr (.inr (.inr ⟨t, ht, hk⟩))))))).2 e)
  have HT5 : Hid (PasAt w5 P (.slice a2 n2 c2) ps) := PasAt.keep HT4.out (Kp.of_chg HC5.out (fun j _ hj e => (HP.out j hj).2 e))
  have HC5w : Hid (Chg w w5 (fun j => j = B ∨ K j)) := HC4w.out.trans (HC5.out.mono fun j _ e => .inl e)
  go_wp2_with
    (first
    | (go_at_call 54; refine (wholes_any _ _ ps M' us _ P HND5.out HT5.out HSM.out.ps).mono ?_; rintro e w6 ⟨rfl, hb6⟩
       have HB6 : Hid (Below w5.heap.size w5 w6) := hb6
       have HSP : Hid (SplP w6 (fun j => ((S j ∧ ¬ j = g + 1 + 1) ∧ ¬ j = b10) ∧ ¬ K' j) B D gm (n2 + 1) cm ⟨Q.room, f, pl, pk⟩ (.slice a3 pn c3) tv sv nv' L M') := by
         have h1 := HS5.out.below hb6
         have h2 := HND5.out.keep (T := fun _ => False) (Chg.of_below hb6 _) (fun _ _ h => h) (fun _ _ _ _ h => h)
         rw [← HN.out.2.1] at h1 h2 ⊢
         exact SplP.of h1 h2
       have HC6 : Hid (Chg w w6 (fun j => j = B ∨ K j)) := HC5w.out.trans (Chg.of_below hb6 _)
       have HN6 : Hid _ := kept_block hb6 HN5.out
       have HR6 : Hid _ := kept_block hb6 HR5.out
       clear hb6 b0 b1 b2 b3 b4)
    | fail)
  go_loopw [22] (fun i wr => ∃ q : Nat, i = .int .i64 q ∧ q ≤ n2 + 1 ∧ Hid (SplP wr (fun j => ((S j ∧ ¬ j = g + 1 + 1) ∧ ¬ j = b10) ∧ ¬ K' j) B D gm (n2 + 1) cm ⟨Q.room, f, pl, pk⟩ (.slice a3 pn c3) tv sv nv' L M') ∧ Hid (Chg w6 wr K')) (fun i _ => n2 + 1 - (intOf i).toNat)
  case atStart => exact ⟨0, rfl, Nat.zero_le _, HSP, Chg.refl _ _⟩
  case round =>
    obtain ⟨q, rfl, hq, HI, HCr⟩ := hrel
    have hn2b : (n2 + 1) * 64 ≤ 140737488355328 := by rw [← HN.out.2.1]; exact HTI.out.ps.len
    by_cases hlt : q < n2 + 1
    · have hqi : (q : Int) < ((n2 + 1 : Nat) : Int) := by omega
      have hqi2 : (q : Int) < (n2 : Int) + 1 := by omega
      obtain ⟨u, hu, htr⟩ := HI.out.at4 q hlt
      obtain ⟨ka, m, ec, hue, hin⟩ : ∃ ka m ec, u = .slice ka m ec ∧ ∀ j, j < m → ∃ k, ka = some ⟨k, 0, none⟩ ∧ (Value.slice (some ⟨k, 0, none⟩) (m + 1) ec) ∈ M' := by
        rcases htr with h | ⟨k, m, c, h1, h2⟩
        · exact ⟨none, 0, 0, h, fun j hj => absurd hj (Nat.not_lt_zero _)⟩
        · exact ⟨_, m, c, h2, fun j _ => ⟨k, rfl, h1⟩⟩
      subst hue
      have HIN : Hid _ := hin
      have HU : Hid (wr.cell? ⟨gm, q * 5 + 4, none⟩ = some (.slice ka m ec)) := hu
      clear hin htr hu
      go_wp2_with fail
      go_loopw [23] (fun i wr => ∃ j : Nat, i = .int .i64 j ∧ j ≤ m ∧ Hid (SplP wr (fun j => ((S j ∧ ¬ j = g + 1 + 1) ∧ ¬ j = b10) ∧ ¬ K' j) B D gm (n2 + 1) cm ⟨Q.room, f, pl, pk⟩ (.slice a3 pn c3) tv sv nv' L M') ∧ Hid (Chg w6 wr K') ∧ Hid (wr.cell? ⟨gm, q * 5 + 4, none⟩ = some (.slice ka m ec))) (fun i _ => m - (intOf i).toNat)
      case atStart => exact ⟨0, rfl, Nat.zero_le _, HI, HCr, HU⟩
      case round =>
        clear HI HCr HU
        obtain ⟨j, rfl, hj, HI, HCr, HU⟩ := hrel
        have hu := HU.out
        by_cases hjl : j < m
        · have hji : (j : Int) < (m : Int) := by omega
          obtain ⟨k, hka, hmem⟩ := HIN.out j hjl
          subst hka
          obtain ⟨xs, hrow⟩ := HI.out.trow hmem
          obtain ⟨y, cur, hy, hblk⟩ := row_has (i := j * 3) hrow (by omega)
          have hmx : m + 1 ≤ maxLen := by
            rcases hrow.2 with ⟨h0, _⟩ | ⟨_, _, _, hv, _, _, h1, h2, _⟩
            · cases h0
            · cases hv
              exact Nat.le_trans h1 h2
          unfold maxLen at hmx
          have fk := free_of hblk
          have HNX : Hid _ := HI.out.tag (i := j * 3) (x := .string ⟨#[115, 112, 111, 105, 108, 116]⟩) hmem
          have HNU : Hid ((wr.setCell ⟨k, j * 3, none⟩ (.string ⟨#[115, 112, 111, 105, 108, 116]⟩)).cell? ⟨gm, q * 5 + 4, none⟩ = some (.slice (some ⟨k, 0, none⟩) m ec)) := by
            obtain ⟨ys, hr2⟩ := HI.out.mrow
            obtain ⟨cur2, hg2⟩ := row_kind hr2 gm rfl
            show _ = _
            rw [cellN (kind_ne hg2 hblk (by decide))]
            exact hu
          clear hrow hblk hmem
          go_wp2_with fail
          go_roundw
          case rel => exact ⟨j + 1, by go_num, by omega, HNX.out.1, HCr.out.trans (HNX.out.2.mono fun i _ h => by rw [← HKK.out]; exact h), HNU⟩
          case measure => simp [intOf]; omega
        · obtain rfl : j = m := by omega
          have hge : ¬ (j : Int) < (j : Int) := by omega
          obtain ⟨xs, hrow⟩ := HI.out.mrow
          obtain ⟨y, cur, hy, hblk⟩ := row_has (i := q * 5) hrow (by omega)
          have fk := free_of hblk
          have HNX : Hid _ := HI.out.place (i := q) (x := .int .i64 666)
          clear hrow hblk
          go_wp2_with fail
          go_roundw
          case rel => exact ⟨q + 1, by go_num, by omega, HNX.out.1, HCr.out.trans (HNX.out.2.mono fun i _ h => by rw [← HKK.out]; exact h)⟩
          case measure => simp [intOf]; omega
    · obtain rfl : q = n2 + 1 := by omega
      have hge : ¬ ((n2 : Int) + 1) < ((n2 : Int) + 1) := by omega
      have hkeep : ∀ (j : Nat) (o : Array Value) (t : TypeId), g ≤ j → j ≤ b10 → w6.heap[j]? = some (.cells o t (0, 0)) → wr.heap[j]? = some (.cells o t (0, 0)) := fun j o t h1 h2 h => by rw [HCr.out.block j (lt_of_blk h) (fun hk => by have := (HK'L.out j hk).1; omega)]; exact h
      have HN7 : Hid _ := hkeep _ _ _ (by have := H10.out.2; omega) (Nat.le_refl _) HN6.out
      have HR7 : Hid _ := hkeep _ _ _ (by omega) (by have := H10.out.2; omega) HR6.out
      obtain ⟨d0, d1, d2⟩ := cells_3 HN7.out
      obtain ⟨r0, r1, r2⟩ := cells_3 HR7.out
      have fr := free_of HR7.out
      have hg1 : ∀ (w : World) i v o, (w.setCell ⟨g + 1 + 1, i, none⟩ v).cell? ⟨b10, o, none⟩ = w.cell? ⟨b10, o, none⟩ := fun w i v o => cellN (by have := H10.out.2; omega)
      clear hkeep
      go_wp2_with fail
      go_region_held3 (fun w' => w'.cell? ⟨b10, 0, none⟩ = some (.int .i64 Q.room) ∧ w'.cell? ⟨b10, 1, none⟩ = some (.int .i64 pl) ∧ w'.cell? ⟨b10, 2, none⟩ = some (.slice a3 pn c3)) (first | exact ⟨d0, d1, d2⟩ | go_keep)
        (first
        | (go_at_call 10; refine (num_any _ _).mono ?_; rintro e w9 ⟨rfl, rfl⟩)
        | fail)
      go_wp2_with fail
      refine bodyPost_ret (results_cell_tmp rfl _ _ (g + 1 + 1) 67 _ (0, 0) _ _ rfl rfl (fill_3 (w := wr.drew) HR7.out) Try.underlying67 rfl (by kernel_rfl)) rfl ?_
      have hc := chg_put3 wr.drew (g + 1 + 1) (.int .i64 Q.room) (.int .i64 pl) (.slice a3 pn c3)
      refine ⟨_, f, .slice a3 pn c3, tv, _, sv, nv', L, M', rfl, (HI.out.sit.below (below_drew (Below.refl _ _))).other hc (fun j _ e => ?_), fun j hj => hj.1.1.1, ?_, fun j hj => ?_⟩
      · have e : j = g + 1 + 1 := e
        have h1 := HBL.out
        have h2 := H10.out.2
        exact ⟨fun hh => hh.1.1.2 e, by omega, fun hh => by have := (HK'L.out j (by rw [← HKK.out]; exact hh)).1; omega⟩
      · have h2 := H34.out
        exact chg_ext ((chg_ext HC6.out HCr.out (fun j hj => (HKN.out j hj).elim (fun h => .inl (.inr h)) (fun h => .inr (by omega)))).trans (Chg.of_below (below_drew (Below.refl _ _)) _)) hc (fun j e => by have e : j = g + 1 + 1 := e; have := HG.out; exact .inr (by omega))
      · have h2 := H34.out
        exact (HKN.out j (by rw [← HKK.out]; exact hj)).elim .inl (fun h => .inr (by omega))
end Go.Proofs.Ytlidkieljiebiaa
