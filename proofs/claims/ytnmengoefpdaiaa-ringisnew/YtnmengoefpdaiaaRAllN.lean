/-
  ring: All, and what is new in a round.
-/
import Derived.Test.YtnmengoefpdaiaaRAllL
import Derived.Test.YtnmengoefpdaiaaRAfterN
namespace Go.Proofs.Ytnmengoefpdaiaa
open Go.RowKit Go.Shelf
set_option linter.unusedVariables false
set_option linter.unusedSimpArgs false
attribute [local go_sem] Oper.semAt_some

def AllYG (R : RingT) (J : Nat → (Nat → Prop) → World → Prop) (s : AllS) (x : Value × World) (W : World) : Prop := Kp NoB x.2 W ∧ J s.1 s.2.2 W ∧ ∃ e v, R.l[s.1]? = some e ∧ x.1 = e.val v ∧ OwnOps W v e.ops ∧ ∃ V, J s.1 s.2.2 V ∧ Kp NoB V W ∧ ∀ k, v.ownBlock = some k → V.heap.size ≤ k
set_option maxRecDepth 100000 in
set_option maxHeartbeats 3200000 in
theorem all_seqG (n : Nat) (p : Option Addr) (R : RingT) (Bb B : Nat) (M0 : Nat → Prop) (J : Nat → (Nat → Prop) → World → Prop) (X : Code → World → Prop) (E : World → Prop) (W0 : World) (hEJ : ∀ M W, J R.l.length M W → E W) (h : AllBy p R Bb M0 J) :
    SeqSt Fence.wide n Try.prog 34 #[.pointer (some ⟨Bb, 0, none⟩)] (fun x : Value × World => #[x.1]) B (AllI J) (AllYG R J) AllN X E (0, W0, M0) := by
  intro l Z Zx W1 hZ hZx hY h0 hz0
  have hbx := h.box W1 h0.2
  have HO : Hid (∀ w', Below W1.heap.size W1 w' → _) := fun w' hb => orZero_any p R w' ((h.ring W1 h0.2).below hb)
  have HJ : Hid (J 0 M0 W1) := h0.2
  have HZ1 : Hid (Z W1) := hz0
  have HY : Hid _ := hY
  have HZ : Hid (∀ (A C : World), KeepsFrom B A C → Z A → Z C) := hZ
  have HH : Hid (AllBy p R Bb M0 J) := h
  have HEJ : Hid (∀ M W, J R.l.length M W → E W) := hEJ
  clear hY hZ hZx h0 hz0 h hEJ
  refine callsIn_of_wp Try.func34 rfl trivial ?_ rfl
  simp only [Try.ntmps34, List.size_toArray, List.length_cons, List.length_nil, Nat.reduceAdd, Nat.reduceSub, Array.replicate_succ, Array.replicate_zero, List.push_toArray, List.append_toArray, List.nil_append, List.cons_append]
  gi_wp2
  refine ⟨trivial, (fun hd => nomatch hd), ?_⟩
  refine (callsIn_wide.2 (HO.out _ (Below.refl _ _))).mono ?_
  rintro e w2 ⟨b, rfl, hr, hb, -⟩
  have HB : Hid (Below W1.heap.size W1 w2) := hb
  have c5 := hr.floor
  have c8 := hr.last
  obtain ⟨m, hm⟩ : ∃ m, R.l.length = m := ⟨_, rfl⟩
  have hlast : R.last = R.floor + m := by rw [← hm]
  rw [hlast] at c8
  have hmx : R.floor + m ≤ 2147483647 := by have h1 := hr.ok.max; rw [hlast] at h1; exact h1
  have hm64 : m ≤ 64 := by have h1 := hr.ok.fits; have h2 := hr.ok.room; omega
  have HRU : Hid (∀ w', Below w2.heap.size w2 w' → _) := fun w' hb => run_any b 0 m R w' (hr.below hb) (by omega)
  have HM : Hid (R.l.length = m) := hm
  have HS : Hid (∀ e ∈ R.l, e.Small) := hr.ok.small
  obtain ⟨F, hF⟩ : ∃ F, R.floor = F := ⟨_, rfl⟩
  rw [hF] at c5 c8 hmx HRU
  rw [Nat.add_zero] at HRU
  obtain ⟨L, hL⟩ : ∃ L, F + m = L := ⟨_, rfl⟩
  rw [hL] at c8 hmx
  have hLm : (L : Int) - F = (m : Int) := by omega
  have hwm : IntKind.i64.wrap (m : Int) = (m : Int) := by rw [IntKind.wrap_i64]; omega
  have HBL : Hid (b < w2.heap.size) := hr.lt
  have HG2 : Hid (W1.heap.size ≤ w2.heap.size) := hb.size
  clear hr hb hlast HO hF hL hm
  gi_wp2
  refine wpIn_wide.2 ?_
  go_region_held3 (fun w' => w'.cell? ⟨b, 385, none⟩ = some (.int .i64 F) ∧ w'.cell? ⟨b, 388, none⟩ = some (.int .i64 L)) (first | (simp only [World.cell?_drew, World.cell?_drewN, c5, c8, and_self]; done) | fail)
    (first
    | (go_at_call 23; refine (HRU.out _ (by first | exact below_drewN (Below.refl _ _) _ | exact below_drew (Below.refl _ _))).mono ?_
       rintro e' w3 ⟨P, hP, rfl, hE, hb⟩
       have HP : Hid (P.map (·.e) = R.l) := by
         show _ = _
         rw [hP, List.drop_zero, List.take_of_length_le (by rw [HM.out]; exact Nat.le_refl _)]
       have HB3 : Hid (Below W1.heap.size W1 w3) := trans2 (below_drew HB.out) hb
       have HE : Hid (EntsAt w3 (.slice (some ⟨w2.heap.size, 0, none⟩) m m) P) := hE
       have c5 : w3.cell? ⟨b, 385, none⟩ = some (.int .i64 F) := by rw [hb.cell (p := ⟨b, 385, none⟩) HBL.out]; exact c5
       have c8 : w3.cell? ⟨b, 388, none⟩ = some (.int .i64 L) := by rw [hb.cell (p := ⟨b, 388, none⟩) HBL.out]; exact c8
       clear hP hb hE))
  have hPl : P.length = m := by rw [← HM.out, ← HP.out, List.length_map]
  have HPL : Hid (P.length = m) := hPl
  have HG : Hid (w3.heap[w2.heap.size]? = some (.cells (rowCs PEnt.cells P).toArray 38 (0, 0))) := blk_of_row HE.out.row hPl
  have HNS : Hid (∀ p ∈ P, ∀ k, p.x.ownBlock = some k → ¬ M0 k) := by
    intro p hp k hk hs
    obtain ⟨h1, h2⟩ := HH.out.out W1 HJ.out k hs
    obtain ⟨cur, hc⟩ := owns_kind (HE.out.ops p hp) hk
    rw [HB3.out.block k h1] at hc
    exact h2 _ _ _ hc rfl
  have HNG : Hid (¬ M0 w2.heap.size) := fun hs => by
    have h1 := (HH.out.out W1 HJ.out _ hs).1
    have h2 := HG2.out
    omega
  clear hPl c5 c8 hLm hwm hmx
  gi_wp2
  gi_loopg [24] m (fun k i wr => ∃ (q : Nat) (M : Nat → Prop), k = m - q ∧ i = .int .i64 q ∧ q ≤ m ∧ Hid ((∀ p ∈ P, ∀ k, p.x.ownBlock = some k → ¬ M k) ∧ ¬ M w2.heap.size) ∧ Hid (J q M wr) ∧ Hid (Z wr) ∧ Hid (wr.heap[w2.heap.size]? = some (.cells (rowCs PEnt.cells P).toArray 38 (0, 0))) ∧ Hid (∀ p ∈ P, OwnOps wr p.x p.e.ops))
  case atStart => exact ⟨0, M0, rfl, rfl, Nat.zero_le _, ⟨HNS.out, HNG.out⟩, HH.out.below _ _ _ _ HJ.out HB3.out, HZ.out _ _ (keeps_below HB3.out B) HZ1.out, HG, HE.out.ops⟩
  case round =>
    obtain ⟨q, M, rfl, rfl, hq, HMq, HJq, HZq, HGq, HOq⟩ := hrel
    by_cases hlt : q < m
    · have hlt' : (q : Int) < (m : Int) := by omega
      obtain ⟨x, hx⟩ : ∃ x, P[q]? = some x := ⟨P[q]'(by rw [HPL.out]; exact hlt), List.getElem?_eq_getElem _⟩
      have hcs : ∀ j v, x.cells[j]? = some v → wr.cell? ⟨w2.heap.size, q * 6 + j, none⟩ = some v := fun j v hj => by
        rw [cell_blk HGq.out, List.getElem?_toArray]
        have h1 := rowCs_at pent_len P q j x v hx hj []
        rw [List.append_nil] at h1
        exact h1
      have g0 := hcs 0 _ rfl
      rw [Nat.add_zero] at g0
      have g1 := hcs 1 _ rfl
      have g2 := hcs 2 _ rfl
      have g3 := hcs 3 _ rfl
      have g4 := hcs 4 _ rfl
      have g5 := hcs 5 _ rfl
      have hxo := HOq.out x (List.mem_of_getElem? hx)
      have hxl : R.l[q]? = some x.e := by rw [← HP.out, List.getElem?_map, hx]; rfl
      obtain ⟨xe, xv⟩ := x
      obtain ⟨xa, xc, hxv, -, -⟩ := owns_form hxo
      simp only at hxv hxo hxl g0 g1 g2 g3 g4 g5
      subst hxv
      have HOW : Hid (∀ w', Below wr.heap.size wr w' → _) := fun w' hb => own_any xe xa xc xe.ops.length w' rfl ((os_of_own hxo).below hb) (HS.out xe (List.mem_of_getElem? hxl))
      have HXL : Hid (R.l[q]? = some xe) := hxl
      clear hcs hxo hx hxl
      gi_wp2
      refine ⟨trivial, (fun hd => nomatch hd), ?_⟩
      refine (callsIn_wide.2 (HOW.out _ ((Below.refl _ _).alloc (Nat.le_refl _) _))).mono ?_
      rintro e' w5 ⟨y, rfl, ho5, hb5, hx5⟩
      have HB5 : Hid (Below wr.heap.size wr w5) := trans2 ((Below.refl _ _).alloc (Nat.le_refl _) _) hb5
      obtain ⟨fn, tmps, assign, body, hyl, hR⟩ := HY.out (q, wr, M) (xe.val y, w5) w5 ⟨Kp.refl _ _, HH.out.below _ _ _ _ HJq.out HB5.out, xe, y, HXL.out, rfl, ho5, wr, HJq.out, Kp.of_below HB5.out _, fun k hk => (by have h9 := hx5 k hk; rw [World.size_alloc] at h9; omega)⟩ (HZ.out _ _ (keeps_below HB5.out B) HZq.out)
      have HR : Hid _ := hR
      clear hR ho5 hb5 hx5
      gi_wp2
      refine ⟨(fun hd => nomatch hd), ?_⟩
      refine RoundIn.mono HR.out ?_
      rintro e' W3 (⟨rfl, ⟨s', hN, hI3⟩, hZ3⟩ | ⟨rfl, c3, hX3⟩)
      · obtain ⟨q', V', M'⟩ := s'
        obtain ⟨hN1, hN2, hN3⟩ := hN
        obtain ⟨hI1, hI2⟩ := hI3
        simp only at hN1 hN2 hN3 hI1 hI2
        subst hN1
        have hkp : Kp M w5 W3 := hN2.trans (hI1.mono (fun _ h => h.elim))
        have HJ3 : Hid (J (q + 1) M' W3) := hI2
        have HZ3 : Hid (Z W3) := hZ3
        have hg5 := kept_block HB5.out HGq.out
        have HG3 : Hid (W3.heap[w2.heap.size]? = some (.cells (rowCs PEnt.cells P).toArray 38 (0, 0))) := hkp.cells _ _ _ _ hg5 HMq.out.2
        have HO3 : Hid (∀ p ∈ P, OwnOps W3 p.x p.e.ops) := fun p hp => owns_kp (owns_below (HOq.out p hp) HB5.out) hkp (HMq.out.1 p hp)
        have HM3 : Hid ((∀ p ∈ P, ∀ k, p.x.ownBlock = some k → ¬ M' k) ∧ ¬ M' w2.heap.size) := by
          refine ⟨fun p hp k hk hm => ?_, fun hm => ?_⟩
          · rcases hN3 k hm with h1 | h1
            · exact HMq.out.1 p hp k hk h1
            · have h2 := (owns_below (HOq.out p hp) HB5.out).lt k hk
              omega
          · rcases hN3 _ hm with h1 | h1
            · exact HMq.out.2 h1
            · have h2 := lt_of_blk hg5
              omega
        clear hkp hI1 hI2 hZ3 hN2 hN3 hg5
        gi_wp2
        gi_roundg (m - (q + 1))
        case rel => exact ⟨q + 1, M', rfl, by go_num, by omega, HM3, HJ3, HZ3, HG3, HO3⟩
        case measure => omega
      · have HX3 : Hid _ := hX3
        clear hX3
        gi_wp2
        refine bodyPost_ret (results_none rfl _ _ _) rfl ?_
        exact ⟨⟨_, rfl⟩, .inr ⟨c3, HX3.out⟩⟩
    · obtain rfl : q = m := by omega
      gi_wp2
      refine bodyPost_end (results_none rfl _ _ _) rfl ?_
      exact ⟨⟨_, rfl⟩, .inl ⟨HEJ.out M _ (by rw [HM.out]; exact HJq.out), HZq.out⟩⟩
end Go.Proofs.Ytnmengoefpdaiaa
