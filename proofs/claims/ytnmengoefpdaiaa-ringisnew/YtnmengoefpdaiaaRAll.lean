/-
  ring: All.
-/
import Derived.Test.YtnmengoefpdaiaaRAfter
import Derived.Test.YtnmengoefpdaiaaWRange
import Derived.RangeFuncBound
import Derived.Shelf.Abstract
import Derived.Shelf.RegionOpen
import Derived.OwnWalkIn
import Derived.TacticsInMore
import Derived.LoopNIn
import Derived.LoopIn
import Derived.Sort.LoopGhostIn
namespace Go.Proofs.Ytnmengoefpdaiaa
open Go.RowKit Go.Shelf
set_option linter.unusedVariables false
set_option linter.unusedSimpArgs false
attribute [local go_sem] Oper.semAt_some

/-- What was cells is the same still, but for S. -/
structure Kp (S : Nat → Prop) (V W : World) : Prop where
  size : V.heap.size ≤ W.heap.size
  cells : ∀ k cs t fr, V.heap[k]? = some (.cells cs t fr) → ¬ S k → W.heap[k]? = some (.cells cs t fr)
def NoB : Nat → Prop := fun _ => False
theorem Kp.refl (S : Nat → Prop) (V : World) : Kp S V V := ⟨Nat.le_refl _, fun _ _ _ _ h _ => h⟩
theorem Kp.trans {S : Nat → Prop} {A B C : World} (h : Kp S A B) (k : Kp S B C) : Kp S A C := ⟨Nat.le_trans h.size k.size, fun i cs t fr hi hs => k.cells i cs t fr (h.cells i cs t fr hi hs) hs⟩
theorem Kp.mono {S T : Nat → Prop} {A B : World} (h : Kp S A B) (hs : ∀ k, S k → T k) : Kp T A B := ⟨h.size, fun i cs t fr hi ht => h.cells i cs t fr hi (fun e => ht (hs i e))⟩
theorem Kp.of_chg {S : Nat → Prop} {A B : World} (h : Chg A B S) : Kp S A B := ⟨h.size, fun k cs t fr hk hs => (h.block k (lt_of_blk hk) hs).trans hk⟩
theorem Kp.of_below {A B : World} (h : Below A.heap.size A B) (S : Nat → Prop) : Kp S A B := Kp.of_chg (Chg.of_below h S)
theorem Kp.grown {S : Nat → Prop} {V W W' : World} {row : Option Nat} {B : Nat} (h : Kp S V W) (hg : W.grownBy W' row) (hr : ∀ r, row = some r → B ≤ r ∧ ∃ o : Obj, W.heap[r]? = some o ∧ o.isCells = false) : Kp S V W' := by
  refine ⟨Nat.le_trans h.size hg.size, fun k cs t fr hk hs => ?_⟩
  have h1 := h.cells k cs t fr hk hs
  rw [hg.block k (lt_of_blk h1) (fun e => ?_)]
  · exact h1
  · obtain ⟨_, o, ho, hc⟩ := hr k e.symm
    rw [h1] at ho
    cases ho
    cases hc
theorem owns_kp {w w' : World} {B e s n : Nat} {v : Value} {xs : List Value} {S : Nat → Prop} (h : w.ownsRow B e s v n xs) (hk : Kp S w w') (hs : ∀ k, v.ownBlock = some k → ¬ S k) : w'.ownsRow B e s v n xs := by
  refine ⟨h.1, ?_⟩
  rcases h.2 with h2 | ⟨g, cap, cur, hv, hB, hg, r⟩
  · exact .inl h2
  · exact .inr ⟨g, cap, cur, hv, hB, hk.cells _ _ _ _ hg (hs g (by rw [hv]; rfl)), r⟩

theorem keeps_below {A C : World} (h : Below A.heap.size A C) (B : Nat) : KeepsFrom B A C := ⟨h.size, fun k o _ hk _ => (h.block k (lt_of_blk hk)).trans hk⟩
set_option maxRecDepth 100000 in
set_option maxHeartbeats 3200000 in
/-- All: the receiver is boxed; the function value keeps the box. -/
theorem all_func (p : Option Addr) (w : World) :
    Calls Try.prog 20 #[.pointer p] w fun e w' => e = .returned (.func (.func 34) #[] #[.pointer (some ⟨w.heap.size, 0, none⟩)]) ∧ w' = w.alloc (.cells #[.pointer p] 24) := by
  go_enter Try.func20, Try.ntmps20
  go_wp2
  go_ret
  exact ⟨rfl, rfl⟩

/-- What is asked of who ranges over All: J q M W: between two rounds, M: the blocks that the round may turn. -/
structure AllBy (p : Option Addr) (R : RingT) (Bb : Nat) (M0 : Nat → Prop) (J : Nat → (Nat → Prop) → World → Prop) : Prop where
  box : ∀ W, J 0 M0 W → W.cell? ⟨Bb, 0, none⟩ = some (.pointer p)
  ring : ∀ W, J 0 M0 W → RP W p R
  out : ∀ W, J 0 M0 W → ∀ k, M0 k → k < W.heap.size ∧ ∀ cs t fr, W.heap[k]? = some (.cells cs t fr) → t ≠ 49
  below : ∀ q M W W', J q M W → Below W.heap.size W W' → J q M W'
abbrev AllS : Type := Nat × World × (Nat → Prop)
def AllI (J : Nat → (Nat → Prop) → World → Prop) (s : AllS) (W : World) : Prop := Kp NoB s.2.1 W ∧ J s.1 s.2.2 W
def AllY (R : RingT) (J : Nat → (Nat → Prop) → World → Prop) (s : AllS) (x : Value × World) (W : World) : Prop := Kp NoB x.2 W ∧ J s.1 s.2.2 W ∧ ∃ e v, R.l[s.1]? = some e ∧ x.1 = e.val v ∧ OwnOps W v e.ops
def AllN (s : AllS) (x : Value × World) (s' : AllS) : Prop := s'.1 = s.1 + 1 ∧ Kp s.2.2 x.2 s'.2.1 ∧ ∀ k, s'.2.2 k → s.2.2 k ∨ x.2.heap.size ≤ k

set_option maxRecDepth 100000 in
set_option maxHeartbeats 3200000 in
theorem all_seq (n : Nat) (p : Option Addr) (R : RingT) (Bb B : Nat) (M0 : Nat → Prop) (J : Nat → (Nat → Prop) → World → Prop) (X : Code → World → Prop) (E : World → Prop) (W0 : World) (hEJ : ∀ M W, J R.l.length M W → E W) (h : AllBy p R Bb M0 J) :
    SeqSt Fence.wide n Try.prog 34 #[.pointer (some ⟨Bb, 0, none⟩)] (fun x : Value × World => #[x.1]) B (AllI J) (AllY R J) AllN X E (0, W0, M0) := by
  intro l Z Zx W1 hZ hZx hY h0 hz0
  have hbx := h.box W1 h0.2
  have HO : Hid (∀ w', Below W1.heap.size W1 w' → _) := fun w' hb => orZero_any p R w' ((h.ring W1 h0.2).below hb)
  have HJ : Hid (J 0 M0 W1) := h0.2
  have HZ1 : Hid (Z W1) := hz0
  have HY : Hid _ := hY
  have HZ : Hid (∀ (A C : World), KeepsFrom B A C → Z A → Z C) := hZ
  have HH : Hid (AllBy p R Bb M0 J) := h
  have HEJ : Hid (∀ M W, J R.l.length M W → E W) := hEJ
  clear hY hZ hZx h0 hz0 h hEJ
  refine callsIn_of_wp Try.func34 rfl trivial ?_ rfl
  simp only [Try.ntmps34, List.size_toArray, List.length_cons, List.length_nil, Nat.reduceAdd, Nat.reduceSub, Array.replicate_succ, Array.replicate_zero, List.push_toArray, List.append_toArray, List.nil_append, List.cons_append]
  gi_wp2
  refine ⟨trivial, (fun hd => nomatch hd), ?_⟩
  refine (callsIn_wide.2 (HO.out _ (Below.refl _ _))).mono ?_
  rintro e w2 ⟨b, rfl, hr, hb, -⟩
  have HB : Hid (Below W1.heap.size W1 w2) := hb
  have c5 := hr.floor
  have c8 := hr.last
  obtain ⟨m, hm⟩ : ∃ m, R.l.length = m := ⟨_, rfl⟩
  have hlast : R.last = R.floor + m := by rw [← hm]
  rw [hlast] at c8
  have hmx : R.floor + m ≤ 2147483647 := by have h1 := hr.ok.max; rw [hlast] at h1; exact h1
  have hm64 : m ≤ 64 := by have h1 := hr.ok.fits; have h2 := hr.ok.room; omega
  have HRU : Hid (∀ w', Below w2.heap.size w2 w' → _) := fun w' hb => run_any b 0 m R w' (hr.below hb) (by omega)
  have HM : Hid (R.l.length = m) := hm
  have HS : Hid (∀ e ∈ R.l, e.Small) := hr.ok.small
  obtain ⟨F, hF⟩ : ∃ F, R.floor = F := ⟨_, rfl⟩
  rw [hF] at c5 c8 hmx HRU
  rw [Nat.add_zero] at HRU
  obtain ⟨L, hL⟩ : ∃ L, F + m = L := ⟨_, rfl⟩
  rw [hL] at c8 hmx
  have hLm : (L : Int) - F = (m : Int) := by omega
  have hwm : IntKind.i64.wrap (m : Int) = (m : Int) := by rw [IntKind.wrap_i64]; omega
  have HBL : Hid (b < w2.heap.size) := hr.lt
  have HG2 : Hid (W1.heap.size ≤ w2.heap.size) := hb.size
  clear hr hb hlast HO hF hL hm
  gi_wp2
  refine wpIn_wide.2 ?_
  go_region_held3 (fun w' => w'.cell? ⟨b, 385, none⟩ = some (.int .i64 F) ∧ w'.cell? ⟨b, 388, none⟩ = some (.int .i64 L)) (first | (simp only [World.cell?_drew, World.cell?_drewN, c5, c8, and_self]; done) | fail)
    (first
    | (go_at_call 23; refine (HRU.out _ (by first | exact below_drewN (Below.refl _ _) _ | exact below_drew (Below.refl _ _))).mono ?_
       rintro e' w3 ⟨P, hP, rfl, hE, hb⟩
       have HP : Hid (P.map (·.e) = R.l) := by
         show _ = _
         rw [hP, List.drop_zero, List.take_of_length_le (by rw [HM.out]; exact Nat.le_refl _)]
       have HB3 : Hid (Below W1.heap.size W1 w3) := trans2 (below_drew HB.out) hb
       have HE : Hid (EntsAt w3 (.slice (some ⟨w2.heap.size, 0, none⟩) m m) P) := hE
       have c5 : w3.cell? ⟨b, 385, none⟩ = some (.int .i64 F) := by rw [hb.cell (p := ⟨b, 385, none⟩) HBL.out]; exact c5
       have c8 : w3.cell? ⟨b, 388, none⟩ = some (.int .i64 L) := by rw [hb.cell (p := ⟨b, 388, none⟩) HBL.out]; exact c8
       clear hP hb hE))
  have hPl : P.length = m := by rw [← HM.out, ← HP.out, List.length_map]
  have HPL : Hid (P.length = m) := hPl
  have HG : Hid (w3.heap[w2.heap.size]? = some (.cells (rowCs PEnt.cells P).toArray 38 (0, 0))) := blk_of_row HE.out.row hPl
  have HNS : Hid (∀ p ∈ P, ∀ k, p.x.ownBlock = some k → ¬ M0 k) := by
    intro p hp k hk hs
    obtain ⟨h1, h2⟩ := HH.out.out W1 HJ.out k hs
    obtain ⟨cur, hc⟩ := owns_kind (HE.out.ops p hp) hk
    rw [HB3.out.block k h1] at hc
    exact h2 _ _ _ hc rfl
  have HNG : Hid (¬ M0 w2.heap.size) := fun hs => by
    have h1 := (HH.out.out W1 HJ.out _ hs).1
    have h2 := HG2.out
    omega
  clear hPl c5 c8 hLm hwm hmx
  gi_wp2
  gi_loopg [24] m (fun k i wr => ∃ (q : Nat) (M : Nat → Prop), k = m - q ∧ i = .int .i64 q ∧ q ≤ m ∧ Hid ((∀ p ∈ P, ∀ k, p.x.ownBlock = some k → ¬ M k) ∧ ¬ M w2.heap.size) ∧ Hid (J q M wr) ∧ Hid (Z wr) ∧ Hid (wr.heap[w2.heap.size]? = some (.cells (rowCs PEnt.cells P).toArray 38 (0, 0))) ∧ Hid (∀ p ∈ P, OwnOps wr p.x p.e.ops))
  case atStart => exact ⟨0, M0, rfl, rfl, Nat.zero_le _, ⟨HNS.out, HNG.out⟩, HH.out.below _ _ _ _ HJ.out HB3.out, HZ.out _ _ (keeps_below HB3.out B) HZ1.out, HG, HE.out.ops⟩
  case round =>
    obtain ⟨q, M, rfl, rfl, hq, HMq, HJq, HZq, HGq, HOq⟩ := hrel
    by_cases hlt : q < m
    · have hlt' : (q : Int) < (m : Int) := by omega
      obtain ⟨x, hx⟩ : ∃ x, P[q]? = some x := ⟨P[q]'(by rw [HPL.out]; exact hlt), List.getElem?_eq_getElem _⟩
      have hcs : ∀ j v, x.cells[j]? = some v → wr.cell? ⟨w2.heap.size, q * 6 + j, none⟩ = some v := fun j v hj => by
        rw [cell_blk HGq.out, List.getElem?_toArray]
        have h1 := rowCs_at pent_len P q j x v hx hj []
        rw [List.append_nil] at h1
        exact h1
      have g0 := hcs 0 _ rfl
      rw [Nat.add_zero] at g0
      have g1 := hcs 1 _ rfl
      have g2 := hcs 2 _ rfl
      have g3 := hcs 3 _ rfl
      have g4 := hcs 4 _ rfl
      have g5 := hcs 5 _ rfl
      have hxo := HOq.out x (List.mem_of_getElem? hx)
      have hxl : R.l[q]? = some x.e := by rw [← HP.out, List.getElem?_map, hx]; rfl
      obtain ⟨xe, xv⟩ := x
      obtain ⟨xa, xc, hxv, -, -⟩ := owns_form hxo
      simp only at hxv hxo hxl g0 g1 g2 g3 g4 g5
      subst hxv
      have HOW : Hid (∀ w', Below wr.heap.size wr w' → _) := fun w' hb => own_any xe xa xc xe.ops.length w' rfl ((os_of_own hxo).below hb) (HS.out xe (List.mem_of_getElem? hxl))
      have HXL : Hid (R.l[q]? = some xe) := hxl
      clear hcs hxo hx hxl
      gi_wp2
      refine ⟨trivial, (fun hd => nomatch hd), ?_⟩
      refine (callsIn_wide.2 (HOW.out _ ((Below.refl _ _).alloc (Nat.le_refl _) _))).mono ?_
      rintro e' w5 ⟨y, rfl, ho5, hb5, -⟩
      have HB5 : Hid (Below wr.heap.size wr w5) := trans2 ((Below.refl _ _).alloc (Nat.le_refl _) _) hb5
      obtain ⟨fn, tmps, assign, body, hyl, hR⟩ := HY.out (q, wr, M) (xe.val y, w5) w5 ⟨Kp.refl _ _, HH.out.below _ _ _ _ HJq.out HB5.out, xe, y, HXL.out, rfl, ho5⟩ (HZ.out _ _ (keeps_below HB5.out B) HZq.out)
      have HR : Hid _ := hR
      clear hR ho5 hb5
      gi_wp2
      refine ⟨(fun hd => nomatch hd), ?_⟩
      refine RoundIn.mono HR.out ?_
      rintro e' W3 (⟨rfl, ⟨s', hN, hI3⟩, hZ3⟩ | ⟨rfl, c3, hX3⟩)
      · obtain ⟨q', V', M'⟩ := s'
        obtain ⟨hN1, hN2, hN3⟩ := hN
        obtain ⟨hI1, hI2⟩ := hI3
        simp only at hN1 hN2 hN3 hI1 hI2
        subst hN1
        have hkp : Kp M w5 W3 := hN2.trans (hI1.mono (fun _ h => h.elim))
        have HJ3 : Hid (J (q + 1) M' W3) := hI2
        have HZ3 : Hid (Z W3) := hZ3
        have hg5 := kept_block HB5.out HGq.out
        have HG3 : Hid (W3.heap[w2.heap.size]? = some (.cells (rowCs PEnt.cells P).toArray 38 (0, 0))) := hkp.cells _ _ _ _ hg5 HMq.out.2
        have HO3 : Hid (∀ p ∈ P, OwnOps W3 p.x p.e.ops) := fun p hp => owns_kp (owns_below (HOq.out p hp) HB5.out) hkp (HMq.out.1 p hp)
        have HM3 : Hid ((∀ p ∈ P, ∀ k, p.x.ownBlock = some k → ¬ M' k) ∧ ¬ M' w2.heap.size) := by
          refine ⟨fun p hp k hk hm => ?_, fun hm => ?_⟩
          · rcases hN3 k hm with h1 | h1
            · exact HMq.out.1 p hp k hk h1
            · have h2 := (owns_below (HOq.out p hp) HB5.out).lt k hk
              omega
          · rcases hN3 _ hm with h1 | h1
            · exact HMq.out.2 h1
            · have h2 := lt_of_blk hg5
              omega
        clear hkp hI1 hI2 hZ3 hN2 hN3 hg5
        gi_wp2
        gi_roundg (m - (q + 1))
        case rel => exact ⟨q + 1, M', rfl, by go_num, by omega, HM3, HJ3, HZ3, HG3, HO3⟩
        case measure => omega
      · have HX3 : Hid _ := hX3
        clear hX3
        gi_wp2
        refine bodyPost_ret (results_none rfl _ _ _) rfl ?_
        exact ⟨⟨_, rfl⟩, .inr ⟨c3, HX3.out⟩⟩
    · obtain rfl : q = m := by omega
      gi_wp2
      refine bodyPost_end (results_none rfl _ _ _) rfl ?_
      exact ⟨⟨_, rfl⟩, .inl ⟨HEJ.out M _ (by rw [HM.out]; exact HJq.out), HZq.out⟩⟩
end Go.Proofs.Ytnmengoefpdaiaa
