/-
  played: Hold and Cut, at any ring.
-/
import Derived.Test.YtonppfnjeomcoaaRAskedG
namespace Go.Proofs.Ytonppfnjeomcoaa
open Go.RowKit Classical
set_option linter.unusedVariables false
set_option linter.unusedSimpArgs false

theorem rHoldG {w0 : World} (w : World) (bx : Nat) (n : Int) {R : RingT} {F : Nat} {O : Int} {H : List EnT} {P : List PEnt} {la : Option Addr} {lc : Nat} (h : RefAt w0 w bx R F O H P la lc) :
    Calls Try.prog 44 #[.pointer (some ⟨bx, 0, none⟩), .int .i64 n] w fun e w' => e = .returned (.int .i64 (R.free n)) ∧ (∃ H' P', H'.length ≤ H.length ∧ RefAt w0 w' bx (if R.free n = 0 then { R with hold := n.toNat } else R) F O H' P' la lc) ∧ XStep w0 w w' bx la := by
  by_cases hc : R.free n = 0
  · rw [if_pos hc, hc]
    refine (rHold_ok w bx n h hc).mono ?_
    rintro e w' ⟨rfl, h1, h2⟩
    exact ⟨rfl, ⟨H, P, Nat.le_refl _, h1⟩, h2⟩
  · rw [if_neg hc]
    refine (rHold_no w bx n h hc).mono ?_
    rintro e w' ⟨rfl, hb⟩
    exact ⟨rfl, ⟨H, P, Nat.le_refl _, h.below hb⟩, XStep.of_below hb⟩
theorem rCutG {w0 : World} (w : World) (bx : Nat) (n : Int) {R : RingT} {F : Nat} {O : Int} {H : List EnT} {P : List PEnt} {la : Option Addr} {lc : Nat} (h : RefAt w0 w bx R F O H P la lc) :
    Calls Try.prog 45 #[.pointer (some ⟨bx, 0, none⟩), .int .i64 n] w fun e w' => e = .returned (.int .i64 (R.free n)) ∧ (∃ H' P', H'.length ≤ H.length ∧ RefAt w0 w' bx (if R.free n = 0 then R.cut n else R) F O H' P' la lc) ∧ XStep w0 w w' bx la := by
  by_cases hc : R.free n = 0
  · rw [if_pos hc, hc]
    refine (rCut_ok w bx n h hc).mono ?_
    rintro e w' ⟨rfl, h1, h2⟩
    exact ⟨rfl, ⟨_, _, by rw [List.length_take]; omega, h1⟩, h2⟩
  · rw [if_neg hc]
    refine (rCut_no w bx n h hc).mono ?_
    rintro e w' ⟨rfl, hb⟩
    exact ⟨rfl, ⟨H, P, Nat.le_refl _, h.below hb⟩, XStep.of_below hb⟩
/-- A call of the ring leaves the document's. -/
theorem RefAt.ring {w0 w w' : World} {b bx : Nat} {R R0 : RingT} {F : Nat} {O : Int} {H : List EnT} {P : List PEnt} {la : Option Addr} {lc : Nat} (h : RefAt w0 w bx R F O H P la lc) (hr : RingAt w b R0) (hc : Chg w w' (fun k => (some ⟨b, 0, none⟩ : Option Addr) = some ⟨k, 0, none⟩)) : RefAt w0 w' bx R F O H P la lc := by
  have hk : Kp (fun k => (some ⟨b, 0, none⟩ : Option Addr) = some ⟨k, 0, none⟩) w w' := Kp.of_chg hc
  obtain ⟨cs, hx, _⟩ := hr.box
  refine ⟨hk.cells _ _ _ _ h.box (fun e => ?_), h.es, h.mem.other hr hc, h.hist, h.st, h.ok, h.pos, h.lo, h.small⟩
  cases e
  have := h.box
  rw [hx] at this
  cases this
/-- A call of the document's ring leaves the ring. -/
theorem RefAt.types {w0 w : World} {bx : Nat} {R : RingT} {F : Nat} {O : Int} {H : List EnT} {P : List PEnt} {la : Option Addr} {lc : Nat} (h : RefAt w0 w bx R F O H P la lc) {x : Nat} {cs : Array Value} {t : TypeId} {fr : Nat × Nat} (hx : w.heap[x]? = some (.cells cs t fr)) (hs : XS bx la x) : t = 64 ∨ (t = 33 ∧ x < w.heap.size ∧ x ≠ bx) := by
  rcases hs with rfl | ⟨o, rfl⟩
  · rw [h.box] at hx
    cases hx
    exact .inl rfl
  · rcases h.mem.row.2 with ⟨h0, _⟩ | ⟨g, cap, cur, hv, _, hg, _⟩
    · simp only [Value.slice.injEq] at h0
      cases h0.1
    · simp only [Value.slice.injEq, Option.some.injEq] at hv
      have hgx : x = g := by have := hv.1; cases this; rfl
      subst hgx
      rw [hg] at hx
      cases hx
      refine .inr ⟨rfl, lt_of_blk hg, fun e => ?_⟩
      rw [e, h.box] at hg
      cases hg
theorem RingAt.ref {w0 w w' : World} {b bx : Nat} {R R0 : RingT} {F : Nat} {O : Int} {H : List EnT} {P : List PEnt} {la : Option Addr} {lc : Nat} (hr : RingAt w b R0) (h : RefAt w0 w bx R F O H P la lc) (hk : Kp (XS bx la) w w') : RingAt w' b R0 := by
  refine hr.kp hk (fun e => ?_) (fun k cs fr hx hs => ?_)
  · obtain ⟨cs, hx, _⟩ := hr.box
    rcases h.types hx e with h1 | ⟨h1, _⟩
    · exact absurd h1 (by decide)
    · exact absurd h1 (by decide)
  · rcases h.types hx hs with h1 | ⟨h1, _⟩
    · exact absurd h1 (by decide)
    · exact absurd h1 (by decide)
/-- What a played act leaves. -/
def PlOk (w0 : World) (b bx : Nat) (F : Nat) (O : Int) (m : Nat) (w' : World) : Prop := ∃ R' H' P' la' lc', RingAt w' b R' ∧ RefAt w0 w' bx R' F O H' P' la' lc' ∧ H'.length ≤ m ∧ Below w0.heap.size w0 w'
set_option maxHeartbeats 3200000 in
set_option maxRecDepth 100000 in
theorem played_3G {w0 : World} (b bx : Nat) (A : ActT) (a : Option Addr) (c n : Nat) (w : World) {R : RingT} {F : Nat} {O : Int} {H : List EnT} {P : List PEnt} {la : Option Addr} {lc : Nat} (h : RingAt w b R) (hx : RefAt w0 w bx R F O H P la lc) (hw : Below w0.heap.size w0 w) (hb0 : w0.heap.size ≤ b) (hk : A.kd = 3) :
    Calls Try.prog 24 #[.pointer (some ⟨b, 0, none⟩), .pointer (some ⟨bx, 0, none⟩), A.val (.slice a n c)] w fun e' w' => e' = .returned (.bool true) ∧ PlOk w0 b bx F O (H.length + 1) w' := by
  obtain ⟨kd, N, M, e⟩ := A
  have hk' : kd = 3 := hk
  clear hk
  subst hk'
  have HRG : Hid (∀ w', Below w.heap.size w w' → RingAt w' b R) := fun w' hb => h.below hb
  have HRF : Hid (∀ w', Below w.heap.size w w' → RefAt w0 w' bx R F O H P la lc) := fun w' hb => hx.below hb
  have HXF : Hid (∀ w', Below w.heap.size w w' → _) := fun w' hb => rFloor w' bx (hx.below hb)
  have HXL : Hid (∀ w', Below w.heap.size w w' → _) := fun w' hb => rLast w' bx (hx.below hb)
  have HW : Hid (Below w0.heap.size w0 w ∧ w0.heap.size ≤ b ∧ b < w.heap.size) := ⟨hw, hb0, h.lt⟩
  have HHD : Hid (∀ w', RefAt w0 w' bx R F O H P la lc → _) := fun w' h' => rHeld w' bx h'
  have HH : Hid (∀ w' m, RingAt w' b R → _) := fun w' m h' => hold_any (some ⟨b, 0, none⟩) R m w' (.inr ⟨b, rfl, h'⟩)
  have HXH : Hid (∀ w' m, RefAt w0 w' bx R F O H P la lc → _) := fun w' m h' => rHoldG w' bx m h'
  obtain ⟨L, hL⟩ : ∃ L : Int, ((R.last : Nat) : Int) = L := ⟨_, rfl⟩
  obtain ⟨T, hT⟩ : ∃ T : Int, R.top = T := ⟨_, rfl⟩
  rw [hL, hT] at HXL
  clear h hx hw hb0 hL hT
  go_enter Try.func24, Try.ntmps24
  go_wp2_with fail
  refine Calls.mono (HXL.out _ ((Below.refl _ _).alloc (Nat.le_refl _) _)) ?_
  rintro e' w1 ⟨rfl, hb1⟩
  have HB1 : Hid (Below w.heap.size w w1) := trans2 ((Below.refl _ _).alloc (Nat.le_refl _) _) hb1
  have HP1 : Hid (w1.heap[w.heap.size]? = some (.cells #[.int .i64 3, .int .i64 N, .int .i64 M, .int .i64 e.s, .int .i64 e.v, .int .i64 e.k, .int .i64 e.se, .int .i64 e.rq, .slice a n c] 55 (0, 0))) := kept_block hb1 (heap_alloc_new _ _)
  clear hb1
  go_wp2_with fail
  refine Calls.mono (HXF.out _ HB1.out) ?_
  rintro e' w2 ⟨rfl, hb2⟩
  have HB2 : Hid (Below w.heap.size w w2) := trans2 HB1.out hb2
  have HP2 : Hid (w2.heap[w.heap.size]? = some (.cells #[.int .i64 3, .int .i64 N, .int .i64 M, .int .i64 e.s, .int .i64 e.v, .int .i64 e.k, .int .i64 e.se, .int .i64 e.rq, .slice a n c] 55 (0, 0))) := kept_block hb2 HP1.out
  obtain ⟨t0, t1, t2, t3, t4, t5, t6, t7, t8⟩ := cells_9 HP2.out
  clear hb2 HP1
  have HR2 : Hid (RingAt w2.drew b R) := HRG.out _ (below_drew HB2.out)
  have HF2 : Hid (RefAt w0 w2.drew bx R F O H P la lc) := HRF.out _ (below_drew HB2.out)
  go_wp2_with fail
  go_region_held3 (fun w' => w'.cell? ⟨w.heap.size, 1, none⟩ = some (.int .i64 N)) (first | (simp only [World.cell?_drew, World.cell?_drewN, t1]; done) | fail)
    (first
    | (go_at_call 44; refine (HXH.out _ _ HF3.out).mono ?_
       rintro e' w4 ⟨rfl, ⟨H4, P4, hl4, hf4⟩, hs4⟩
       have t1 : w4.cell? ⟨w.heap.size, 1, none⟩ = some (.int .i64 N) := by
         rw [cell_blk (hs4.kp.cells _ _ _ _ HP3.out (fun hs => by
           rcases HF3.out.types HP3.out hs with h1 | ⟨h1, _⟩
           · exact absurd h1 (by decide)
           · exact absurd h1 (by decide)))]
         rfl
       have HFIN : Hid (PlOk w0 b bx F O (H.length + 1) w4) := ⟨_, H4, P4, la, lc, HR3.out.ref HF3.out hs4.kp, hf4, by omega, hs4.bel HB3.out⟩
       clear hs4 hf4)
    | (go_at_call 16; refine (HH.out _ _ HR2.out).mono ?_
       rintro e' w3 ⟨rfl, hs3⟩
       have HR3 : Hid (RingAt w3 b _) := (by
         rcases hs3.rp with ⟨h, _⟩ | ⟨b', he, hr⟩
         · cases h
         · cases he; exact hr)
       have HF3 : Hid (RefAt w0 w3 bx R F O H P la lc) := HF2.out.ring HR2.out hs3.chg
       have HP3 : Hid (w3.heap[w.heap.size]? = some (.cells #[.int .i64 3, .int .i64 N, .int .i64 M, .int .i64 e.s, .int .i64 e.v, .int .i64 e.k, .int .i64 e.se, .int .i64 e.rq, .slice a n c] 55 (0, 0))) := (Kp.of_chg hs3.chg).cells _ _ _ _ HP2.out (fun e => by cases e; have := HW.out.2.2; omega)
       have HB3 : Hid (Below w0.heap.size w0 w3) := (trans2 HW.out.1 (below_drew HB2.out)).trans (hs3.chg.below (trans2 HW.out.1 (below_drew HB2.out)).size (fun k _ e => by cases e; exact HW.out.2.1))
       have t1 : w3.cell? ⟨w.heap.size, 1, none⟩ = some (.int .i64 N) := by rw [cell_blk HP3.out]; rfl
       clear hs3)
    | (go_at_call 43; refine (HHD.out _ (by first | exact HF3.out | exact HF2.out)).mono ?_
       rintro e' w9 ⟨rfl, rfl⟩))
  go_wp2_with fail
  go_ret
  exact ⟨by simp, HFIN.out⟩
set_option maxHeartbeats 3200000 in
set_option maxRecDepth 100000 in
theorem played_4G {w0 : World} (b bx : Nat) (A : ActT) (a : Option Addr) (c n : Nat) (w : World) {R : RingT} {F : Nat} {O : Int} {H : List EnT} {P : List PEnt} {la : Option Addr} {lc : Nat} (h : RingAt w b R) (hx : RefAt w0 w bx R F O H P la lc) (hw : Below w0.heap.size w0 w) (hb0 : w0.heap.size ≤ b) (hk : A.kd = 4) :
    Calls Try.prog 24 #[.pointer (some ⟨b, 0, none⟩), .pointer (some ⟨bx, 0, none⟩), A.val (.slice a n c)] w fun e' w' => e' = .returned (.bool true) ∧ PlOk w0 b bx F O (H.length + 1) w' := by
  obtain ⟨kd, N, M, e⟩ := A
  have hk' : kd = 4 := hk
  clear hk
  subst hk'
  have HRG : Hid (∀ w', Below w.heap.size w w' → RingAt w' b R) := fun w' hb => h.below hb
  have HRF : Hid (∀ w', Below w.heap.size w w' → RefAt w0 w' bx R F O H P la lc) := fun w' hb => hx.below hb
  have HXF : Hid (∀ w', Below w.heap.size w w' → _) := fun w' hb => rFloor w' bx (hx.below hb)
  have HXL : Hid (∀ w', Below w.heap.size w w' → _) := fun w' hb => rLast w' bx (hx.below hb)
  have HW : Hid (Below w0.heap.size w0 w ∧ w0.heap.size ≤ b ∧ b < w.heap.size) := ⟨hw, hb0, h.lt⟩
  have HHD : Hid (∀ w', RefAt w0 w' bx R F O H P la lc → _) := fun w' h' => rHeld w' bx h'
  have HH : Hid (∀ w' m, RingAt w' b R → _) := fun w' m h' => hold_any (some ⟨b, 0, none⟩) R m w' (.inr ⟨b, rfl, h'⟩)
  have HXH : Hid (∀ w' m, RefAt w0 w' bx R F O H P la lc → _) := fun w' m h' => rHoldG w' bx m h'
  obtain ⟨L, hL⟩ : ∃ L : Int, ((R.last : Nat) : Int) = L := ⟨_, rfl⟩
  obtain ⟨T, hT⟩ : ∃ T : Int, R.top = T := ⟨_, rfl⟩
  rw [hL, hT] at HXL
  clear h hx hw hb0 hL hT
  go_enter Try.func24, Try.ntmps24
  go_wp2_with fail
  refine Calls.mono (HXL.out _ ((Below.refl _ _).alloc (Nat.le_refl _) _)) ?_
  rintro e' w1 ⟨rfl, hb1⟩
  have HB1 : Hid (Below w.heap.size w w1) := trans2 ((Below.refl _ _).alloc (Nat.le_refl _) _) hb1
  have HP1 : Hid (w1.heap[w.heap.size]? = some (.cells #[.int .i64 4, .int .i64 N, .int .i64 M, .int .i64 e.s, .int .i64 e.v, .int .i64 e.k, .int .i64 e.se, .int .i64 e.rq, .slice a n c] 55 (0, 0))) := kept_block hb1 (heap_alloc_new _ _)
  clear hb1
  go_wp2_with fail
  refine Calls.mono (HXF.out _ HB1.out) ?_
  rintro e' w2 ⟨rfl, hb2⟩
  have HB2 : Hid (Below w.heap.size w w2) := trans2 HB1.out hb2
  have HP2 : Hid (w2.heap[w.heap.size]? = some (.cells #[.int .i64 4, .int .i64 N, .int .i64 M, .int .i64 e.s, .int .i64 e.v, .int .i64 e.k, .int .i64 e.se, .int .i64 e.rq, .slice a n c] 55 (0, 0))) := kept_block hb2 HP1.out
  obtain ⟨t0, t1, t2, t3, t4, t5, t6, t7, t8⟩ := cells_9 HP2.out
  clear hb2 HP1
  have HR2 : Hid (RingAt w2.drew b R) := HRG.out _ (below_drew HB2.out)
  have HF2 : Hid (RefAt w0 w2.drew bx R F O H P la lc) := HRF.out _ (below_drew HB2.out)
  go_wp2_with fail
  go_region_held3 (fun w' => w'.cell? ⟨w.heap.size, 1, none⟩ = some (.int .i64 N)) (first | (simp only [World.cell?_drew, World.cell?_drewN, t1]; done) | fail)
    (first
    | (go_at_call 44; refine (HXH.out _ _ HF3.out).mono ?_
       rintro e' w4 ⟨rfl, ⟨H4, P4, hl4, hf4⟩, hs4⟩
       have t1 : w4.cell? ⟨w.heap.size, 1, none⟩ = some (.int .i64 N) := by
         rw [cell_blk (hs4.kp.cells _ _ _ _ HP3.out (fun hs => by
           rcases HF3.out.types HP3.out hs with h1 | ⟨h1, _⟩
           · exact absurd h1 (by decide)
           · exact absurd h1 (by decide)))]
         rfl
       have HFIN : Hid (PlOk w0 b bx F O (H.length + 1) w4) := ⟨_, H4, P4, la, lc, HR3.out.ref HF3.out hs4.kp, hf4, by omega, hs4.bel HB3.out⟩
       clear hs4 hf4)
    | (go_at_call 16; refine (HH.out _ _ HR2.out).mono ?_
       rintro e' w3 ⟨rfl, hs3⟩
       have HR3 : Hid (RingAt w3 b _) := (by
         rcases hs3.rp with ⟨h, _⟩ | ⟨b', he, hr⟩
         · cases h
         · cases he; exact hr)
       have HF3 : Hid (RefAt w0 w3 bx R F O H P la lc) := HF2.out.ring HR2.out hs3.chg
       have HP3 : Hid (w3.heap[w.heap.size]? = some (.cells #[.int .i64 4, .int .i64 N, .int .i64 M, .int .i64 e.s, .int .i64 e.v, .int .i64 e.k, .int .i64 e.se, .int .i64 e.rq, .slice a n c] 55 (0, 0))) := (Kp.of_chg hs3.chg).cells _ _ _ _ HP2.out (fun e => by cases e; have := HW.out.2.2; omega)
       have HB3 : Hid (Below w0.heap.size w0 w3) := (trans2 HW.out.1 (below_drew HB2.out)).trans (hs3.chg.below (trans2 HW.out.1 (below_drew HB2.out)).size (fun k _ e => by cases e; exact HW.out.2.1))
       have t1 : w3.cell? ⟨w.heap.size, 1, none⟩ = some (.int .i64 N) := by rw [cell_blk HP3.out]; rfl
       clear hs3))
  go_wp2_with fail
  go_ret
  exact ⟨by simp, HFIN.out⟩
set_option maxHeartbeats 3200000 in
set_option maxRecDepth 100000 in
theorem played_5G {w0 : World} (b bx : Nat) (A : ActT) (a : Option Addr) (c n : Nat) (w : World) {R : RingT} {F : Nat} {O : Int} {H : List EnT} {P : List PEnt} {la : Option Addr} {lc : Nat} (h : RingAt w b R) (hx : RefAt w0 w bx R F O H P la lc) (hw : Below w0.heap.size w0 w) (hb0 : w0.heap.size ≤ b) (hk : A.kd = 5) :
    Calls Try.prog 24 #[.pointer (some ⟨b, 0, none⟩), .pointer (some ⟨bx, 0, none⟩), A.val (.slice a n c)] w fun e' w' => e' = .returned (.bool true) ∧ PlOk w0 b bx F O (H.length + 1) w' := by
  obtain ⟨kd, N, M, e⟩ := A
  have hk' : kd = 5 := hk
  clear hk
  subst hk'
  have HRG : Hid (∀ w', Below w.heap.size w w' → RingAt w' b R) := fun w' hb => h.below hb
  have HRF : Hid (∀ w', Below w.heap.size w w' → RefAt w0 w' bx R F O H P la lc) := fun w' hb => hx.below hb
  have HXF : Hid (∀ w', Below w.heap.size w w' → _) := fun w' hb => rFloor w' bx (hx.below hb)
  have HXL : Hid (∀ w', Below w.heap.size w w' → _) := fun w' hb => rLast w' bx (hx.below hb)
  have HW : Hid (Below w0.heap.size w0 w ∧ w0.heap.size ≤ b ∧ b < w.heap.size) := ⟨hw, hb0, h.lt⟩
  have HHD : Hid (∀ w', RefAt w0 w' bx R F O H P la lc → _) := fun w' h' => rHeld w' bx h'
  have HH : Hid (∀ w' m, RingAt w' b R → _) := fun w' m h' => cut_any (some ⟨b, 0, none⟩) R m w' (.inr ⟨b, rfl, h'⟩)
  have HXH : Hid (∀ w' m, RefAt w0 w' bx R F O H P la lc → _) := fun w' m h' => rCutG w' bx m h'
  obtain ⟨L, hL⟩ : ∃ L : Int, ((R.last : Nat) : Int) = L := ⟨_, rfl⟩
  obtain ⟨T, hT⟩ : ∃ T : Int, R.top = T := ⟨_, rfl⟩
  rw [hL, hT] at HXL
  clear h hx hw hb0 hL hT
  go_enter Try.func24, Try.ntmps24
  go_wp2_with fail
  refine Calls.mono (HXL.out _ ((Below.refl _ _).alloc (Nat.le_refl _) _)) ?_
  rintro e' w1 ⟨rfl, hb1⟩
  have HB1 : Hid (Below w.heap.size w w1) := trans2 ((Below.refl _ _).alloc (Nat.le_refl _) _) hb1
  have HP1 : Hid (w1.heap[w.heap.size]? = some (.cells #[.int .i64 5, .int .i64 N, .int .i64 M, .int .i64 e.s, .int .i64 e.v, .int .i64 e.k, .int .i64 e.se, .int .i64 e.rq, .slice a n c] 55 (0, 0))) := kept_block hb1 (heap_alloc_new _ _)
  clear hb1
  go_wp2_with fail
  refine Calls.mono (HXF.out _ HB1.out) ?_
  rintro e' w2 ⟨rfl, hb2⟩
  have HB2 : Hid (Below w.heap.size w w2) := trans2 HB1.out hb2
  have HP2 : Hid (w2.heap[w.heap.size]? = some (.cells #[.int .i64 5, .int .i64 N, .int .i64 M, .int .i64 e.s, .int .i64 e.v, .int .i64 e.k, .int .i64 e.se, .int .i64 e.rq, .slice a n c] 55 (0, 0))) := kept_block hb2 HP1.out
  obtain ⟨t0, t1, t2, t3, t4, t5, t6, t7, t8⟩ := cells_9 HP2.out
  clear hb2 HP1
  have HR2 : Hid (RingAt w2.drew b R) := HRG.out _ (below_drew HB2.out)
  have HF2 : Hid (RefAt w0 w2.drew bx R F O H P la lc) := HRF.out _ (below_drew HB2.out)
  go_wp2_with fail
  go_region_held3 (fun w' => w'.cell? ⟨w.heap.size, 1, none⟩ = some (.int .i64 N)) (first | (simp only [World.cell?_drew, World.cell?_drewN, t1]; done) | fail)
    (first
    | (go_at_call 45; refine (HXH.out _ _ HF3.out).mono ?_
       rintro e' w4 ⟨rfl, ⟨H4, P4, hl4, hf4⟩, hs4⟩
       have t1 : w4.cell? ⟨w.heap.size, 1, none⟩ = some (.int .i64 N) := by
         rw [cell_blk (hs4.kp.cells _ _ _ _ HP3.out (fun hs => by
           rcases HF3.out.types HP3.out hs with h1 | ⟨h1, _⟩
           · exact absurd h1 (by decide)
           · exact absurd h1 (by decide)))]
         rfl
       have HFIN : Hid (PlOk w0 b bx F O (H.length + 1) w4) := ⟨_, H4, P4, la, lc, HR3.out.ref HF3.out hs4.kp, hf4, by omega, hs4.bel HB3.out⟩
       clear hs4 hf4)
    | (go_at_call 38; refine (HH.out _ _ HR2.out).mono ?_
       rintro e' w3 ⟨rfl, hs3⟩
       have HR3 : Hid (RingAt w3 b _) := (by
         rcases hs3.rp with ⟨h, _⟩ | ⟨b', he, hr⟩
         · cases h
         · cases he; exact hr)
       have HF3 : Hid (RefAt w0 w3 bx R F O H P la lc) := HF2.out.ring HR2.out hs3.chg
       have HP3 : Hid (w3.heap[w.heap.size]? = some (.cells #[.int .i64 5, .int .i64 N, .int .i64 M, .int .i64 e.s, .int .i64 e.v, .int .i64 e.k, .int .i64 e.se, .int .i64 e.rq, .slice a n c] 55 (0, 0))) := (Kp.of_chg hs3.chg).cells _ _ _ _ HP2.out (fun e => by cases e; have := HW.out.2.2; omega)
       have HB3 : Hid (Below w0.heap.size w0 w3) := (trans2 HW.out.1 (below_drew HB2.out)).trans (hs3.chg.below (trans2 HW.out.1 (below_drew HB2.out)).size (fun k _ e => by cases e; exact HW.out.2.1))
       have t1 : w3.cell? ⟨w.heap.size, 1, none⟩ = some (.int .i64 N) := by rw [cell_blk HP3.out]; rfl
       clear hs3))
  go_wp2_with fail
  go_ret
  exact ⟨by simp, HFIN.out⟩
set_option maxHeartbeats 3200000 in
set_option maxRecDepth 100000 in
theorem played_6G {w0 : World} (b bx : Nat) (A : ActT) (a : Option Addr) (c n : Nat) (w : World) {R : RingT} {F : Nat} {O : Int} {H : List EnT} {P : List PEnt} {la : Option Addr} {lc : Nat} (h : RingAt w b R) (hx : RefAt w0 w bx R F O H P la lc) (hw : Below w0.heap.size w0 w) (hb0 : w0.heap.size ≤ b) (hk : A.kd = 6) :
    Calls Try.prog 24 #[.pointer (some ⟨b, 0, none⟩), .pointer (some ⟨bx, 0, none⟩), A.val (.slice a n c)] w fun e' w' => e' = .returned (.bool true) ∧ PlOk w0 b bx F O (H.length + 1) w' := by
  obtain ⟨kd, N, M, e⟩ := A
  have hk' : kd = 6 := hk
  clear hk
  subst hk'
  have HRG : Hid (∀ w', Below w.heap.size w w' → RingAt w' b R) := fun w' hb => h.below hb
  have HRF : Hid (∀ w', Below w.heap.size w w' → RefAt w0 w' bx R F O H P la lc) := fun w' hb => hx.below hb
  have HXF : Hid (∀ w', Below w.heap.size w w' → _) := fun w' hb => rFloor w' bx (hx.below hb)
  have HXL : Hid (∀ w', Below w.heap.size w w' → _) := fun w' hb => rLast w' bx (hx.below hb)
  have HW : Hid (Below w0.heap.size w0 w ∧ w0.heap.size ≤ b ∧ b < w.heap.size) := ⟨hw, hb0, h.lt⟩
  have HHD : Hid (∀ w', RefAt w0 w' bx R F O H P la lc → _) := fun w' h' => rHeld w' bx h'
  have HH : Hid (∀ w' m, RingAt w' b R → _) := fun w' m h' => cut_any (some ⟨b, 0, none⟩) R m w' (.inr ⟨b, rfl, h'⟩)
  have HXH : Hid (∀ w' m, RefAt w0 w' bx R F O H P la lc → _) := fun w' m h' => rCutG w' bx m h'
  obtain ⟨L, hL⟩ : ∃ L : Int, ((R.last : Nat) : Int) = L := ⟨_, rfl⟩
  obtain ⟨T, hT⟩ : ∃ T : Int, R.top = T := ⟨_, rfl⟩
  rw [hL, hT] at HXL
  clear h hx hw hb0 hL hT
  go_enter Try.func24, Try.ntmps24
  go_wp2_with fail
  refine Calls.mono (HXL.out _ ((Below.refl _ _).alloc (Nat.le_refl _) _)) ?_
  rintro e' w1 ⟨rfl, hb1⟩
  have HB1 : Hid (Below w.heap.size w w1) := trans2 ((Below.refl _ _).alloc (Nat.le_refl _) _) hb1
  have HP1 : Hid (w1.heap[w.heap.size]? = some (.cells #[.int .i64 6, .int .i64 N, .int .i64 M, .int .i64 e.s, .int .i64 e.v, .int .i64 e.k, .int .i64 e.se, .int .i64 e.rq, .slice a n c] 55 (0, 0))) := kept_block hb1 (heap_alloc_new _ _)
  clear hb1
  go_wp2_with fail
  refine Calls.mono (HXF.out _ HB1.out) ?_
  rintro e' w2 ⟨rfl, hb2⟩
  have HB2 : Hid (Below w.heap.size w w2) := trans2 HB1.out hb2
  have HP2 : Hid (w2.heap[w.heap.size]? = some (.cells #[.int .i64 6, .int .i64 N, .int .i64 M, .int .i64 e.s, .int .i64 e.v, .int .i64 e.k, .int .i64 e.se, .int .i64 e.rq, .slice a n c] 55 (0, 0))) := kept_block hb2 HP1.out
  obtain ⟨t0, t1, t2, t3, t4, t5, t6, t7, t8⟩ := cells_9 HP2.out
  clear hb2 HP1
  have HR2 : Hid (RingAt w2.drew b R) := HRG.out _ (below_drew HB2.out)
  have HF2 : Hid (RefAt w0 w2.drew bx R F O H P la lc) := HRF.out _ (below_drew HB2.out)
  go_wp2_with fail
  go_region_held3 (fun w' => w'.cell? ⟨w.heap.size, 1, none⟩ = some (.int .i64 N)) (first | (simp only [World.cell?_drew, World.cell?_drewN, t1]; done) | fail)
    (first
    | (go_at_call 45; refine (HXH.out _ _ HF3.out).mono ?_
       rintro e' w4 ⟨rfl, ⟨H4, P4, hl4, hf4⟩, hs4⟩
       have t1 : w4.cell? ⟨w.heap.size, 1, none⟩ = some (.int .i64 N) := by
         rw [cell_blk (hs4.kp.cells _ _ _ _ HP3.out (fun hs => by
           rcases HF3.out.types HP3.out hs with h1 | ⟨h1, _⟩
           · exact absurd h1 (by decide)
           · exact absurd h1 (by decide)))]
         rfl
       have HFIN : Hid (PlOk w0 b bx F O (H.length + 1) w4) := ⟨_, H4, P4, la, lc, HR3.out.ref HF3.out hs4.kp, hf4, by omega, hs4.bel HB3.out⟩
       clear hs4 hf4)
    | (go_at_call 38; refine (HH.out _ _ HR2.out).mono ?_
       rintro e' w3 ⟨rfl, hs3⟩
       have HR3 : Hid (RingAt w3 b _) := (by
         rcases hs3.rp with ⟨h, _⟩ | ⟨b', he, hr⟩
         · cases h
         · cases he; exact hr)
       have HF3 : Hid (RefAt w0 w3 bx R F O H P la lc) := HF2.out.ring HR2.out hs3.chg
       have HP3 : Hid (w3.heap[w.heap.size]? = some (.cells #[.int .i64 6, .int .i64 N, .int .i64 M, .int .i64 e.s, .int .i64 e.v, .int .i64 e.k, .int .i64 e.se, .int .i64 e.rq, .slice a n c] 55 (0, 0))) := (Kp.of_chg hs3.chg).cells _ _ _ _ HP2.out (fun e => by cases e; have := HW.out.2.2; omega)
       have HB3 : Hid (Below w0.heap.size w0 w3) := (trans2 HW.out.1 (below_drew HB2.out)).trans (hs3.chg.below (trans2 HW.out.1 (below_drew HB2.out)).size (fun k _ e => by cases e; exact HW.out.2.1))
       have t1 : w3.cell? ⟨w.heap.size, 1, none⟩ = some (.int .i64 N) := by rw [cell_blk HP3.out]; rfl
       clear hs3))
  go_wp2_with fail
  go_ret
  exact ⟨by simp, HFIN.out⟩

set_option maxHeartbeats 3200000 in
set_option maxRecDepth 100000 in
theorem played_7G {w0 : World} (b bx : Nat) (A : ActT) (a : Option Addr) (c n : Nat) (w : World) {R : RingT} {F : Nat} {O : Int} {H : List EnT} {P : List PEnt} {la : Option Addr} {lc : Nat} (h : RingAt w b R) (hx : RefAt w0 w bx R F O H P la lc) (hk : A.kd = 7) :
    Calls Try.prog 24 #[.pointer (some ⟨b, 0, none⟩), .pointer (some ⟨bx, 0, none⟩), A.val (.slice a n c)] w fun e' w' => e' = .returned (.bool true) ∧ Below w.heap.size w w' := by
  obtain ⟨kd, N, M, e⟩ := A
  have hk' : kd = 7 := hk
  clear hk
  subst hk'
  have HXF : Hid (∀ w', Below w.heap.size w w' → _) := fun w' hb => rFloor w' bx (hx.below hb)
  have HXL : Hid (∀ w', Below w.heap.size w w' → _) := fun w' hb => rLast w' bx (hx.below hb)
  have HAS : Hid (∀ w' m, Below w.heap.size w w' → _) := fun w' m hb => askedG b bx ⟨7, N, M, e⟩ (.slice a n c) m w' (h.below hb) (hx.below hb)
  obtain ⟨L, hL⟩ : ∃ L : Int, ((R.last : Nat) : Int) = L := ⟨_, rfl⟩
  obtain ⟨T, hT⟩ : ∃ T : Int, R.top = T := ⟨_, rfl⟩
  obtain ⟨fl, hfl⟩ : ∃ fl : Int, (R.floor : Int) = fl := ⟨_, rfl⟩
  obtain ⟨of, hof⟩ : ∃ of : Int, R.of = of := ⟨_, rfl⟩
  rw [hL, hT] at HXL
  rw [hfl, hof] at HXF
  clear h hx hL hT hfl hof
  go_enter Try.func24, Try.ntmps24
  go_wp2_with fail
  refine Calls.mono (HXL.out _ ((Below.refl _ _).alloc (Nat.le_refl _) _)) ?_
  rintro e' w1 ⟨rfl, hb1⟩
  have HB1 : Hid (Below w.heap.size w w1) := trans2 ((Below.refl _ _).alloc (Nat.le_refl _) _) hb1
  have HP1 : Hid (w1.heap[w.heap.size]? = some (.cells #[.int .i64 7, .int .i64 N, .int .i64 M, .int .i64 e.s, .int .i64 e.v, .int .i64 e.k, .int .i64 e.se, .int .i64 e.rq, .slice a n c] 55 (0, 0))) := kept_block hb1 (heap_alloc_new _ _)
  clear hb1
  go_wp2_with fail
  refine Calls.mono (HXF.out _ HB1.out) ?_
  rintro e' w2 ⟨rfl, hb2⟩
  have HB2 : Hid (Below w.heap.size w w2) := trans2 HB1.out hb2
  have HP2 : Hid (w2.heap[w.heap.size]? = some (.cells #[.int .i64 7, .int .i64 N, .int .i64 M, .int .i64 e.s, .int .i64 e.v, .int .i64 e.k, .int .i64 e.se, .int .i64 e.rq, .slice a n c] 55 (0, 0))) := kept_block hb2 HP1.out
  obtain ⟨t0, t1, t2, t3, t4, t5, t6, t7, t8⟩ := cells_9 HP2.out
  clear hb2 HP1
  go_wp2_with fail
  refine Calls.mono (HAS.out _ _ HB2.out) ?_
  rintro e' w3 ⟨rfl, hb⟩
  have HB3 : Hid (Below w.heap.size w w3) := trans2 HB2.out hb
  clear hb
  go_wp2_with fail
  go_ret
  exact ⟨rfl, HB3.out⟩
set_option maxHeartbeats 3200000 in
set_option maxRecDepth 100000 in
theorem played_8G {w0 : World} (b bx : Nat) (A : ActT) (a : Option Addr) (c n : Nat) (w : World) {R : RingT} {F : Nat} {O : Int} {H : List EnT} {P : List PEnt} {la : Option Addr} {lc : Nat} (h : RingAt w b R) (hx : RefAt w0 w bx R F O H P la lc) (hk : A.kd = 8) :
    Calls Try.prog 24 #[.pointer (some ⟨b, 0, none⟩), .pointer (some ⟨bx, 0, none⟩), A.val (.slice a n c)] w fun e' w' => e' = .returned (.bool true) ∧ Below w.heap.size w w' := by
  obtain ⟨kd, N, M, e⟩ := A
  have hk' : kd = 8 := hk
  clear hk
  subst hk'
  have HXF : Hid (∀ w', Below w.heap.size w w' → _) := fun w' hb => rFloor w' bx (hx.below hb)
  have HXL : Hid (∀ w', Below w.heap.size w w' → _) := fun w' hb => rLast w' bx (hx.below hb)
  have HAS : Hid (∀ w' m, Below w.heap.size w w' → _) := fun w' m hb => askedG b bx ⟨8, N, M, e⟩ (.slice a n c) m w' (h.below hb) (hx.below hb)
  obtain ⟨L, hL⟩ : ∃ L : Int, ((R.last : Nat) : Int) = L := ⟨_, rfl⟩
  obtain ⟨T, hT⟩ : ∃ T : Int, R.top = T := ⟨_, rfl⟩
  obtain ⟨fl, hfl⟩ : ∃ fl : Int, (R.floor : Int) = fl := ⟨_, rfl⟩
  obtain ⟨of, hof⟩ : ∃ of : Int, R.of = of := ⟨_, rfl⟩
  rw [hL, hT] at HXL
  rw [hfl, hof] at HXF
  clear h hx hL hT hfl hof
  go_enter Try.func24, Try.ntmps24
  go_wp2_with fail
  refine Calls.mono (HXL.out _ ((Below.refl _ _).alloc (Nat.le_refl _) _)) ?_
  rintro e' w1 ⟨rfl, hb1⟩
  have HB1 : Hid (Below w.heap.size w w1) := trans2 ((Below.refl _ _).alloc (Nat.le_refl _) _) hb1
  have HP1 : Hid (w1.heap[w.heap.size]? = some (.cells #[.int .i64 8, .int .i64 N, .int .i64 M, .int .i64 e.s, .int .i64 e.v, .int .i64 e.k, .int .i64 e.se, .int .i64 e.rq, .slice a n c] 55 (0, 0))) := kept_block hb1 (heap_alloc_new _ _)
  clear hb1
  go_wp2_with fail
  refine Calls.mono (HXF.out _ HB1.out) ?_
  rintro e' w2 ⟨rfl, hb2⟩
  have HB2 : Hid (Below w.heap.size w w2) := trans2 HB1.out hb2
  have HP2 : Hid (w2.heap[w.heap.size]? = some (.cells #[.int .i64 8, .int .i64 N, .int .i64 M, .int .i64 e.s, .int .i64 e.v, .int .i64 e.k, .int .i64 e.se, .int .i64 e.rq, .slice a n c] 55 (0, 0))) := kept_block hb2 HP1.out
  obtain ⟨t0, t1, t2, t3, t4, t5, t6, t7, t8⟩ := cells_9 HP2.out
  clear hb2 HP1
  go_wp2_with fail
  refine Calls.mono (HAS.out _ _ HB2.out) ?_
  rintro e' w3 ⟨rfl, hb⟩
  have HB3 : Hid (Below w.heap.size w w3) := trans2 HB2.out hb
  clear hb
  go_wp2_with fail
  go_ret
  exact ⟨rfl, HB3.out⟩
set_option maxHeartbeats 3200000 in
set_option maxRecDepth 100000 in
theorem played_9G {w0 : World} (b bx : Nat) (A : ActT) (a : Option Addr) (c n : Nat) (w : World) {R : RingT} {F : Nat} {O : Int} {H : List EnT} {P : List PEnt} {la : Option Addr} {lc : Nat} (h : RingAt w b R) (hx : RefAt w0 w bx R F O H P la lc) (hk : A.kd = 9) :
    Calls Try.prog 24 #[.pointer (some ⟨b, 0, none⟩), .pointer (some ⟨bx, 0, none⟩), A.val (.slice a n c)] w fun e' w' => e' = .returned (.bool true) ∧ Below w.heap.size w w' := by
  obtain ⟨kd, N, M, e⟩ := A
  have hk' : kd = 9 := hk
  clear hk
  subst hk'
  have HXF : Hid (∀ w', Below w.heap.size w w' → _) := fun w' hb => rFloor w' bx (hx.below hb)
  have HXL : Hid (∀ w', Below w.heap.size w w' → _) := fun w' hb => rLast w' bx (hx.below hb)
  have HAS : Hid (∀ w' m, Below w.heap.size w w' → _) := fun w' m hb => askedG b bx ⟨9, N, M, e⟩ (.slice a n c) m w' (h.below hb) (hx.below hb)
  obtain ⟨L, hL⟩ : ∃ L : Int, ((R.last : Nat) : Int) = L := ⟨_, rfl⟩
  obtain ⟨T, hT⟩ : ∃ T : Int, R.top = T := ⟨_, rfl⟩
  obtain ⟨fl, hfl⟩ : ∃ fl : Int, (R.floor : Int) = fl := ⟨_, rfl⟩
  obtain ⟨of, hof⟩ : ∃ of : Int, R.of = of := ⟨_, rfl⟩
  rw [hL, hT] at HXL
  rw [hfl, hof] at HXF
  clear h hx hL hT hfl hof
  go_enter Try.func24, Try.ntmps24
  go_wp2_with fail
  refine Calls.mono (HXL.out _ ((Below.refl _ _).alloc (Nat.le_refl _) _)) ?_
  rintro e' w1 ⟨rfl, hb1⟩
  have HB1 : Hid (Below w.heap.size w w1) := trans2 ((Below.refl _ _).alloc (Nat.le_refl _) _) hb1
  have HP1 : Hid (w1.heap[w.heap.size]? = some (.cells #[.int .i64 9, .int .i64 N, .int .i64 M, .int .i64 e.s, .int .i64 e.v, .int .i64 e.k, .int .i64 e.se, .int .i64 e.rq, .slice a n c] 55 (0, 0))) := kept_block hb1 (heap_alloc_new _ _)
  clear hb1
  go_wp2_with fail
  refine Calls.mono (HXF.out _ HB1.out) ?_
  rintro e' w2 ⟨rfl, hb2⟩
  have HB2 : Hid (Below w.heap.size w w2) := trans2 HB1.out hb2
  have HP2 : Hid (w2.heap[w.heap.size]? = some (.cells #[.int .i64 9, .int .i64 N, .int .i64 M, .int .i64 e.s, .int .i64 e.v, .int .i64 e.k, .int .i64 e.se, .int .i64 e.rq, .slice a n c] 55 (0, 0))) := kept_block hb2 HP1.out
  obtain ⟨t0, t1, t2, t3, t4, t5, t6, t7, t8⟩ := cells_9 HP2.out
  clear hb2 HP1
  go_wp2_with fail
  refine Calls.mono (HAS.out _ _ HB2.out) ?_
  rintro e' w3 ⟨rfl, hb⟩
  have HB3 : Hid (Below w.heap.size w w3) := trans2 HB2.out hb
  clear hb
  go_wp2_with fail
  go_ret
  exact ⟨rfl, HB3.out⟩
set_option maxHeartbeats 3200000 in
set_option maxRecDepth 100000 in
theorem played_10G {w0 : World} (b bx : Nat) (A : ActT) (a : Option Addr) (c n : Nat) (w : World) {R : RingT} {F : Nat} {O : Int} {H : List EnT} {P : List PEnt} {la : Option Addr} {lc : Nat} (h : RingAt w b R) (hx : RefAt w0 w bx R F O H P la lc) (hk : A.kd = 10) :
    Calls Try.prog 24 #[.pointer (some ⟨b, 0, none⟩), .pointer (some ⟨bx, 0, none⟩), A.val (.slice a n c)] w fun e' w' => e' = .returned (.bool true) ∧ Below w.heap.size w w' := by
  obtain ⟨kd, N, M, e⟩ := A
  have hk' : kd = 10 := hk
  clear hk
  subst hk'
  have HXF : Hid (∀ w', Below w.heap.size w w' → _) := fun w' hb => rFloor w' bx (hx.below hb)
  have HXL : Hid (∀ w', Below w.heap.size w w' → _) := fun w' hb => rLast w' bx (hx.below hb)
  have HAS : Hid (∀ w' m, Below w.heap.size w w' → _) := fun w' m hb => askedG b bx ⟨10, N, M, e⟩ (.slice a n c) m w' (h.below hb) (hx.below hb)
  obtain ⟨L, hL⟩ : ∃ L : Int, ((R.last : Nat) : Int) = L := ⟨_, rfl⟩
  obtain ⟨T, hT⟩ : ∃ T : Int, R.top = T := ⟨_, rfl⟩
  obtain ⟨fl, hfl⟩ : ∃ fl : Int, (R.floor : Int) = fl := ⟨_, rfl⟩
  obtain ⟨of, hof⟩ : ∃ of : Int, R.of = of := ⟨_, rfl⟩
  rw [hL, hT] at HXL
  rw [hfl, hof] at HXF
  clear h hx hL hT hfl hof
  go_enter Try.func24, Try.ntmps24
  go_wp2_with fail
  refine Calls.mono (HXL.out _ ((Below.refl _ _).alloc (Nat.le_refl _) _)) ?_
  rintro e' w1 ⟨rfl, hb1⟩
  have HB1 : Hid (Below w.heap.size w w1) := trans2 ((Below.refl _ _).alloc (Nat.le_refl _) _) hb1
  have HP1 : Hid (w1.heap[w.heap.size]? = some (.cells #[.int .i64 10, .int .i64 N, .int .i64 M, .int .i64 e.s, .int .i64 e.v, .int .i64 e.k, .int .i64 e.se, .int .i64 e.rq, .slice a n c] 55 (0, 0))) := kept_block hb1 (heap_alloc_new _ _)
  clear hb1
  go_wp2_with fail
  refine Calls.mono (HXF.out _ HB1.out) ?_
  rintro e' w2 ⟨rfl, hb2⟩
  have HB2 : Hid (Below w.heap.size w w2) := trans2 HB1.out hb2
  have HP2 : Hid (w2.heap[w.heap.size]? = some (.cells #[.int .i64 10, .int .i64 N, .int .i64 M, .int .i64 e.s, .int .i64 e.v, .int .i64 e.k, .int .i64 e.se, .int .i64 e.rq, .slice a n c] 55 (0, 0))) := kept_block hb2 HP1.out
  obtain ⟨t0, t1, t2, t3, t4, t5, t6, t7, t8⟩ := cells_9 HP2.out
  clear hb2 HP1
  go_wp2_with fail
  refine Calls.mono (HAS.out _ _ HB2.out) ?_
  rintro e' w3 ⟨rfl, hb⟩
  have HB3 : Hid (Below w.heap.size w w3) := trans2 HB2.out hb
  clear hb
  go_wp2_with fail
  go_ret
  exact ⟨rfl, HB3.out⟩
set_option maxHeartbeats 3200000 in
set_option maxRecDepth 100000 in
theorem played_11G {w0 : World} (b bx : Nat) (A : ActT) (a : Option Addr) (c n : Nat) (w : World) {R : RingT} {F : Nat} {O : Int} {H : List EnT} {P : List PEnt} {la : Option Addr} {lc : Nat} (h : RingAt w b R) (hx : RefAt w0 w bx R F O H P la lc) (hk : A.kd = 11) :
    Calls Try.prog 24 #[.pointer (some ⟨b, 0, none⟩), .pointer (some ⟨bx, 0, none⟩), A.val (.slice a n c)] w fun e' w' => e' = .returned (.bool true) ∧ Below w.heap.size w w' := by
  obtain ⟨kd, N, M, e⟩ := A
  have hk' : kd = 11 := hk
  clear hk
  subst hk'
  have HXF : Hid (∀ w', Below w.heap.size w w' → _) := fun w' hb => rFloor w' bx (hx.below hb)
  have HXL : Hid (∀ w', Below w.heap.size w w' → _) := fun w' hb => rLast w' bx (hx.below hb)
  have HAS : Hid (∀ w' m, Below w.heap.size w w' → _) := fun w' m hb => askedG b bx ⟨11, N, M, e⟩ (.slice a n c) m w' (h.below hb) (hx.below hb)
  obtain ⟨L, hL⟩ : ∃ L : Int, ((R.last : Nat) : Int) = L := ⟨_, rfl⟩
  obtain ⟨T, hT⟩ : ∃ T : Int, R.top = T := ⟨_, rfl⟩
  obtain ⟨fl, hfl⟩ : ∃ fl : Int, (R.floor : Int) = fl := ⟨_, rfl⟩
  obtain ⟨of, hof⟩ : ∃ of : Int, R.of = of := ⟨_, rfl⟩
  rw [hL, hT] at HXL
  rw [hfl, hof] at HXF
  clear h hx hL hT hfl hof
  go_enter Try.func24, Try.ntmps24
  go_wp2_with fail
  refine Calls.mono (HXL.out _ ((Below.refl _ _).alloc (Nat.le_refl _) _)) ?_
  rintro e' w1 ⟨rfl, hb1⟩
  have HB1 : Hid (Below w.heap.size w w1) := trans2 ((Below.refl _ _).alloc (Nat.le_refl _) _) hb1
  have HP1 : Hid (w1.heap[w.heap.size]? = some (.cells #[.int .i64 11, .int .i64 N, .int .i64 M, .int .i64 e.s, .int .i64 e.v, .int .i64 e.k, .int .i64 e.se, .int .i64 e.rq, .slice a n c] 55 (0, 0))) := kept_block hb1 (heap_alloc_new _ _)
  clear hb1
  go_wp2_with fail
  refine Calls.mono (HXF.out _ HB1.out) ?_
  rintro e' w2 ⟨rfl, hb2⟩
  have HB2 : Hid (Below w.heap.size w w2) := trans2 HB1.out hb2
  have HP2 : Hid (w2.heap[w.heap.size]? = some (.cells #[.int .i64 11, .int .i64 N, .int .i64 M, .int .i64 e.s, .int .i64 e.v, .int .i64 e.k, .int .i64 e.se, .int .i64 e.rq, .slice a n c] 55 (0, 0))) := kept_block hb2 HP1.out
  obtain ⟨t0, t1, t2, t3, t4, t5, t6, t7, t8⟩ := cells_9 HP2.out
  clear hb2 HP1
  go_wp2_with fail
  refine Calls.mono (HAS.out _ _ HB2.out) ?_
  rintro e' w3 ⟨rfl, hb⟩
  have HB3 : Hid (Below w.heap.size w w3) := trans2 HB2.out hb
  clear hb
  go_wp2_with fail
  go_ret
  exact ⟨rfl, HB3.out⟩
set_option maxHeartbeats 3200000 in
set_option maxRecDepth 100000 in
theorem played_12G {w0 : World} (b bx : Nat) (A : ActT) (a : Option Addr) (c n : Nat) (w : World) {R : RingT} {F : Nat} {O : Int} {H : List EnT} {P : List PEnt} {la : Option Addr} {lc : Nat} (h : RingAt w b R) (hx : RefAt w0 w bx R F O H P la lc) (hk : A.kd = 12) :
    Calls Try.prog 24 #[.pointer (some ⟨b, 0, none⟩), .pointer (some ⟨bx, 0, none⟩), A.val (.slice a n c)] w fun e' w' => e' = .returned (.bool true) ∧ Below w.heap.size w w' := by
  obtain ⟨kd, N, M, e⟩ := A
  have hk' : kd = 12 := hk
  clear hk
  subst hk'
  have HXF : Hid (∀ w', Below w.heap.size w w' → _) := fun w' hb => rFloor w' bx (hx.below hb)
  have HXL : Hid (∀ w', Below w.heap.size w w' → _) := fun w' hb => rLast w' bx (hx.below hb)
  have HAS : Hid (∀ w' m, Below w.heap.size w w' → _) := fun w' m hb => askedG b bx ⟨12, N, M, e⟩ (.slice a n c) m w' (h.below hb) (hx.below hb)
  obtain ⟨L, hL⟩ : ∃ L : Int, ((R.last : Nat) : Int) = L := ⟨_, rfl⟩
  obtain ⟨T, hT⟩ : ∃ T : Int, R.top = T := ⟨_, rfl⟩
  obtain ⟨fl, hfl⟩ : ∃ fl : Int, (R.floor : Int) = fl := ⟨_, rfl⟩
  obtain ⟨of, hof⟩ : ∃ of : Int, R.of = of := ⟨_, rfl⟩
  rw [hL, hT] at HXL
  rw [hfl, hof] at HXF
  clear h hx hL hT hfl hof
  go_enter Try.func24, Try.ntmps24
  go_wp2_with fail
  refine Calls.mono (HXL.out _ ((Below.refl _ _).alloc (Nat.le_refl _) _)) ?_
  rintro e' w1 ⟨rfl, hb1⟩
  have HB1 : Hid (Below w.heap.size w w1) := trans2 ((Below.refl _ _).alloc (Nat.le_refl _) _) hb1
  have HP1 : Hid (w1.heap[w.heap.size]? = some (.cells #[.int .i64 12, .int .i64 N, .int .i64 M, .int .i64 e.s, .int .i64 e.v, .int .i64 e.k, .int .i64 e.se, .int .i64 e.rq, .slice a n c] 55 (0, 0))) := kept_block hb1 (heap_alloc_new _ _)
  clear hb1
  go_wp2_with fail
  refine Calls.mono (HXF.out _ HB1.out) ?_
  rintro e' w2 ⟨rfl, hb2⟩
  have HB2 : Hid (Below w.heap.size w w2) := trans2 HB1.out hb2
  have HP2 : Hid (w2.heap[w.heap.size]? = some (.cells #[.int .i64 12, .int .i64 N, .int .i64 M, .int .i64 e.s, .int .i64 e.v, .int .i64 e.k, .int .i64 e.se, .int .i64 e.rq, .slice a n c] 55 (0, 0))) := kept_block hb2 HP1.out
  obtain ⟨t0, t1, t2, t3, t4, t5, t6, t7, t8⟩ := cells_9 HP2.out
  clear hb2 HP1
  go_wp2_with fail
  refine Calls.mono (HAS.out _ _ HB2.out) ?_
  rintro e' w3 ⟨rfl, hb⟩
  have HB3 : Hid (Below w.heap.size w w3) := trans2 HB2.out hb
  clear hb
  go_wp2_with fail
  go_ret
  exact ⟨rfl, HB3.out⟩
set_option maxHeartbeats 3200000 in
set_option maxRecDepth 100000 in
theorem played_elseG {w0 : World} (b bx : Nat) (A : ActT) (a : Option Addr) (c n : Nat) (w : World) {R : RingT} {F : Nat} {O : Int} {H : List EnT} {P : List PEnt} {la : Option Addr} {lc : Nat} (h : RingAt w b R) (hx : RefAt w0 w bx R F O H P la lc) (k1 : A.kd ≠ 1) (k2 : A.kd ≠ 2) (k3 : A.kd ≠ 3) (k4 : A.kd ≠ 4) (k5 : A.kd ≠ 5) (k6 : A.kd ≠ 6) (k7 : A.kd ≠ 7) (k8 : A.kd ≠ 8) (k9 : A.kd ≠ 9) (k10 : A.kd ≠ 10) (k11 : A.kd ≠ 11) (k12 : A.kd ≠ 12) :
    Calls Try.prog 24 #[.pointer (some ⟨b, 0, none⟩), .pointer (some ⟨bx, 0, none⟩), A.val (.slice a n c)] w fun e' w' => e' = .returned (.bool true) ∧ Below w.heap.size w w' := by
  obtain ⟨kd, N, M, e⟩ := A
  have j1 : (kd == 1) = false := by simpa using k1
  have j2 : (kd == 2) = false := by simpa using k2
  have j3 : (kd == 3) = false := by simpa using k3
  have j4 : (kd == 4) = false := by simpa using k4
  have j5 : (kd == 5) = false := by simpa using k5
  have j6 : (kd == 6) = false := by simpa using k6
  have j7 : (kd == 7) = false := by simpa using k7
  have j8 : (kd == 8) = false := by simpa using k8
  have j9 : (kd == 9) = false := by simpa using k9
  have j10 : (kd == 10) = false := by simpa using k10
  have j11 : (kd == 11) = false := by simpa using k11
  have j12 : (kd == 12) = false := by simpa using k12
  clear k1 k2 k3 k4 k5 k6 k7 k8 k9 k10 k11 k12
  have HXF : Hid (∀ w', Below w.heap.size w w' → _) := fun w' hb => rFloor w' bx (hx.below hb)
  have HXL : Hid (∀ w', Below w.heap.size w w' → _) := fun w' hb => rLast w' bx (hx.below hb)
  obtain ⟨L, hL⟩ : ∃ L : Int, ((R.last : Nat) : Int) = L := ⟨_, rfl⟩
  obtain ⟨T, hT⟩ : ∃ T : Int, R.top = T := ⟨_, rfl⟩
  obtain ⟨fl, hfl⟩ : ∃ fl : Int, (R.floor : Int) = fl := ⟨_, rfl⟩
  obtain ⟨of, hof⟩ : ∃ of : Int, R.of = of := ⟨_, rfl⟩
  rw [hL, hT] at HXL
  rw [hfl, hof] at HXF
  clear h hx hL hT hfl hof
  go_enter Try.func24, Try.ntmps24
  go_wp2_with fail
  refine Calls.mono (HXL.out _ ((Below.refl _ _).alloc (Nat.le_refl _) _)) ?_
  rintro e' w1 ⟨rfl, hb1⟩
  have HB1 : Hid (Below w.heap.size w w1) := trans2 ((Below.refl _ _).alloc (Nat.le_refl _) _) hb1
  have HP1 : Hid (w1.heap[w.heap.size]? = some (.cells #[.int .i64 kd, .int .i64 N, .int .i64 M, .int .i64 e.s, .int .i64 e.v, .int .i64 e.k, .int .i64 e.se, .int .i64 e.rq, .slice a n c] 55 (0, 0))) := kept_block hb1 (heap_alloc_new _ _)
  clear hb1
  go_wp2_with fail
  refine Calls.mono (HXF.out _ HB1.out) ?_
  rintro e' w2 ⟨rfl, hb2⟩
  have HB2 : Hid (Below w.heap.size w w2) := trans2 HB1.out hb2
  have HP2 : Hid (w2.heap[w.heap.size]? = some (.cells #[.int .i64 kd, .int .i64 N, .int .i64 M, .int .i64 e.s, .int .i64 e.v, .int .i64 e.k, .int .i64 e.se, .int .i64 e.rq, .slice a n c] 55 (0, 0))) := kept_block hb2 HP1.out
  obtain ⟨t0, t1, t2, t3, t4, t5, t6, t7, t8⟩ := cells_9 HP2.out
  clear hb2 HP1
  go_wp2_with fail
  go_ret
  exact ⟨rfl, HB2.out⟩
end Go.Proofs.Ytonppfnjeomcoaa
