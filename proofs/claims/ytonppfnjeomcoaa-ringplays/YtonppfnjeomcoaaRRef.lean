/-
  The document's ring: all entries from the first floor on, of which the last ones count.
-/
import Derived.Test.YtonppfnjeomcoaaRSure
namespace Go.Proofs.Ytonppfnjeomcoaa
open Go.RowKit Classical
set_option linter.unusedVariables false
set_option linter.unusedSimpArgs false

structure RefAt (w0 w : World) (bx : Nat) (R : RingT) (F : Nat) (O : Int) (H : List EnT) (P : List PEnt) (la : Option Addr) (lc : Nat) : Prop where
  box : w.heap[bx]? = some (.cells #[.int .i64 R.room, .int .i64 F, .int .i64 O, .int .i64 R.hold, .slice la H.length lc, .int .i64 R.l.length] 64 (0, 0))
  es : P.map (·.e) = H
  mem : SureAt w0 w (.slice la H.length lc) P
  hist : Hist F O H R
  st : ∀ k e, H[k]? = some e → e.s = ((F + 1 + k : Nat) : Int)
  ok : R.Ok
  pos : 1 ≤ R.room
  lo : w0.heap.size ≤ bx
  small : ∀ e ∈ H, e.Small
theorem RefAt.below {w0 w w' : World} {bx : Nat} {R : RingT} {F : Nat} {O : Int} {H : List EnT} {P : List PEnt} {la : Option Addr} {lc : Nat} (h : RefAt w0 w bx R F O H P la lc) (hb : Below w.heap.size w w') : RefAt w0 w' bx R F O H P la lc :=
  ⟨kept_block hb h.box, h.es, h.mem.below hb, h.hist, h.st, h.ok, h.pos, h.lo, h.small⟩
theorem RefAt.len {w0 w : World} {bx : Nat} {R : RingT} {F : Nat} {O : Int} {H : List EnT} {P : List PEnt} {la : Option Addr} {lc : Nat} (h : RefAt w0 w bx R F O H P la lc) : P.length = H.length := by rw [← h.es, List.length_map]
theorem RefAt.esat {w0 w : World} {bx : Nat} {R : RingT} {F : Nat} {O : Int} {H : List EnT} {P : List PEnt} {la : Option Addr} {lc : Nat} (h : RefAt w0 w bx R F O H P la lc) : EsAt w la P := by
  obtain ⟨a', c', hv', hes⟩ := ents_form ⟨owns_lower h.mem.row, h.mem.ops⟩ (fun p hp => by have h1 : p.e ∈ H := (by rw [← h.es]; exact List.mem_map_of_mem hp); have := (h.small _ h1).len; unfold maxLen; omega)
  simp only [Value.slice.injEq] at hv'
  obtain ⟨rfl, -, -⟩ := hv'
  exact hes
theorem RefAt.kept {w0 w : World} {bx : Nat} {R : RingT} {F : Nat} {O : Int} {H : List EnT} {P : List PEnt} {la : Option Addr} {lc : Nat} (h : RefAt w0 w bx R F O H P la lc) : R.floor = F + (H.length - R.l.length) ∧ R.l.length ≤ H.length ∧ R.l = H.drop (H.length - R.l.length) ∧ R.last = F + H.length ∧ R.last ≤ 2147483647 ∧ R.l.length ≤ 64 := by
  have h1 := h.hist.lo
  have h2 := h.hist.hi
  have h3 := h.hist.l
  have h4 : R.l.length = H.length - (R.floor - F) := by rw [h3, List.length_drop]
  have h5 := h.ok.fits
  have h6 := h.ok.room
  refine ⟨by omega, by omega, ?_, h.hist.last, h.ok.max, by omega⟩
  rw [show H.length - R.l.length = R.floor - F by omega]
  exact h3
set_option maxHeartbeats 1600000 in
theorem rFloor {w0 : World} (w : World) (bx : Nat) {R : RingT} {F : Nat} {O : Int} {H : List EnT} {P : List PEnt} {la : Option Addr} {lc : Nat} (h : RefAt w0 w bx R F O H P la lc) :
    Calls Try.prog 41 #[.pointer (some ⟨bx, 0, none⟩)] w fun e w' => e = .returned (.tuple #[.int .i64 R.floor, .int .i64 R.of]) ∧ Below w.heap.size w w' := by
  obtain ⟨c0, c1, c2, c3, c4, c5⟩ := cells_6 h.box
  obtain ⟨k1, k2, k3, k4, k5, k6⟩ := h.kept
  have hof : R.of = vAt O H (R.floor - F) := h.hist.of
  obtain ⟨N, hN⟩ : ∃ N, H.length = N := ⟨_, rfl⟩
  obtain ⟨K, hK⟩ : ∃ K, R.l.length = K := ⟨_, rfl⟩
  rw [hN] at c4
  rw [hK] at c5
  rw [hN, hK] at k1 k2
  rw [hN] at k4
  obtain ⟨d, hd⟩ : ∃ d, N - K = d := ⟨_, rfl⟩
  rw [hd] at k1
  have hNK : (N : Int) - (K : Int) = (d : Int) := by omega
  rw [show R.floor - F = d by omega] at hof
  rw [k1]
  have hN2 : N ≤ 2147483647 := by omega
  cases d with
  | zero =>
    have hof' : R.of = O := hof
    rw [hof']
    have hKN : K = N := by omega
    subst hKN
    clear h k1 k2 k3 k4 k5 k6 hof hof' hN hK hd hNK
    go_enter Try.func41, Try.ntmps41
    go_wp2_with fail
    go_quiet (fail)
    go_wp2_with fail
    go_quiet (fail)
    go_wp2_with fail
    go_ret2
    exact ⟨rfl, below_drewN (below_drewN (Below.refl _ _) _) _⟩
  | succ j =>
    obtain ⟨e, he⟩ : ∃ e, H[j]? = some e := ⟨H[j]'(by omega), List.getElem?_eq_getElem _⟩
    obtain ⟨p, hp, hpe⟩ : ∃ p, P[j]? = some p ∧ p.e = e := by
      have h9 := he
      rw [← h.es, List.getElem?_map] at h9
      cases hq : P[j]? with
      | none => rw [hq] at h9; cases h9
      | some p => rw [hq] at h9; exact ⟨p, rfl, Option.some.inj h9⟩
    obtain ⟨g, o, rfl, hg, y0, y1, -, -, -, -⟩ := h.esat.at hp
    rw [hpe] at y0 y1
    rw [vAt_succ, he] at hof
    have hof' : R.of = e.v := hof
    have hst : e.s = ((F + (j + 1) : Nat) : Int) := by rw [h.st j e he]; omega
    rw [hst] at y0
    rw [hof']
    have hjN : (j : Int) < (N : Int) := by omega
    have hj1 : ((j + 1 : Nat) : Int) - 1 = (j : Int) := by omega
    have hNK' : (N : Int) - (K : Int) = (j : Int) + 1 := by omega
    obtain ⟨FF, hFF⟩ : ∃ FF, F + (j + 1) = FF := ⟨_, rfl⟩
    rw [hFF] at y0 ⊢
    clear h k1 k2 k3 k4 k5 k6 hof hof' hN hK hd hNK hst he hp hpe hFF hj1
    go_enter Try.func41, Try.ntmps41
    go_wp2_with fail
    go_quiet (fail)
    go_wp2_with fail
    go_quiet (fail)
    go_wp2_with fail
    go_ret2
    exact ⟨rfl, below_drewN (below_drewN (Below.refl _ _) _) _⟩
set_option maxHeartbeats 1600000 in
theorem rLast {w0 : World} (w : World) (bx : Nat) {R : RingT} {F : Nat} {O : Int} {H : List EnT} {P : List PEnt} {la : Option Addr} {lc : Nat} (h : RefAt w0 w bx R F O H P la lc) :
    Calls Try.prog 40 #[.pointer (some ⟨bx, 0, none⟩)] w fun e w' => e = .returned (.tuple #[.int .i64 (R.last : Nat), .int .i64 R.top]) ∧ Below w.heap.size w w' := by
  obtain ⟨c0, c1, c2, c3, c4, c5⟩ := cells_6 h.box
  obtain ⟨k1, k2, k3, k4, k5, k6⟩ := h.kept
  have hof : R.top = vAt O H H.length := h.hist.top
  obtain ⟨N, hN⟩ : ∃ N, H.length = N := ⟨_, rfl⟩
  rw [hN] at c4 k4 hof
  rw [k4] at k5
  rw [k4]
  have hN2 : N ≤ 2147483647 := by omega
  cases N with
  | zero =>
    have hof' : R.top = O := hof
    rw [hof']
    clear h k1 k2 k3 k4 k5 k6 hof hof' hN
    go_enter Try.func40, Try.ntmps40
    go_wp2_with fail
    go_quiet (fail)
    go_wp2_with fail
    go_ret2
    exact ⟨rfl, below_drewN (Below.refl _ _) _⟩
  | succ j =>
    obtain ⟨e, he⟩ : ∃ e, H[j]? = some e := ⟨H[j]'(by omega), List.getElem?_eq_getElem _⟩
    obtain ⟨p, hp, hpe⟩ : ∃ p, P[j]? = some p ∧ p.e = e := by
      have h9 := he
      rw [← h.es, List.getElem?_map] at h9
      cases hq : P[j]? with
      | none => rw [hq] at h9; cases h9
      | some p => rw [hq] at h9; exact ⟨p, rfl, Option.some.inj h9⟩
    obtain ⟨g, o, rfl, hg, y0, y1, -, -, -, -⟩ := h.esat.at hp
    rw [hpe] at y0 y1
    rw [vAt_succ, he] at hof
    have hof' : R.top = e.v := hof
    have hst : e.s = ((F + (j + 1) : Nat) : Int) := by rw [h.st j e he]; omega
    rw [hst] at y0
    rw [hof']
    obtain ⟨FF, hFF⟩ : ∃ FF, F + (j + 1) = FF := ⟨_, rfl⟩
    rw [hFF] at y0 ⊢
    obtain ⟨N, hNj⟩ : ∃ N, j + 1 = N := ⟨_, rfl⟩
    rw [hNj] at c4
    have hjN : (j : Int) < (N : Int) := by omega
    have hN0 : ¬ N = 0 := by omega
    have hNp : (N : Int) - 1 = (j : Int) := by omega
    have hN3 : N ≤ 2147483647 := by omega
    clear h k1 k2 k3 k4 k5 k6 hof hof' hN hst he hp hpe hFF hNj hN2
    go_enter Try.func40, Try.ntmps40
    go_wp2_with fail
    go_quiet (fail)
    go_wp2_with fail
    go_ret2
    exact ⟨rfl, below_drewN (Below.refl _ _) _⟩
set_option maxHeartbeats 1600000 in
theorem rHeld {w0 : World} (w : World) (bx : Nat) {R : RingT} {F : Nat} {O : Int} {H : List EnT} {P : List PEnt} {la : Option Addr} {lc : Nat} (h : RefAt w0 w bx R F O H P la lc) :
    Calls Try.prog 43 #[.pointer (some ⟨bx, 0, none⟩)] w fun e w' => e = .returned (.int .i64 R.hold) ∧ w' = w := by
  obtain ⟨c0, c1, c2, c3, c4, c5⟩ := cells_6 h.box
  clear h
  go_enter Try.func43, Try.ntmps43
  go_wp2_with fail
  go_ret
  exact ⟨rfl, rfl⟩
theorem slice_tail (a : Option Addr) (n k c : Nat) (P : List PEnt) (w : World) (hk : k ≤ n) (hn : n ≤ c) (h0 : a = none → n = 0 ∧ c = 0) (he : EsAt w a P) (hl : P.length = n) :
    ∃ a' c', (∀ w', (Instr.sliceAt 25 (.slice a n c) (some (.int .i64 k)) none none).run Try.prog w' = .ok (.slice a' (n - k) c') w') ∧ EsAt w a' (P.drop k) := by
  have a1 : Try.prog.underlying 25 = some (.slice 33) := Try.underlying25
  cases a with
  | none =>
    obtain ⟨rfl, rfl⟩ := h0 rfl
    obtain rfl : k = 0 := by omega
    refine ⟨none, 0, fun w' => ?_, he⟩
    simp [Instr.sliceAt, Instr.sliceBounds, go_sem, a1, Try.sizeOf33]
  | some ad =>
    have h1 : (k : Int) ≤ n := by omega
    have h2 : (n : Int) ≤ c := by omega
    by_cases hkc : k = c
    · refine ⟨some ad, c - k, fun w' => ?_, ?_⟩
      · have h3 : c - k = 0 := by omega
        simp [Instr.sliceAt, Instr.sliceBounds, go_sem, a1, Try.sizeOf33, hk, hn, h1, h2, h3, hkc]
        intro h
        omega
      · rw [List.drop_of_length_le (by omega)]
        exact ⟨.inl rfl, fun p hp => by cases hp⟩
    · refine ⟨some (ad.add (k * 6)), c - k, fun w' => ?_, ?_⟩
      · have h3 : c - k ≠ 0 := by omega
        have h4 : ¬ c = k := by omega
        simp [Instr.sliceAt, Instr.sliceBounds, go_sem, a1, Try.sizeOf33, hk, hn, h1, h2, h3, hkc, h4]
      · rcases he.ls with h5 | ⟨b, o, ha, _⟩
        · subst h5
          simp only [List.drop_nil]
          exact ⟨.inl rfl, fun p hp => by cases hp⟩
        · cases ha
          rw [addr_add]
          exact he.drop k
theorem RefAt.form {w0 w : World} {bx : Nat} {R : RingT} {F : Nat} {O : Int} {H : List EnT} {P : List PEnt} {la : Option Addr} {lc : Nat} (h : RefAt w0 w bx R F O H P la lc) : H.length ≤ lc ∧ lc ≤ maxLen ∧ (la = none → H.length = 0 ∧ lc = 0) := by
  have hr := h.mem.row
  rw [h.len] at hr
  rcases hr.2 with ⟨h0, h1⟩ | ⟨g, cap, cur, hv, _, _, hn, hm, _⟩
  · simp only [Value.slice.injEq] at h0
    obtain ⟨rfl, -, rfl⟩ := h0
    exact ⟨by omega, Nat.zero_le _, fun _ => ⟨h1, rfl⟩⟩
  · cases hv
    exact ⟨hn, hm, fun e => by cases e⟩
set_option maxHeartbeats 1600000 in
theorem rAll {w0 : World} (w : World) (bx : Nat) {R : RingT} {F : Nat} {O : Int} {H : List EnT} {P : List PEnt} {la : Option Addr} {lc : Nat} (h : RefAt w0 w bx R F O H P la lc) :
    Calls Try.prog 47 #[.pointer (some ⟨bx, 0, none⟩)] w fun e w' => ∃ a c Q, e = .returned (.slice a R.l.length c) ∧ Q.map (·.e) = R.l ∧ EsAt w' a Q ∧ Below w.heap.size w w' := by
  obtain ⟨c0, c1, c2, c3, c4, c5⟩ := cells_6 h.box
  obtain ⟨k1, k2, k3, k4, k5, k6⟩ := h.kept
  obtain ⟨f1, f2, f3⟩ := h.form
  obtain ⟨a', c', hsl, hes⟩ := slice_tail la H.length (H.length - R.l.length) lc P w (by omega) f1 f3 h.esat h.len
  rw [show H.length - (H.length - R.l.length) = R.l.length by omega] at hsl
  have HES : Hid (EsAt w a' (P.drop (H.length - R.l.length))) := hes
  have HQ : Hid ((P.drop (H.length - R.l.length)).map (·.e) = R.l) := by show _ = _; rw [List.map_drop, h.es]; exact k3.symm
  obtain ⟨N, hN⟩ : ∃ N, H.length = N := ⟨_, rfl⟩
  obtain ⟨K, hK⟩ : ∃ K, R.l.length = K := ⟨_, rfl⟩
  rw [hN] at c4
  rw [hK] at c5
  rw [hN, hK] at hsl k2 HES HQ
  rw [hN] at k4
  rw [hK]
  have hN2 : N ≤ 2147483647 := by omega
  obtain ⟨D, hD⟩ : ∃ D, N - K = D := ⟨_, rfl⟩
  rw [hD] at hsl HES HQ
  have hNK : (N : Int) - (K : Int) = (D : Int) := by omega
  have hw1 : IntKind.i64.wrap (D : Int) = (D : Int) := by rw [IntKind.wrap_i64]; omega
  have hw2 : IntKind.i64.wrap ((N : Int) - (K : Int)) = (D : Int) := by rw [hNK]; exact hw1
  clear h k1 k2 k3 k4 k5 k6 hN hK f1 f2 f3 hes hD
  go_enter Try.func47, Try.ntmps47
  go_wp2_with fail
  go_quiet (fail)
  go_wp2_with fail
  go_ret
  exact ⟨_, _, _, rfl, HQ.out, HES.out.below (below_drewN (Below.refl _ _) _), below_drewN (Below.refl _ _) _⟩

/-- What a call of the document's ring may turn: its box and its list. -/
def XS (bx : Nat) (la : Option Addr) : Nat → Prop := fun x => x = bx ∨ ∃ o, la = some ⟨x, o, none⟩
structure XStep (w0 w w' : World) (bx : Nat) (la : Option Addr) : Prop where
  kp : Kp (XS bx la) w w'
  bel : Below w0.heap.size w0 w → Below w0.heap.size w0 w'
theorem XStep.of_below {w0 w w' : World} {bx : Nat} {la : Option Addr} (h : Below w.heap.size w w') : XStep w0 w w' bx la := ⟨Kp.of_below h _, fun hb => trans2 hb h⟩
/-- The box is turned, the list stays where it is. -/
theorem RefAt.turn {w0 w w' : World} {bx : Nat} {R R' : RingT} {F : Nat} {O : Int} {H H' : List EnT} {P P' : List PEnt} {la : Option Addr} {lc : Nat} (h : RefAt w0 w bx R F O H P la lc) (hk : Kp (fun x => x = bx) w w')
    (hbox : w'.heap[bx]? = some (.cells #[.int .i64 R'.room, .int .i64 F, .int .i64 O, .int .i64 R'.hold, .slice la H'.length lc, .int .i64 R'.l.length] 64 (0, 0)))
    (hes : P'.map (·.e) = H') (hrow : w.ownsRow w0.heap.size 33 6 (.slice la H'.length lc) P'.length (rowCs PEnt.cells P')) (hsub : ∀ p ∈ P', p ∈ P) (hist : Hist F O H' R') (st : ∀ k e, H'[k]? = some e → e.s = ((F + 1 + k : Nat) : Int)) (ok : R'.Ok) (pos : 1 ≤ R'.room) : RefAt w0 w' bx R' F O H' P' la lc := by
  have hne : ∀ {y : Value} {B e s n : Nat} {xs : List Value}, w.ownsRow B e s y n xs → e ≠ 64 → ∀ k, y.ownBlock = some k → ¬ k = bx := fun hy he k hk e => by
    obtain ⟨cur, hcu⟩ := owns_kind hy hk
    rw [e, h.box] at hcu
    cases hcu
    exact he rfl
  refine ⟨hbox, hes, ⟨owns_kp hrow hk (hne hrow (by decide)), fun p hp => owns_kp (h.mem.ops p (hsub p hp)) hk (hne (h.mem.ops p (hsub p hp)) (by decide))⟩, hist, st, ok, pos, h.lo, fun e he => ?_⟩
  rw [← hes] at he
  obtain ⟨p, hp, rfl⟩ := List.mem_map.1 he
  exact h.small _ (by rw [← h.es]; exact List.mem_map_of_mem (hsub p hp))
set_option maxHeartbeats 1600000 in
theorem rHold_no {w0 : World} (w : World) (bx : Nat) (n : Int) {R : RingT} {F : Nat} {O : Int} {H : List EnT} {P : List PEnt} {la : Option Addr} {lc : Nat} (h : RefAt w0 w bx R F O H P la lc) (hc : R.free n ≠ 0) :
    Calls Try.prog 44 #[.pointer (some ⟨bx, 0, none⟩), .int .i64 n] w fun e w' => e = .returned (.int .i64 (R.free n)) ∧ Below w.heap.size w w' := by
  have HL : Hid _ := rLast w bx h
  have HX : Hid _ := h
  obtain ⟨L, hL⟩ : ∃ L : Int, ((R.last : Nat) : Int) = L := ⟨_, rfl⟩
  obtain ⟨T, hT⟩ : ∃ T : Int, R.top = T := ⟨_, rfl⟩
  rw [hL, hT] at HL
  have hcase : (n < (R.hold : Int) ∧ R.free n = 63) ∨ (¬ n < (R.hold : Int) ∧ L < n ∧ R.free n = 61) := by
    unfold RingT.free at hc ⊢
    rw [hL] at hc ⊢
    by_cases h1 : n < (R.hold : Int)
    · rw [if_pos h1]; exact .inl ⟨h1, rfl⟩
    rw [if_neg h1] at hc ⊢
    by_cases h2 : L < n
    · rw [if_pos h2]; exact .inr ⟨h1, h2, rfl⟩
    rw [if_neg h2] at hc
    exact absurd rfl hc
  clear h hT hL hc
  rcases hcase with ⟨h1, h2⟩ | ⟨h1, h3, h2⟩
  all_goals
    rw [h2]
    clear h2
    go_enter Try.func44, Try.ntmps44
    go_wp2_with fail
    refine Calls.mono HL.out ?_
    rintro e w1 ⟨rfl, hb⟩
    obtain ⟨c0, c1, c2, c3, c4, c5⟩ := cells_6 (HX.out.below hb).box
    have HB : Hid (Below w.heap.size w w1) := hb
    clear hb HL
    go_wp2_with fail
    go_ret
    exact ⟨rfl, HB.out⟩
set_option maxHeartbeats 1600000 in
theorem rHold_ok {w0 : World} (w : World) (bx : Nat) (n : Int) {R : RingT} {F : Nat} {O : Int} {H : List EnT} {P : List PEnt} {la : Option Addr} {lc : Nat} (h : RefAt w0 w bx R F O H P la lc) (hc : R.free n = 0) :
    Calls Try.prog 44 #[.pointer (some ⟨bx, 0, none⟩), .int .i64 n] w fun e w' => e = .returned (.int .i64 0) ∧ RefAt w0 w' bx { R with hold := n.toNat } F O H P la lc ∧ XStep w0 w w' bx la := by
  have HL : Hid _ := rLast w bx h
  have HX : Hid (RefAt w0 w bx R F O H P la lc) := h
  obtain ⟨f1, f2⟩ := free_zero hc
  obtain ⟨m, rfl⟩ : ∃ m : Nat, n = m := ⟨n.toNat, by omega⟩
  rw [Int.toNat_natCast]
  have HC : Hid (R.hold ≤ m ∧ m ≤ R.last) := by show _ ∧ _; omega
  obtain ⟨L, hL⟩ : ∃ L : Int, ((R.last : Nat) : Int) = L := ⟨_, rfl⟩
  obtain ⟨T, hT⟩ : ∃ T : Int, R.top = T := ⟨_, rfl⟩
  rw [hL, hT] at HL
  rw [hL] at f2
  have g1 : ¬ (m : Int) < (R.hold : Int) := by omega
  have g2 : ¬ L < (m : Int) := by omega
  have g3 : ¬ m < R.hold := by omega
  clear h hT hL hc f1 f2
  go_enter Try.func44, Try.ntmps44
  go_wp2_with fail
  refine Calls.mono HL.out ?_
  rintro e w1 ⟨rfl, hb⟩
  have HX1 : Hid (RefAt w0 w1 bx R F O H P la lc) := HX.out.below hb
  obtain ⟨c0, c1, c2, c3, c4, c5⟩ := cells_6 HX1.out.box
  have f0 := free_blk HX1.out.box
  have HB : Hid (Below w.heap.size w w1) := hb
  clear hb HL
  go_wp2_with fail
  go_ret
  have hk : Kp (fun x => x = bx) w1 (w1.setCell ⟨bx, 3, none⟩ (.int .i64 m)) := Kp.of_chg (Chg.set _ _ _)
  have o := HX1.out.ok
  refine ⟨rfl, HX1.out.turn (R' := { R with hold := m }) hk (same_blk HX1.out.box rfl) HX1.out.es HX1.out.mem.row (fun _ h => h) HX1.out.hist.held HX1.out.st ⟨o.room, o.fits, Nat.le_trans o.low HC.out.1, HC.out.2, o.max, o.small⟩ HX1.out.pos, (Kp.of_below HB.out _).trans (hk.mono (fun x e => .inl e)), fun hb => (trans2 hb HB.out).setCell HX1.out.lo _⟩
/-- A row's beginning. -/
theorem owns_take {w : World} {B lc N k : Nat} {la : Option Addr} {P : List PEnt} (h : w.ownsRow B 33 6 (.slice la N lc) P.length (rowCs PEnt.cells P)) (hN : P.length = N) (hk : k ≤ N) : w.ownsRow B 33 6 (.slice la k lc) (P.take k).length (rowCs PEnt.cells (P.take k)) := by
  have hl : (P.take k).length = k := by rw [List.length_take]; omega
  have hcs : (rowCs PEnt.cells (P.take k)).length = k * 6 := by rw [rowCs_len pent_len, hl]
  have hsplit : rowCs PEnt.cells P = rowCs PEnt.cells (P.take k) ++ rowCs PEnt.cells (P.drop k) := by rw [← rowCs_append, List.take_append_drop]
  rw [hl]
  rcases h.2 with ⟨h0, h1⟩ | ⟨g, cap, cur, hv, hB, hg, hn, hm, hsz, ht⟩
  · simp only [Value.slice.injEq] at h0
    obtain ⟨rfl, _, rfl⟩ := h0
    obtain rfl : k = 0 := by omega
    exact ⟨hcs, .inl ⟨rfl, rfl⟩⟩
  · simp only [Value.slice.injEq] at hv
    obtain ⟨rfl, rfl, rfl⟩ := hv
    refine ⟨hcs, .inr ⟨g, lc, cur, rfl, hB, hg, by omega, hm, hsz, ?_⟩⟩
    have h9 : cur.toList.take (k * 6) = (cur.toList.take (P.length * 6)).take (k * 6) := by rw [List.take_take, Nat.min_eq_left (by omega)]
    rw [h9, ht, hsplit, List.take_left' hcs]
set_option maxHeartbeats 1600000 in
theorem rCut_no {w0 : World} (w : World) (bx : Nat) (n : Int) {R : RingT} {F : Nat} {O : Int} {H : List EnT} {P : List PEnt} {la : Option Addr} {lc : Nat} (h : RefAt w0 w bx R F O H P la lc) (hc : R.free n ≠ 0) :
    Calls Try.prog 45 #[.pointer (some ⟨bx, 0, none⟩), .int .i64 n] w fun e w' => e = .returned (.int .i64 (R.free n)) ∧ Below w.heap.size w w' := by
  have HL : Hid _ := rLast w bx h
  have HX : Hid _ := h
  obtain ⟨L, hL⟩ : ∃ L : Int, ((R.last : Nat) : Int) = L := ⟨_, rfl⟩
  obtain ⟨T, hT⟩ : ∃ T : Int, R.top = T := ⟨_, rfl⟩
  rw [hL, hT] at HL
  have hcase : (n < (R.hold : Int) ∧ R.free n = 63) ∨ (¬ n < (R.hold : Int) ∧ L < n ∧ R.free n = 61) := by
    unfold RingT.free at hc ⊢
    rw [hL] at hc ⊢
    by_cases h1 : n < (R.hold : Int)
    · rw [if_pos h1]; exact .inl ⟨h1, rfl⟩
    rw [if_neg h1] at hc ⊢
    by_cases h2 : L < n
    · rw [if_pos h2]; exact .inr ⟨h1, h2, rfl⟩
    rw [if_neg h2] at hc
    exact absurd rfl hc
  clear h hT hL hc
  rcases hcase with ⟨h1, h2⟩ | ⟨h1, h3, h2⟩
  all_goals
    rw [h2]
    clear h2
    go_enter Try.func45, Try.ntmps45
    go_wp2_with fail
    refine Calls.mono HL.out ?_
    rintro e w1 ⟨rfl, hb⟩
    obtain ⟨c0, c1, c2, c3, c4, c5⟩ := cells_6 (HX.out.below hb).box
    have HB : Hid (Below w.heap.size w w1) := hb
    clear hb HL
    go_wp2_with fail
    go_ret
    exact ⟨rfl, HB.out⟩
theorem slice_head (a : Option Addr) (n k c : Nat) (hk : k ≤ c) (hn : n ≤ c) (h0 : a = none → n = 0 ∧ c = 0) (w' : World) :
    (Instr.sliceAt 25 (.slice a n c) none (some (.int .i64 k)) none).run Try.prog w' = .ok (.slice a k c) w' := by
  have a1 : Try.prog.underlying 25 = some (.slice 33) := Try.underlying25
  cases a with
  | none =>
    obtain ⟨rfl, rfl⟩ := h0 rfl
    obtain rfl : k = 0 := by omega
    simp [Instr.sliceAt, Instr.sliceBounds, go_sem, a1, Try.sizeOf33]
  | some ad =>
    have h1 : (k : Int) ≤ c := by omega
    by_cases hc : c = 0
    · subst hc
      obtain rfl : k = 0 := by omega
      simp [Instr.sliceAt, Instr.sliceBounds, go_sem, a1, Try.sizeOf33]
    · simp [Instr.sliceAt, Instr.sliceBounds, go_sem, a1, Try.sizeOf33, hk, hn, h1, hc]
set_option maxHeartbeats 1600000 in
theorem rCut_ok {w0 : World} (w : World) (bx : Nat) (n : Int) {R : RingT} {F : Nat} {O : Int} {H : List EnT} {P : List PEnt} {la : Option Addr} {lc : Nat} (h : RefAt w0 w bx R F O H P la lc) (hc : R.free n = 0) :
    Calls Try.prog 45 #[.pointer (some ⟨bx, 0, none⟩), .int .i64 n] w fun e w' => e = .returned (.int .i64 0) ∧ RefAt w0 w' bx (R.cut n) F O (H.take (n - F).toNat) (P.take (n - F).toNat) la lc ∧ XStep w0 w w' bx la := by
  have HL : Hid _ := rLast w bx h
  have HX : Hid (RefAt w0 w bx R F O H P la lc) := h
  obtain ⟨k1, k2, k3, k4, k5, k6⟩ := h.kept
  obtain ⟨f1, f2⟩ := free_zero hc
  have HH : Hid (Hist F O (H.take (n - F).toNat) (R.cut n)) := h.hist.cut h.ok hc
  have hlow := h.ok.low
  obtain ⟨m, rfl⟩ : ∃ m : Nat, n = m := ⟨n.toNat, by omega⟩
  obtain ⟨q, hq⟩ : ∃ q, ((m : Int) - F).toNat = q := ⟨_, rfl⟩
  rw [hq] at HH ⊢
  have hmq : m = F + q := by omega
  have HC : Hid (q ≤ H.length ∧ R.l.length - (H.length - q) = (R.cut m).l.length ∧ H.length - q ≤ R.l.length ∧ (H.take q).length = q) := by
    refine ⟨by omega, ?_, by omega, by rw [List.length_take]; omega⟩
    show _ = (R.l.take ((m : Int) - R.floor).toNat).length
    rw [List.length_take]
    omega
  have HOK : Hid ((R.cut m).Ok) := by
    have o := h.ok
    have e1 : (R.cut m).l.length = min ((m : Int) - R.floor).toNat R.l.length := List.length_take
    have e2 : R.last = R.floor + R.l.length := rfl
    have e3 : (R.cut m).last = R.floor + (R.cut m).l.length := rfl
    have o1 := o.fits
    have o2 := o.max
    refine ⟨o.room, by show (R.cut m).l.length ≤ R.room; omega, o.low, by show R.hold ≤ (R.cut m).last; omega, by omega, fun e he => o.small e (List.mem_of_mem_take he)⟩
  have HST : Hid (∀ k e, (H.take q)[k]? = some e → e.s = ((F + 1 + k : Nat) : Int)) := by
    intro k e hk
    rw [List.getElem?_take] at hk
    split at hk
    · exact h.st k e hk
    · cases hk
  obtain ⟨N, hN⟩ : ∃ N, H.length = N := ⟨_, rfl⟩
  obtain ⟨K, hK⟩ : ∃ K, R.l.length = K := ⟨_, rfl⟩
  rw [k4] at HL f2
  rw [hN] at HL k4 k2 f2
  rw [hK] at k2
  obtain ⟨T, hT⟩ : ∃ T : Int, R.top = T := ⟨_, rfl⟩
  rw [hT] at HL
  have g1 : ¬ m < R.hold := by omega
  have g2 : ¬ F + N < m := by omega
  have g1' : ¬ (m : Int) < (R.hold : Int) := by omega
  have g2' : ¬ ((F + N : Nat) : Int) < (m : Int) := by omega
  obtain ⟨D, hD⟩ : ∃ D, F + N - m = D := ⟨_, rfl⟩
  have hLm : ((F + N : Nat) : Int) - (m : Int) = (D : Int) := by omega
  obtain ⟨L, hLL⟩ : ∃ L, F + N = L := ⟨_, rfl⟩
  rw [hLL] at HL g2 g2' hLm
  have hND : (N : Int) - (D : Int) = (q : Int) := by omega
  have hKD : (K : Int) - (D : Int) = ((R.cut m).l.length : Int) := by have := HC.out.2.1; have := HC.out.2.2.1; rw [hN, hK] at *; omega
  have hN2 : N ≤ 2147483647 ∧ L ≤ 2147483647 := by omega
  obtain ⟨fm1, fm2, fm3⟩ := h.form
  rw [hN] at fm1 fm3
  have hqN : q ≤ N := by omega
  obtain ⟨K2, hK2⟩ : ∃ K2, (R.cut m).l.length = K2 := ⟨_, rfl⟩
  rw [hK2] at hKD
  have HK2 : Hid ((R.cut m).l.length = K2) := hK2
  have HN : Hid (H.length = N ∧ R.l.length = K ∧ q ≤ N ∧ N ≤ lc ∧ lc ≤ maxLen) := ⟨hN, hK, hqN, fm1, fm2⟩
  have hqlc : q ≤ lc := by omega
  unfold maxLen at fm2
  have hDN : D ≤ N ∧ D ≤ K := by omega
  have hsl : ∀ w', (Instr.sliceAt 25 (.slice la N lc) none (some (.int .i64 q)) none).run Try.prog w' = .ok (.slice la q lc) w' := slice_head la N q lc hqlc fm1 fm3
  clear h hT hc f1 f2 k1 k3 k4 k5 k6 hlow hq hmq hN hK hD hLL hK2 fm3
  go_enter Try.func45, Try.ntmps45
  go_wp2_with fail
  refine Calls.mono HL.out ?_
  rintro e w1 ⟨rfl, hb⟩
  have HX1 : Hid (RefAt w0 w1 bx R F O H P la lc) := HX.out.below hb
  obtain ⟨c0, c1, c2, c3, c4, c5⟩ := cells_6 HX1.out.box
  have f0 := free_blk HX1.out.box
  rw [HN.out.1] at c4
  rw [HN.out.2.1] at c5
  have HB : Hid (Below w.heap.size w w1) := hb
  clear hb HL
  go_wp2_with fail
  go_region
  go_wp2_with fail
  go_ret
  have hk : Kp (fun x => x = bx) w1 ((w1.setCell ⟨bx, 4, none⟩ (.slice la q lc)).setCell ⟨bx, 5, none⟩ (.int .i64 K2)).drew := by
    have t1 : Kp (fun x => x = bx) w1 (w1.setCell ⟨bx, 4, none⟩ (.slice la q lc)) := Kp.of_chg (Chg.set _ _ _)
    have t2 : Kp (fun x => x = bx) (w1.setCell ⟨bx, 4, none⟩ (.slice la q lc)) ((w1.setCell ⟨bx, 4, none⟩ (.slice la q lc)).setCell ⟨bx, 5, none⟩ (.int .i64 K2)) := Kp.of_chg (Chg.set _ _ _)
    exact (t1.trans t2).trans (Kp.of_below (below_drew (Below.refl _ _)) _)
  have hbx := HX1.out.box
  rw [HN.out.1, HN.out.2.1] at hbx
  refine ⟨rfl, HX1.out.turn (R' := R.cut m) hk ?_ ?_ ?_ (fun p hp => List.mem_of_mem_take hp) HH.out HST.out HOK.out HX1.out.pos, (Kp.of_below HB.out _).trans (hk.mono (fun x e => .inl e)), fun hb => below_drew (((trans2 hb HB.out).setCell HX1.out.lo _).setCell HX1.out.lo _)⟩
  · rw [HC.out.2.2.2, HK2.out]
    exact same_blk (same_blk hbx rfl) rfl
  · rw [List.map_take, HX1.out.es]
  · rw [HC.out.2.2.2]
    exact owns_take HX1.out.mem.row HX1.out.len HC.out.1
end Go.Proofs.Ytonppfnjeomcoaa
