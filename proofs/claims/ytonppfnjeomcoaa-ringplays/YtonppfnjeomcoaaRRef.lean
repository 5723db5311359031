/-
  The document's ring: all entries from the first floor on, of which the last ones count.
-/
import Derived.Test.YtonppfnjeomcoaaRSure
namespace Go.Proofs.Ytonppfnjeomcoaa
open Go.RowKit Classical
set_option linter.unusedVariables false
set_option linter.unusedSimpArgs false

structure RefAt (w0 w : World) (bx : Nat) (R : RingT) (F : Nat) (O : Int) (H : List EnT) (P : List PEnt) (la : Option Addr) (lc : Nat) : Prop where
  box : w.heap[bx]? = some (.cells #[.int .i64 R.room, .int .i64 F, .int .i64 O, .int .i64 R.hold, .slice la H.length lc, .int .i64 R.l.length] 64 (0, 0))
  es : P.map (·.e) = H
  mem : SureAt w0 w (.slice la H.length lc) P
  hist : Hist F O H R
  st : ∀ k e, H[k]? = some e → e.s = ((F + 1 + k : Nat) : Int)
  ok : R.Ok
  pos : 1 ≤ R.room
  lo : w0.heap.size ≤ bx
  small : ∀ e ∈ H, e.Small
theorem RefAt.below {w0 w w' : World} {bx : Nat} {R : RingT} {F : Nat} {O : Int} {H : List EnT} {P : List PEnt} {la : Option Addr} {lc : Nat} (h : RefAt w0 w bx R F O H P la lc) (hb : Below w.heap.size w w') : RefAt w0 w' bx R F O H P la lc :=
  ⟨kept_block hb h.box, h.es, h.mem.below hb, h.hist, h.st, h.ok, h.pos, h.lo, h.small⟩
theorem RefAt.len {w0 w : World} {bx : Nat} {R : RingT} {F : Nat} {O : Int} {H : List EnT} {P : List PEnt} {la : Option Addr} {lc : Nat} (h : RefAt w0 w bx R F O H P la lc) : P.length = H.length := by rw [← h.es, List.length_map]
theorem RefAt.esat {w0 w : World} {bx : Nat} {R : RingT} {F : Nat} {O : Int} {H : List EnT} {P : List PEnt} {la : Option Addr} {lc : Nat} (h : RefAt w0 w bx R F O H P la lc) : EsAt w la P := by
  obtain ⟨a', c', hv', hes⟩ := ents_form ⟨owns_lower h.mem.row, h.mem.ops⟩ (fun p hp => by have h1 : p.e ∈ H := (by rw [← h.es]; exact List.mem_map_of_mem hp); have := (h.small _ h1).len; unfold maxLen; omega)
  simp only [Value.slice.injEq] at hv'
  obtain ⟨rfl, -, -⟩ := hv'
  exact hes
theorem RefAt.kept {w0 w : World} {bx : Nat} {R : RingT} {F : Nat} {O : Int} {H : List EnT} {P : List PEnt} {la : Option Addr} {lc : Nat} (h : RefAt w0 w bx R F O H P la lc) : R.floor = F + (H.length - R.l.length) ∧ R.l.length ≤ H.length ∧ R.l = H.drop (H.length - R.l.length) ∧ R.last = F + H.length ∧ R.last ≤ 2147483647 ∧ R.l.length ≤ 64 := by
  have h1 := h.hist.lo
  have h2 := h.hist.hi
  have h3 := h.hist.l
  have h4 : R.l.length = H.length - (R.floor - F) := by rw [h3, List.length_drop]
  have h5 := h.ok.fits
  have h6 := h.ok.room
  refine ⟨by omega, by omega, ?_, h.hist.last, h.ok.max, by omega⟩
  rw [show H.length - R.l.length = R.floor - F by omega]
  exact h3
set_option maxHeartbeats 1600000 in
theorem rFloor {w0 : World} (w : World) (bx : Nat) {R : RingT} {F : Nat} {O : Int} {H : List EnT} {P : List PEnt} {la : Option Addr} {lc : Nat} (h : RefAt w0 w bx R F O H P la lc) :
    Calls Try.prog 41 #[.pointer (some ⟨bx, 0, none⟩)] w fun e w' => e = .returned (.tuple #[.int .i64 R.floor, .int .i64 R.of]) ∧ Below w.heap.size w w' := by
  obtain ⟨c0, c1, c2, c3, c4, c5⟩ := cells_6 h.box
  obtain ⟨k1, k2, k3, k4, k5, k6⟩ := h.kept
  have hof : R.of = vAt O H (R.floor - F) := h.hist.of
  obtain ⟨N, hN⟩ : ∃ N, H.length = N := ⟨_, rfl⟩
  obtain ⟨K, hK⟩ : ∃ K, R.l.length = K := ⟨_, rfl⟩
  rw [hN] at c4
  rw [hK] at c5
  rw [hN, hK] at k1 k2
  rw [hN] at k4
  obtain ⟨d, hd⟩ : ∃ d, N - K = d := ⟨_, rfl⟩
  rw [hd] at k1
  have hNK : (N : Int) - (K : Int) = (d : Int) := by omega
  rw [show R.floor - F = d by omega] at hof
  rw [k1]
  have hN2 : N ≤ 2147483647 := by omega
  cases d with
  | zero =>
    have hof' : R.of = O := hof
    rw [hof']
    have hKN : K = N := by omega
    subst hKN
    clear h k1 k2 k3 k4 k5 k6 hof hof' hN hK hd hNK
    go_enter Try.func41, Try.ntmps41
    go_wp2_with fail
    go_quiet (fail)
    go_wp2_with fail
    go_quiet (fail)
    go_wp2_with fail
    go_ret2
    exact ⟨rfl, below_drewN (below_drewN (Below.refl _ _) _) _⟩
  | succ j =>
    obtain ⟨e, he⟩ : ∃ e, H[j]? = some e := ⟨H[j]'(by omega), List.getElem?_eq_getElem _⟩
    obtain ⟨p, hp, hpe⟩ : ∃ p, P[j]? = some p ∧ p.e = e := by
      have h9 := he
      rw [← h.es, List.getElem?_map] at h9
      cases hq : P[j]? with
      | none => rw [hq] at h9; cases h9
      | some p => rw [hq] at h9; exact ⟨p, rfl, Option.some.inj h9⟩
    obtain ⟨g, o, rfl, hg, y0, y1, -, -, -, -⟩ := h.esat.at hp
    rw [hpe] at y0 y1
    rw [vAt_succ, he] at hof
    have hof' : R.of = e.v := hof
    have hst : e.s = ((F + (j + 1) : Nat) : Int) := by rw [h.st j e he]; omega
    rw [hst] at y0
    rw [hof']
    have hjN : (j : Int) < (N : Int) := by omega
    have hj1 : ((j + 1 : Nat) : Int) - 1 = (j : Int) := by omega
    have hNK' : (N : Int) - (K : Int) = (j : Int) + 1 := by omega
    obtain ⟨FF, hFF⟩ : ∃ FF, F + (j + 1) = FF := ⟨_, rfl⟩
    rw [hFF] at y0 ⊢
    clear h k1 k2 k3 k4 k5 k6 hof hof' hN hK hd hNK hst he hp hpe hFF hj1
    go_enter Try.func41, Try.ntmps41
    go_wp2_with fail
    go_quiet (fail)
    go_wp2_with fail
    go_quiet (fail)
    go_wp2_with fail
    go_ret2
    exact ⟨rfl, below_drewN (below_drewN (Below.refl _ _) _) _⟩
set_option maxHeartbeats 1600000 in
theorem rLast {w0 : World} (w : World) (bx : Nat) {R : RingT} {F : Nat} {O : Int} {H : List EnT} {P : List PEnt} {la : Option Addr} {lc : Nat} (h : RefAt w0 w bx R F O H P la lc) :
    Calls Try.prog 40 #[.pointer (some ⟨bx, 0, none⟩)] w fun e w' => e = .returned (.tuple #[.int .i64 (R.last : Nat), .int .i64 R.top]) ∧ Below w.heap.size w w' := by
  obtain ⟨c0, c1, c2, c3, c4, c5⟩ := cells_6 h.box
  obtain ⟨k1, k2, k3, k4, k5, k6⟩ := h.kept
  have hof : R.top = vAt O H H.length := h.hist.top
  obtain ⟨N, hN⟩ : ∃ N, H.length = N := ⟨_, rfl⟩
  rw [hN] at c4 k4 hof
  rw [k4] at k5
  rw [k4]
  have hN2 : N ≤ 2147483647 := by omega
  cases N with
  | zero =>
    have hof' : R.top = O := hof
    rw [hof']
    clear h k1 k2 k3 k4 k5 k6 hof hof' hN
    go_enter Try.func40, Try.ntmps40
    go_wp2_with fail
    go_quiet (fail)
    go_wp2_with fail
    go_ret2
    exact ⟨rfl, below_drewN (Below.refl _ _) _⟩
  | succ j =>
    obtain ⟨e, he⟩ : ∃ e, H[j]? = some e := ⟨H[j]'(by omega), List.getElem?_eq_getElem _⟩
    obtain ⟨p, hp, hpe⟩ : ∃ p, P[j]? = some p ∧ p.e = e := by
      have h9 := he
      rw [← h.es, List.getElem?_map] at h9
      cases hq : P[j]? with
      | none => rw [hq] at h9; cases h9
      | some p => rw [hq] at h9; exact ⟨p, rfl, Option.some.inj h9⟩
    obtain ⟨g, o, rfl, hg, y0, y1, -, -, -, -⟩ := h.esat.at hp
    rw [hpe] at y0 y1
    rw [vAt_succ, he] at hof
    have hof' : R.top = e.v := hof
    have hst : e.s = ((F + (j + 1) : Nat) : Int) := by rw [h.st j e he]; omega
    rw [hst] at y0
    rw [hof']
    obtain ⟨FF, hFF⟩ : ∃ FF, F + (j + 1) = FF := ⟨_, rfl⟩
    rw [hFF] at y0 ⊢
    obtain ⟨N, hNj⟩ : ∃ N, j + 1 = N := ⟨_, rfl⟩
    rw [hNj] at c4
    have hjN : (j : Int) < (N : Int) := by omega
    have hN0 : ¬ N = 0 := by omega
    have hNp : (N : Int) - 1 = (j : Int) := by omega
    have hN3 : N ≤ 2147483647 := by omega
    clear h k1 k2 k3 k4 k5 k6 hof hof' hN hst he hp hpe hFF hNj hN2
    go_enter Try.func40, Try.ntmps40
    go_wp2_with fail
    go_quiet (fail)
    go_wp2_with fail
    go_ret2
    exact ⟨rfl, below_drewN (Below.refl _ _) _⟩
set_option maxHeartbeats 1600000 in
theorem rHeld {w0 : World} (w : World) (bx : Nat) {R : RingT} {F : Nat} {O : Int} {H : List EnT} {P : List PEnt} {la : Option Addr} {lc : Nat} (h : RefAt w0 w bx R F O H P la lc) :
    Calls Try.prog 43 #[.pointer (some ⟨bx, 0, none⟩)] w fun e w' => e = .returned (.int .i64 R.hold) ∧ w' = w := by
  obtain ⟨c0, c1, c2, c3, c4, c5⟩ := cells_6 h.box
  clear h
  go_enter Try.func43, Try.ntmps43
  go_wp2_with fail
  go_ret
  exact ⟨rfl, rfl⟩
theorem slice_tail (a : Option Addr) (n k c : Nat) (P : List PEnt) (w : World) (hk : k ≤ n) (hn : n ≤ c) (h0 : a = none → n = 0 ∧ c = 0) (he : EsAt w a P) (hl : P.length = n) :
    ∃ a' c', (∀ w', (Instr.sliceAt 25 (.slice a n c) (some (.int .i64 k)) none none).run Try.prog w' = .ok (.slice a' (n - k) c') w') ∧ EsAt w a' (P.drop k) := by
  have a1 : Try.prog.underlying 25 = some (.slice 33) := Try.underlying25
  cases a with
  | none =>
    obtain ⟨rfl, rfl⟩ := h0 rfl
    obtain rfl : k = 0 := by omega
    refine ⟨none, 0, fun w' => ?_, he⟩
    simp [Instr.sliceAt, Instr.sliceBounds, go_sem, a1, Try.sizeOf33]
  | some ad =>
    have h1 : (k : Int) ≤ n := by omega
    have h2 : (n : Int) ≤ c := by omega
    by_cases hkc : k = c
    · refine ⟨some ad, c - k, fun w' => ?_, ?_⟩
      · have h3 : c - k = 0 := by omega
        simp [Instr.sliceAt, Instr.sliceBounds, go_sem, a1, Try.sizeOf33, hk, hn, h1, h2, h3, hkc]
        intro h
        omega
      · rw [List.drop_of_length_le (by omega)]
        exact ⟨.inl rfl, fun p hp => by cases hp⟩
    · refine ⟨some (ad.add (k * 6)), c - k, fun w' => ?_, ?_⟩
      · have h3 : c - k ≠ 0 := by omega
        have h4 : ¬ c = k := by omega
        simp [Instr.sliceAt, Instr.sliceBounds, go_sem, a1, Try.sizeOf33, hk, hn, h1, h2, h3, hkc, h4]
      · rcases he.ls with h5 | ⟨b, o, ha, _⟩
        · subst h5
          simp only [List.drop_nil]
          exact ⟨.inl rfl, fun p hp => by cases hp⟩
        · cases ha
          rw [addr_add]
          exact he.drop k
theorem RefAt.form {w0 w : World} {bx : Nat} {R : RingT} {F : Nat} {O : Int} {H : List EnT} {P : List PEnt} {la : Option Addr} {lc : Nat} (h : RefAt w0 w bx R F O H P la lc) : H.length ≤ lc ∧ lc ≤ maxLen ∧ (la = none → H.length = 0 ∧ lc = 0) := by
  have hr := h.mem.row
  rw [h.len] at hr
  rcases hr.2 with ⟨h0, h1⟩ | ⟨g, cap, cur, hv, _, _, hn, hm, _⟩
  · simp only [Value.slice.injEq] at h0
    obtain ⟨rfl, -, rfl⟩ := h0
    exact ⟨by omega, Nat.zero_le _, fun _ => ⟨h1, rfl⟩⟩
  · cases hv
    exact ⟨hn, hm, fun e => by cases e⟩
set_option maxHeartbeats 1600000 in
theorem rAll {w0 : World} (w : World) (bx : Nat) {R : RingT} {F : Nat} {O : Int} {H : List EnT} {P : List PEnt} {la : Option Addr} {lc : Nat} (h : RefAt w0 w bx R F O H P la lc) :
    Calls Try.prog 47 #[.pointer (some ⟨bx, 0, none⟩)] w fun e w' => ∃ a c Q, e = .returned (.slice a R.l.length c) ∧ Q.map (·.e) = R.l ∧ EsAt w' a Q ∧ Below w.heap.size w w' := by
  obtain ⟨c0, c1, c2, c3, c4, c5⟩ := cells_6 h.box
  obtain ⟨k1, k2, k3, k4, k5, k6⟩ := h.kept
  obtain ⟨f1, f2, f3⟩ := h.form
  obtain ⟨a', c', hsl, hes⟩ := slice_tail la H.length (H.length - R.l.length) lc P w (by omega) f1 f3 h.esat h.len
  rw [show H.length - (H.length - R.l.length) = R.l.length by omega] at hsl
  have HES : Hid (EsAt w a' (P.drop (H.length - R.l.length))) := hes
  have HQ : Hid ((P.drop (H.length - R.l.length)).map (·.e) = R.l) := by show _ = _; rw [List.map_drop, h.es]; exact k3.symm
  obtain ⟨N, hN⟩ : ∃ N, H.length = N := ⟨_, rfl⟩
  obtain ⟨K, hK⟩ : ∃ K, R.l.length = K := ⟨_, rfl⟩
  rw [hN] at c4
  rw [hK] at c5
  rw [hN, hK] at hsl k2 HES HQ
  rw [hN] at k4
  rw [hK]
  have hN2 : N ≤ 2147483647 := by omega
  obtain ⟨D, hD⟩ : ∃ D, N - K = D := ⟨_, rfl⟩
  rw [hD] at hsl HES HQ
  have hNK : (N : Int) - (K : Int) = (D : Int) := by omega
  have hw1 : IntKind.i64.wrap (D : Int) = (D : Int) := by rw [IntKind.wrap_i64]; omega
  have hw2 : IntKind.i64.wrap ((N : Int) - (K : Int)) = (D : Int) := by rw [hNK]; exact hw1
  clear h k1 k2 k3 k4 k5 k6 hN hK f1 f2 f3 hes hD
  go_enter Try.func47, Try.ntmps47
  go_wp2_with fail
  go_quiet (fail)
  go_wp2_with fail
  go_ret
  exact ⟨_, _, _, rfl, HQ.out, HES.out.below (below_drewN (Below.refl _ _) _), below_drewN (Below.refl _ _) _⟩
end Go.Proofs.Ytonppfnjeomcoaa
