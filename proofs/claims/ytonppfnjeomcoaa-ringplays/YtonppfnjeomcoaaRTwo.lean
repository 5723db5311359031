/-
  RingTwoRooms: the walk.
-/
import Derived.Test.YtonppfnjeomcoaaRHist
import Derived.Test.YtonppfnjeomcoaaRNoWalk
import Derived.Test.YtonppfnjeomcoaaRTells
namespace Go.Proofs.Ytonppfnjeomcoaa
open Go.RowKit Classical
set_option linter.unusedVariables false
set_option linter.unusedSimpArgs false

theorem RingAt.other {w w' : World} {b b' : Nat} {R R' : RingT} (h : RingAt w b R) (h' : RingAt w b' R') (hc : Chg w w' (fun k => (some ⟨b', 0, none⟩ : Option Addr) = some ⟨k, 0, none⟩)) (hne : b ≠ b') : RingAt w' b R := by
  have hn : ∀ k, k ≠ b' → ¬ (some ⟨b', 0, none⟩ : Option Addr) = some ⟨k, 0, none⟩ := fun k hk e => by cases e; exact hk rfl
  have hb := hc.block b h.lt (hn b hne)
  obtain ⟨cs, hx, hz⟩ := h.box
  have hx' : w'.heap[b]? = some (.cells cs 61 (0, 0)) := by rw [hb]; exact hx
  have hcc : ∀ o v, w.cell? ⟨b, o, none⟩ = some v → w'.cell? ⟨b, o, none⟩ = some v := fun o v hv => by rw [cell_blk hx', ← cell_blk hx]; exact hv
  refine ⟨h.ok, ⟨cs, hx', hz⟩, hcc _ _ h.room, hcc _ _ h.floor, hcc _ _ h.of, hcc _ _ h.hold, hcc _ _ h.last, fun k e hk => ?_⟩
  obtain ⟨x, ho, hv⟩ := h.ents k e hk
  exact ⟨x, owns_chg ho hc (fun q hq => hn q (h'.ne ho hq)), fun j v hj => hcc _ _ (hv j v hj)⟩
/-- did at one of two rings. -/
theorem did_both (b b2 : Nat) (R S : RingT) (x : PAct) (held : Int) (w0 w : World) (hbase : w0.heap.size ≤ b) (hb0 : Below w0.heap.size w0 w) (h : RingAt w b R) (h2 : RingAt w b2 S) (hne : b2 ≠ b) (ho : Os w x.a x.A.e.ops) (hs : x.A.e.Small) :
    Calls Try.prog 22 #[.pointer (some ⟨b, 0, none⟩), x.A.val (.slice x.a x.A.e.ops.length x.c), .int .i64 held] w fun e' w' => ∃ t h' R', Acted x.A held R t h' R' ∧ e' = .returned (.tuple #[.bool t, .int .i64 h']) ∧ RingAt w' b R' ∧ RingAt w' b2 S ∧ Below w0.heap.size w0 w' := by
  refine (did_any b R x.A held x.a x.c x.A.e.ops.length w h ho rfl hs).mono ?_
  rintro e' w' ⟨t, h', R', ha, rfl, hst⟩
  refine ⟨t, h', R', ha, rfl, ?_, h2.other h hst.chg hne, hb0.trans (hst.chg.below (B := w0.heap.size) hb0.size (fun k _ e => by cases e; exact hbase))⟩
  rcases hst.rp with ⟨h, _⟩ | ⟨b', he, hr⟩
  · cases h
  · cases he; exact hr
theorem all_at (b : Nat) (R : RingT) (w : World) (h : RingAt w b R) :
    Calls Try.prog 11 #[.pointer (some ⟨b, 0, none⟩)] w fun e w' => ∃ a c P, e = .returned (.tuple #[.slice a R.l.length c, .bool true]) ∧ P.map (·.e) = R.l ∧ EsAt w' a P ∧ (a = none → R.l.length = 0 ∧ c = 0) ∧ R.l.length ≤ c ∧ Below w.heap.size w w' := by
  have hP : RP w (some ⟨b, 0, none⟩) R := .inr ⟨b, rfl, h⟩
  refine (all_any (some ⟨b, 0, none⟩) R w hP).mono ?_
  rintro e w' ⟨v, P, rfl, hm, he, hb⟩
  have hl : P.length = R.l.length := by rw [← hm, List.length_map]
  obtain ⟨a, c, rfl, hes⟩ := ents_form he (fun p hp => by
    have h1 := (hP.small.2 p.e (by rw [← hm]; exact List.mem_map_of_mem hp)).len
    unfold maxLen; omega)
  rw [← hl]
  refine ⟨a, c, P, rfl, hm, hes, fun ha => ?_, ?_, hb⟩
  · rcases he.row.2 with ⟨hv, h0⟩ | ⟨g, cap, cur, hv, _⟩
    · exact ⟨h0, by injection hv⟩
    · rw [ha] at hv; cases hv
  · rcases he.row.2 with ⟨_, h0⟩ | ⟨g, cap, cur, hv, _, _, h1, _⟩
    · omega
    · cases hv; omega
/-- The entries from a place on. -/
theorem slice_from (a : Option Addr) (n k c : Nat) (P : List PEnt) (w : World) (hk : k ≤ n) (hn : n ≤ c) (h0 : a = none → n = 0 ∧ c = 0) (he : EsAt w a P) (hl : P.length = n) (hc : n ≤ 64) :
    ∃ a' c', (∀ w', (Instr.sliceAt 25 (.slice a n c) (some (.int .i64 k)) none none).run Try.prog w' = .ok (.slice a' (n - k) c') w') ∧ EsAt w a' (P.drop k) := by
  have a1 : Try.prog.underlying 25 = some (.slice 33) := Try.underlying25
  cases a with
  | none =>
    obtain ⟨rfl, rfl⟩ := h0 rfl
    obtain rfl : k = 0 := by omega
    refine ⟨none, 0, fun w' => ?_, he⟩
    simp [Instr.sliceAt, Instr.sliceBounds, go_sem, a1, Try.sizeOf33]
  | some ad =>
    have h1 : (k : Int) ≤ n := by omega
    have h2 : (n : Int) ≤ c := by omega
    by_cases hkc : k = c
    · refine ⟨some ad, c - k, fun w' => ?_, ?_⟩
      · have h3 : c - k = 0 := by omega
        simp [Instr.sliceAt, Instr.sliceBounds, go_sem, a1, Try.sizeOf33, hk, hn, h1, h2, h3, hkc]
        intro h
        omega
      · rw [List.drop_of_length_le (by omega)]
        exact ⟨.inl rfl, fun p hp => by cases hp⟩
    · refine ⟨some (ad.add (k * 6)), c - k, fun w' => ?_, ?_⟩
      · have h3 : c - k ≠ 0 := by omega
        have h4 : ¬ c = k := by omega
        simp [Instr.sliceAt, Instr.sliceBounds, go_sem, a1, Try.sizeOf33, hk, hn, h1, h2, h3, hkc, h4]
      · rcases he.ls with h5 | ⟨b, o, ha, _⟩
        · subst h5
          simp only [List.drop_nil]
          exact ⟨.inl rfl, fun p hp => by cases hp⟩
        · cases ha
          rw [addr_add]
          exact he.drop k
end Go.Proofs.Ytonppfnjeomcoaa
