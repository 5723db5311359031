/-
  RingHolds: the entries that are sure, in memory of their own.
-/
import Derived.Test.YtonppfnjeomcoaaRGood
import Derived.Test.YtonppfnjeomcoaaRTwo
namespace Go.Proofs.Ytonppfnjeomcoaa
open Go.RowKit Classical
set_option linter.unusedVariables false
set_option linter.unusedSimpArgs false

set_option maxHeartbeats 3200000 in
set_option maxRecDepth 100000 in
/-- twin: the ops lie in memory of their own. -/
theorem twin_own (e : EnT) (a : Option Addr) (n c : Nat) (w : World) (ho : Os w a e.ops) (hn : e.ops.length = n) (hl : n * 56 ≤ 140737488355328) :
    Calls Try.prog 23 #[e.val (.slice a n c)] w fun e' w' => ∃ a' c', e' = .returned (e.val (.slice a' n c')) ∧ OwnOps w' (.slice a' n c') e.ops ∧ Below w.heap.size w w' := by
  have HO : Hid (∀ w', Below w.heap.size w w' → _) := fun w' hb => ops_any a c n e.ops w' (ho.below hb) hn hl
  have HN : Hid (e.ops.length = n) := hn
  clear ho hn
  obtain ⟨s, v, k, se, rq, l⟩ := e
  go_enter Try.func23, Try.ntmps23
  go_wp2_with fail
  refine Calls.mono (HO.out _ (((Below.refl _ _).alloc (Nat.le_refl _) _).alloc (by simp) _)) ?_
  rintro e' w1 ⟨x, rfl, hown, hb⟩
  have HX : Hid _ := hown
  obtain ⟨a', c', rfl, -, hfm⟩ := owns_form hown
  have HA : Hid (w1.heap[w.heap.size]? = some (.cells #[.int .i64 s, .int .i64 v, .int .i64 k, .int .i64 se, .int .i64 rq, .slice a n c] 33 (0, 0))) := kept_block hb (new_old (heap_new' rfl) _)
  have HR : Hid (w1.heap[w.heap.size + 1]? = some (.cells #[.int .i64 0, .int .i64 0, .int .i64 0, .int .i64 0, .int .i64 0, .slice none 0 0] 33 (0, 0))) := kept_block hb (heap_new' (by simp))
  obtain ⟨q0, q1, q2, q3, q4, q5⟩ := cells_6 HA.out
  have HB : Hid (Below w.heap.size w w1) := trans2 (((Below.refl _ _).alloc (Nat.le_refl _) _).alloc (by simp) _) hb
  have f1 : ∀ o, w1.frozen? ⟨w.heap.size, o, none⟩ = false := fun o => by simp [World.frozen?, HA.out]
  obtain ⟨r0, r1, r2, r3, r4, r5⟩ := cells_6 HR.out
  have f2 : ∀ o, w1.frozen? ⟨w.heap.size + 1, o, none⟩ = false := fun o => by simp [World.frozen?, HR.out]
  clear hb hown hfm
  go_wp2_with fail
  have h5 : (w1.setCell ⟨w.heap.size, 5, none⟩ (.slice a' n c')).heap[w.heap.size + 1]? = _ := other_blk HR.out (by omega)
  refine bodyPost_ret (results_cell_row rfl _ _ (w.heap.size + 1) 33 _ (0, 0) _ rfl (fill_6 h5) Try.underlying33 rfl (by kernel_rfl)) rfl ⟨_, _, rfl, ?_, fillB_6 (HB.out.setCell (Nat.le_refl _) _) (by omega)⟩
  have hc7 : Chg w1 (put_6 (w1.setCell ⟨w.heap.size, 5, none⟩ (.slice a' n c')) (w.heap.size + 1) (.int .i64 s) (.int .i64 v) (.int .i64 k) (.int .i64 se) (.int .i64 rq) (.slice a' n c')) (fun k => k < w.heap.size + 2) :=
    ((((((chg_lt (by omega)).trans (chg_lt (by omega))).trans (chg_lt (by omega))).trans (chg_lt (by omega))).trans (chg_lt (by omega))).trans (chg_lt (by omega))).trans (chg_lt (by omega))
  have ho := owns_lower HX.out
  have ho' : w1.ownsRow 0 44 5 (.slice a' n c') l.length (opCs l) := by
    have h9 : l.length = n := HN.out
    rw [h9]; exact ho
  refine owns_chg ho' hc7 (fun q hq e => ?_)
  have hx : w1.ownsRow _ 44 5 (.slice a' n c') n (opCs l) := HX.out
  have := (hx.lt q hq).1
  simp at this
  omega
/-- Entries in memory of their own, behind a base. -/
structure SureAt (w0 w : World) (sv : Value) (P : List PEnt) : Prop where
  row : w.ownsRow w0.heap.size 33 6 sv P.length (rowCs PEnt.cells P)
  ops : ∀ p ∈ P, OwnOps w p.x p.e.ops
theorem SureAt.nil (w0 w : World) : SureAt w0 w (.slice none 0 0) [] := ⟨World.ownsRow_nil _ _ _ _, fun p hp => by cases hp⟩
theorem SureAt.below {w0 w w' : World} {sv : Value} {P : List PEnt} (h : SureAt w0 w sv P) (hb : Below w.heap.size w w') : SureAt w0 w' sv P :=
  ⟨owns_chg h.row (Chg.of_below hb (fun _ => False)) (fun _ _ e => e), fun p hp => owns_below (h.ops p hp) hb⟩
/-- A call that turns the ring leaves them. -/
theorem SureAt.other {w0 w w' : World} {sv : Value} {P : List PEnt} {b : Nat} {R : RingT} (h : SureAt w0 w sv P) (hr : RingAt w b R) (hc : Chg w w' (fun k => (some ⟨b, 0, none⟩ : Option Addr) = some ⟨k, 0, none⟩)) : SureAt w0 w' sv P := by
  have hb : ∀ k, (some ⟨b, 0, none⟩ : Option Addr) = some ⟨k, 0, none⟩ → k = b := fun k e => by cases e; rfl
  refine ⟨owns_chg h.row hc (fun k hk e => ?_), fun p hp => owns_chg (h.ops p hp) hc (fun k hk e => hr.ne (h.ops p hp) hk (hb k e))⟩
  obtain ⟨cur, hcu⟩ := owns_kind h.row hk
  obtain ⟨cs, hx, _⟩ := hr.box
  rw [hb k e, hx] at hcu
  cases hcu
/-- One more. -/
theorem SureAt.put {w0 w w1 : World} {sv sv' : Value} {P : List PEnt} {p : PEnt} (h : SureAt w0 w sv P) (ho : OwnOps w p.x p.e.ops)
    (hrow : w1.ownsRow w0.heap.size 33 6 sv' (P.length + 1) (rowCs PEnt.cells P ++ p.cells)) (hg : w.grownBy w1 sv.ownBlock) : SureAt w0 w1 sv' (P ++ [p]) := by
  have hc : Chg w w1 (fun k => sv.ownBlock = some k) := Chg.grown hg
  have no : ∀ {y : Value} {ops : List OpT}, OwnOps w y ops → ∀ k, y.ownBlock = some k → ¬ sv.ownBlock = some k := fun hy k hk e => by
    obtain ⟨cur, h1⟩ := owns_kind hy hk
    obtain ⟨cur', h2⟩ := owns_kind h.row e
    rw [h1] at h2
    cases h2
  refine ⟨?_, fun y hy => ?_⟩
  · rw [List.length_append, rowCs_append]
    have e1 : rowCs PEnt.cells [p] = p.cells := by simp [rowCs]
    rw [e1]
    exact hrow
  · rcases List.mem_append.1 hy with hy | hy
    · exact owns_chg (h.ops y hy) hc (no (h.ops y hy))
    · rw [List.mem_singleton] at hy
      subst hy
      exact owns_chg ho hc (no ho)
end Go.Proofs.Ytonppfnjeomcoaa
