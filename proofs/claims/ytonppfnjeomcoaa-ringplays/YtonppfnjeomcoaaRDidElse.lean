/-
  did, kind by kind.
-/
import Derived.Test.YtonppfnjeomcoaaRDid
namespace Go.Proofs.Ytonppfnjeomcoaa
open Go.RowKit Classical
set_option linter.unusedVariables false
set_option linter.unusedSimpArgs false

set_option maxHeartbeats 3200000 in
set_option maxRecDepth 100000 in
theorem did_else (b : Nat) (R : RingT) (A : ActT) (held : Int) (a : Option Addr) (c n : Nat) (w : World) (h : RingAt w b R) (k1 : A.kd ≠ 1) (k2 : A.kd ≠ 2) (k3 : A.kd ≠ 3) (k4 : A.kd ≠ 4) (k5 : A.kd ≠ 5) (k6 : A.kd ≠ 6) :
    Calls Try.prog 22 #[.pointer (some ⟨b, 0, none⟩), A.val (.slice a n c), .int .i64 held] w fun e' w' => e' = .returned (.tuple #[.bool false, .int .i64 held]) ∧ RStep w w' (some ⟨b, 0, none⟩) R := by
  obtain ⟨kd, N, M, e⟩ := A
  have HL : Hid (∀ w', Below w.heap.size w w' → _) := fun w' hb => last_any (some ⟨b, 0, none⟩) R w' (.inr ⟨b, rfl, h.below hb⟩)
  have HX : Hid (RingAt w b R) := h
  have k1' : (kd == 1) = false := by simpa using k1
  have k2' : (kd == 2) = false := by simpa using k2
  have k3' : (kd == 3) = false := by simpa using k3
  have k4' : (kd == 4) = false := by simpa using k4
  have k5' : (kd == 5) = false := by simpa using k5
  have k6' : (kd == 6) = false := by simpa using k6
  simp only at k1 k2 k3 k4 k5 k6
  clear h
  go_enter Try.func22, Try.ntmps22
  go_wp2_with fail
  refine Calls.mono (HL.out _ ((Below.refl _ _).alloc (Nat.le_refl _) _)) ?_
  rintro e' w1 ⟨rfl, hb1⟩
  have HB1 : Hid (Below w.heap.size w w1) := trans2 ((Below.refl _ _).alloc (Nat.le_refl _) _) hb1
  have HP1 : Hid (w1.heap[w.heap.size]? = some (.cells #[.int .i64 kd, .int .i64 N, .int .i64 M, .int .i64 e.s, .int .i64 e.v, .int .i64 e.k, .int .i64 e.se, .int .i64 e.rq, .slice a n c] 55 (0, 0))) := kept_block hb1 (heap_alloc_new _ _)
  obtain ⟨t0, t1, t2, t3, t4, t5, t6, t7, t8⟩ := cells_9 HP1.out
  clear hb1
  go_wp2_with fail
  go_ret2
  exact ⟨rfl, .inr ⟨b, rfl, HX.out.below HB1.out⟩, Chg.of_below HB1.out _⟩
end Go.Proofs.Ytonppfnjeomcoaa
