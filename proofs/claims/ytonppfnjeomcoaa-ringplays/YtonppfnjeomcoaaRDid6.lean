/-
  did, kind by kind.
-/
import Derived.Test.YtonppfnjeomcoaaRDid
namespace Go.Proofs.Ytonppfnjeomcoaa
open Go.RowKit Classical
set_option linter.unusedVariables false
set_option linter.unusedSimpArgs false

set_option maxHeartbeats 3200000 in
set_option maxRecDepth 100000 in
theorem did_6 (b : Nat) (R : RingT) (A : ActT) (held : Int) (a : Option Addr) (c n : Nat) (w : World) (h : RingAt w b R) (hk : A.kd = 6) :
    Calls Try.prog 22 #[.pointer (some ⟨b, 0, none⟩), A.val (.slice a n c), .int .i64 held] w fun e' w' => e' = .returned (.tuple #[.bool (decide (R.free (A.n) = 0)), .int .i64 held]) ∧ RStep w w' (some ⟨b, 0, none⟩) (if R.free (A.n) = 0 then R.cut (A.n) else R) := by
  obtain ⟨kd, N, M, e⟩ := A
  have hk' : kd = 6 := hk
  clear hk
  subst hk'
  obtain ⟨T, hT⟩ : ∃ T : Int, N = T := ⟨_, rfl⟩
  simp only
  subst hT
  obtain ⟨R', hR'⟩ : ∃ R', (if R.free N = 0 then R.cut N else R) = R' := ⟨_, rfl⟩
  obtain ⟨x, hx⟩ : ∃ x, R.free N = x := ⟨_, rfl⟩
  have HL : Hid (∀ w', Below w.heap.size w w' → _) := fun w' hb => last_any (some ⟨b, 0, none⟩) R w' (.inr ⟨b, rfl, h.below hb⟩)
  have HH : Hid (∀ w', Below w.heap.size w w' → _) := fun w' hb => cut_any (some ⟨b, 0, none⟩) R N w' (.inr ⟨b, rfl, h.below hb⟩)
  rw [hR'] at HH ⊢
  rw [hx] at HH ⊢
  clear h hR' hx
  go_enter Try.func22, Try.ntmps22
  go_wp2_with fail
  refine Calls.mono (HL.out _ ((Below.refl _ _).alloc (Nat.le_refl _) _)) ?_
  rintro e' w1 ⟨rfl, hb1⟩
  have HB1 : Hid (Below w.heap.size w w1) := trans2 ((Below.refl _ _).alloc (Nat.le_refl _) _) hb1
  have HP1 : Hid (w1.heap[w.heap.size]? = some (.cells #[.int .i64 6, .int .i64 N, .int .i64 M, .int .i64 e.s, .int .i64 e.v, .int .i64 e.k, .int .i64 e.se, .int .i64 e.rq, .slice a n c] 55 (0, 0))) := kept_block hb1 (heap_alloc_new _ _)
  obtain ⟨t0, t1, t2, t3, t4, t5, t6, t7, t8⟩ := cells_9 HP1.out
  clear hb1
  go_wp2_with fail
  refine Calls.mono (HH.out _ HB1.out) ?_
  rintro e' w3 ⟨rfl, hst⟩
  have HST : Hid (RStep w1 w3 (some ⟨b, 0, none⟩) R') := hst
  clear hst
  go_wp2_with fail
  go_ret2
  exact ⟨by congr 2, HST.out.rp, (Chg.of_below HB1.out _).trans HST.out.chg⟩
end Go.Proofs.Ytonppfnjeomcoaa
