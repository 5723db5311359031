/-
  did, kind by kind.
-/
import Derived.Test.YtonppfnjeomcoaaRDid
namespace Go.Proofs.Ytonppfnjeomcoaa
open Go.RowKit Classical
set_option linter.unusedVariables false
set_option linter.unusedSimpArgs false

theorem nearE_ops (A : ActT) (L O : Int) : (A.nearE L O).ops = A.e.ops := by dsimp only [ActT.nearE]
set_option maxHeartbeats 3200000 in
set_option maxRecDepth 100000 in
theorem did_1 (b : Nat) (R : RingT) (A : ActT) (held : Int) (a : Option Addr) (c n : Nat) (w : World) (h : RingAt w b R) (ho : Os w a A.e.ops) (hn : A.e.ops.length = n) (hs : A.e.Small) (hk : A.kd = 1) :
    Calls Try.prog 22 #[.pointer (some ⟨b, 0, none⟩), A.val (.slice a n c), .int .i64 held] w fun e' w' => e' = .returned (.tuple #[.bool (decide (R.may (A.nearE R.last R.top) = 0)), .int .i64 held]) ∧ RStep w w' (some ⟨b, 0, none⟩) (if R.may (A.nearE R.last R.top) = 0 then R.app (A.nearE R.last R.top) else R) := by
  obtain ⟨kd, N, M, e⟩ := A
  have hk' : kd = 1 := hk
  clear hk
  subst hk'
  obtain ⟨E, hE⟩ : ∃ E, ActT.nearE ⟨1, N, M, e⟩ R.last R.top = E := ⟨_, rfl⟩
  have hEo : E.ops = e.ops := by rw [← hE]; exact nearE_ops _ _ _
  have hs' : e.Small := hs
  have hEs : E.Small := by
    obtain ⟨u1, u2⟩ := hs'
    rw [← hEo] at u1 u2
    exact ⟨u1, u2⟩
  obtain ⟨L, hL⟩ : ∃ L : Int, ((R.last : Nat) : Int) = L := ⟨_, rfl⟩
  obtain ⟨O, hO⟩ : ∃ O : Int, R.top = O := ⟨_, rfl⟩
  have HNR : Hid (∀ w', Calls Try.prog 37 #[.int .i64 L, .int .i64 O, ActT.val ⟨1, N, M, e⟩ (.slice a n c)] w' fun e' w'' => e' = .returned (E.val (.slice a n c)) ∧ Below w'.heap.size w' w'') := fun w' => by
    have hq := near_eq L O ⟨1, N, M, e⟩ a n c w'
    rw [← hL, ← hO] at hq
    rw [← hE, ← hL, ← hO]
    exact hq
  show Calls _ _ _ _ fun e' w' => e' = .returned (.tuple #[.bool (decide (R.may (ActT.nearE ⟨1, N, M, e⟩ R.last R.top) = 0)), .int .i64 held]) ∧ RStep w w' (some ⟨b, 0, none⟩) (if R.may (ActT.nearE ⟨1, N, M, e⟩ R.last R.top) = 0 then R.app (ActT.nearE ⟨1, N, M, e⟩ R.last R.top) else R)
  rw [hE]
  obtain ⟨R', hR'⟩ : ∃ R', (if R.may E = 0 then R.app E else R) = R' := ⟨_, rfl⟩
  obtain ⟨x, hx⟩ : ∃ x, R.may E = x := ⟨_, rfl⟩
  have HL : Hid (∀ w', Below w.heap.size w w' → _) := fun w' hb => last_any (some ⟨b, 0, none⟩) R w' (.inr ⟨b, rfl, h.below hb⟩)
  have HT : Hid (∀ w', Below w.heap.size w w' → _) := fun w' hb => twin_any E a n c w' (by rw [hEo]; exact ho.below hb) (by rw [hEo]; exact hn) (by have := hs.len; rw [← hn]; exact this)
  have HA : Hid (∀ w' a' c', Below w.heap.size w w' → Os w' a' E.ops → (∀ b' o', a' = some ⟨b', o', none⟩ → w.heap.size ≤ b') → _) := fun w' a' c' hb ho' hnb => append_any (some ⟨b, 0, none⟩) R E a' n c' w' (.inr ⟨b, rfl, h.below hb⟩) (by rw [hEo]; exact hn) ho' (fun b' o' he hc => by have h1 := hnb b' o' he; have h2 := h.lt; cases hc; omega) hEs
  rw [hR'] at HA ⊢
  rw [hx] at HA ⊢
  rw [hL, hO] at HL
  clear hL hO
  have hlt := h.lt
  clear h ho hn hs hR' hx hE hEo hEs
  obtain ⟨es, ev, ek, ese, erq, eops⟩ := E
  go_enter Try.func22, Try.ntmps22
  go_wp2_with fail
  refine Calls.mono (HL.out _ ((Below.refl _ _).alloc (Nat.le_refl _) _)) ?_
  rintro e' w1 ⟨rfl, hb1⟩
  have HB1 : Hid (Below w.heap.size w w1) := trans2 ((Below.refl _ _).alloc (Nat.le_refl _) _) hb1
  have HP1 : Hid (w1.heap[w.heap.size]? = some (.cells #[.int .i64 1, .int .i64 N, .int .i64 M, .int .i64 e.s, .int .i64 e.v, .int .i64 e.k, .int .i64 e.se, .int .i64 e.rq, .slice a n c] 55 (0, 0))) := kept_block hb1 (heap_alloc_new _ _)
  obtain ⟨t0, t1, t2, t3, t4, t5, t6, t7, t8⟩ := cells_9 HP1.out
  clear hb1
  go_wp2_with fail
  refine Calls.mono (HNR.out _) ?_
  rintro e' wn ⟨rfl, hbn⟩
  have HBn : Hid (Below w.heap.size w wn) := trans2 HB1.out hbn
  clear hbn
  go_wp2_with fail
  refine Calls.mono (HT.out _ (HBn.out.alloc HBn.out.size _)) ?_
  rintro e' w2 ⟨a', c', rfl, ho', hnb, hb2⟩
  have HB2 : Hid (Below w.heap.size w w2) := trans2 (HBn.out.alloc HBn.out.size _) hb2
  have HA2 : Hid _ := HA.out w2 a' c' HB2.out ho' (fun b' o' he => by have h1 := hnb b' o' he; have h2 := HBn.out.size; rw [World.size_alloc] at h1; omega)
  clear ho' hnb hb2 HA HT
  go_wp2_with fail
  refine Calls.mono HA2.out ?_
  rintro e' w3 ⟨rfl, hst⟩
  have HST : Hid (RStep w2 w3 (some ⟨b, 0, none⟩) R') := hst
  clear hst
  go_wp2_with fail
  go_ret2
  refine ⟨by congr 2, HST.out.rp, (Chg.of_below HB2.out _).trans HST.out.chg⟩
end Go.Proofs.Ytonppfnjeomcoaa
