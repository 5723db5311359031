/-
  twin, near, did.
-/
import Derived.Test.YtonppfnjeomcoaaRCutF
import Derived.Test.YtonppfnjeomcoaaRPlayed
namespace Go.Proofs.Ytonppfnjeomcoaa
open Go.RowKit Classical
set_option linter.unusedVariables false
set_option linter.unusedSimpArgs false

def ActT.nearE (A : ActT) (last of : Int) : EnT := ⟨wrap64 (wrap64 (last + 1) + A.n), wrap64 (of + A.m), A.e.k, A.e.se, A.e.rq, A.e.ops⟩
set_option maxHeartbeats 3200000 in
set_option maxRecDepth 100000 in
theorem near_eq (last of : Int) (A : ActT) (a : Option Addr) (n c : Nat) (w : World) :
    Calls Try.prog 37 #[.int .i64 last, .int .i64 of, A.val (.slice a n c)] w fun e' w' => e' = .returned ((A.nearE last of).val (.slice a n c)) ∧ Below w.heap.size w w' := by
  obtain ⟨kd, N, M, e⟩ := A
  go_enter Try.func37, Try.ntmps37
  go_wp2_with fail
  refine bodyPost_ret (results_cell_row rfl _ _ (w.heap.size + 1) 33 _ (0, 0) _ rfl (new_old (heap_new' (by simp)) _) Try.underlying33 rfl (by kernel_rfl)) rfl ⟨by unfold ActT.nearE; rfl, ((((Below.refl _ _).alloc (Nat.le_refl _) _).alloc (by simp) _)).alloc (by simp; omega) _⟩
theorem chg_lt {w : World} {b o B : Nat} {v : Value} (h : b < B) : Chg w (w.setCell ⟨b, o, none⟩ v) (fun k => k < B) := (chg_set1 _ _ _ _).mono (fun k _ e => by omega)
set_option maxHeartbeats 3200000 in
set_option maxRecDepth 100000 in
theorem twin_any (e : EnT) (a : Option Addr) (n c : Nat) (w : World) (ho : Os w a e.ops) (hn : e.ops.length = n) (hl : n * 56 ≤ 140737488355328) :
    Calls Try.prog 23 #[e.val (.slice a n c)] w fun e' w' => ∃ a' c', e' = .returned (e.val (.slice a' n c')) ∧ Os w' a' e.ops ∧ (∀ b' o', a' = some ⟨b', o', none⟩ → w.heap.size ≤ b') ∧ Below w.heap.size w w' := by
  have HO : Hid (∀ w', Below w.heap.size w w' → _) := fun w' hb => ops_any a c n e.ops w' (ho.below hb) hn hl
  have HN : Hid (e.ops.length = n) := hn
  clear ho hn
  obtain ⟨s, v, k, se, rq, l⟩ := e
  go_enter Try.func23, Try.ntmps23
  go_wp2_with fail
  refine Calls.mono (HO.out _ (((Below.refl _ _).alloc (Nat.le_refl _) _).alloc (by simp) _)) ?_
  rintro e' w1 ⟨x, rfl, hown, hb⟩
  have HX : Hid _ := hown
  obtain ⟨a', c', rfl, -, hfm⟩ := owns_form hown
  have HA : Hid (w1.heap[w.heap.size]? = some (.cells #[.int .i64 s, .int .i64 v, .int .i64 k, .int .i64 se, .int .i64 rq, .slice a n c] 33 (0, 0))) := kept_block hb (new_old (heap_new' rfl) _)
  have HR : Hid (w1.heap[w.heap.size + 1]? = some (.cells #[.int .i64 0, .int .i64 0, .int .i64 0, .int .i64 0, .int .i64 0, .slice none 0 0] 33 (0, 0))) := kept_block hb (heap_new' (by simp))
  obtain ⟨q0, q1, q2, q3, q4, q5⟩ := cells_6 HA.out
  have HB : Hid (Below w.heap.size w w1) := trans2 (((Below.refl _ _).alloc (Nat.le_refl _) _).alloc (by simp) _) hb
  have f1 : ∀ o, w1.frozen? ⟨w.heap.size, o, none⟩ = false := fun o => by simp [World.frozen?, HA.out]
  obtain ⟨r0, r1, r2, r3, r4, r5⟩ := cells_6 HR.out
  have f2 : ∀ o, w1.frozen? ⟨w.heap.size + 1, o, none⟩ = false := fun o => by simp [World.frozen?, HR.out]
  clear hb hown hfm
  go_wp2_with fail
  have h5 : (w1.setCell ⟨w.heap.size, 5, none⟩ (.slice a' n c')).heap[w.heap.size + 1]? = _ := other_blk HR.out (by omega)
  refine bodyPost_ret (results_cell_row rfl _ _ (w.heap.size + 1) 33 _ (0, 0) _ rfl (fill_6 h5) Try.underlying33 rfl (by kernel_rfl)) rfl ⟨_, _, rfl, ?_, ?_, fillB_6 (HB.out.setCell (Nat.le_refl _) _) (by omega)⟩
  · have hc7 : Chg w1 (put_6 (w1.setCell ⟨w.heap.size, 5, none⟩ (.slice a' n c')) (w.heap.size + 1) (.int .i64 s) (.int .i64 v) (.int .i64 k) (.int .i64 se) (.int .i64 rq) (.slice a' n c')) (fun k => k < w.heap.size + 2) :=
      ((((((chg_lt (by omega)).trans (chg_lt (by omega))).trans (chg_lt (by omega))).trans (chg_lt (by omega))).trans (chg_lt (by omega))).trans (chg_lt (by omega))).trans (chg_lt (by omega))
    have ho := owns_lower HX.out
    refine ls_of_row op_len (owns_chg ho hc7 (fun q hq e => ?_)) (by decide) HN.out.symm
    have hx : w1.ownsRow _ 44 5 (.slice a' n c') n (opCs l) := HX.out
    have := (hx.lt q hq).1
    simp at this
    omega
  · intro b' o' he
    subst he
    have hx : w1.ownsRow _ 44 5 (.slice (some ⟨b', o', none⟩) n c') n (opCs l) := HX.out
    obtain ⟨a1, c1, hv, -, hh⟩ := owns_form hx
    cases hv
    obtain ⟨g, hg⟩ := hh _ rfl
    cases hg
    have := (hx.lt b' rfl).1
    simp at this
    omega
set_option maxHeartbeats 3200000 in
set_option maxRecDepth 100000 in
theorem did_2 (b : Nat) (R : RingT) (A : ActT) (held : Int) (a : Option Addr) (c n : Nat) (w : World) (h : RingAt w b R) (ho : Os w a A.e.ops) (hn : A.e.ops.length = n) (hs : A.e.Small) (hk : A.kd = 2) :
    Calls Try.prog 22 #[.pointer (some ⟨b, 0, none⟩), A.val (.slice a n c), .int .i64 held] w fun e' w' => e' = .returned (.tuple #[.bool (decide (R.may A.e = 0)), .int .i64 held]) ∧ RStep w w' (some ⟨b, 0, none⟩) (if R.may A.e = 0 then R.app A.e else R) := by
  obtain ⟨kd, N, M, e⟩ := A
  have hk' : kd = 2 := hk
  clear hk
  subst hk'
  obtain ⟨R', hR'⟩ : ∃ R', (if R.may e = 0 then R.app e else R) = R' := ⟨_, rfl⟩
  obtain ⟨x, hx⟩ : ∃ x, R.may e = x := ⟨_, rfl⟩
  have HL : Hid (∀ w', Below w.heap.size w w' → _) := fun w' hb => last_any (some ⟨b, 0, none⟩) R w' (.inr ⟨b, rfl, h.below hb⟩)
  have HT : Hid (∀ w', Below w.heap.size w w' → _) := fun w' hb => twin_any e a n c w' (ho.below hb) hn (by have := hs.len; rw [← hn]; exact this)
  have HA : Hid (∀ w' a' c', Below w.heap.size w w' → Os w' a' e.ops → (∀ b' o', a' = some ⟨b', o', none⟩ → w.heap.size ≤ b') → _) := fun w' a' c' hb ho' hnb => append_any (some ⟨b, 0, none⟩) R e a' n c' w' (.inr ⟨b, rfl, h.below hb⟩) hn ho' (fun b' o' he hc => by have h1 := hnb b' o' he; have h2 := h.lt; cases hc; omega) hs
  show Calls _ _ _ _ fun e' w' => e' = .returned (.tuple #[.bool (decide (R.may e = 0)), .int .i64 held]) ∧ RStep w w' (some ⟨b, 0, none⟩) (if R.may e = 0 then R.app e else R)
  rw [hR'] at HA ⊢
  rw [hx] at HA ⊢
  have hlt := h.lt
  clear h ho hn hs hR' hx
  go_enter Try.func22, Try.ntmps22
  go_wp2_with fail
  refine Calls.mono (HL.out _ ((Below.refl _ _).alloc (Nat.le_refl _) _)) ?_
  rintro e' w1 ⟨rfl, hb1⟩
  have HB1 : Hid (Below w.heap.size w w1) := trans2 ((Below.refl _ _).alloc (Nat.le_refl _) _) hb1
  have HP1 : Hid (w1.heap[w.heap.size]? = some (.cells #[.int .i64 2, .int .i64 N, .int .i64 M, .int .i64 e.s, .int .i64 e.v, .int .i64 e.k, .int .i64 e.se, .int .i64 e.rq, .slice a n c] 55 (0, 0))) := kept_block hb1 (heap_alloc_new _ _)
  obtain ⟨t0, t1, t2, t3, t4, t5, t6, t7, t8⟩ := cells_9 HP1.out
  clear hb1
  go_wp2_with fail
  refine Calls.mono (HT.out _ HB1.out) ?_
  rintro e' w2 ⟨a', c', rfl, ho', hnb, hb2⟩
  have HA2 : Hid _ := HA.out w2 a' c' (trans2 HB1.out hb2) ho' (fun b' o' he => Nat.le_trans HB1.out.size (hnb b' o' he))
  have HB2 : Hid (Below w.heap.size w w2) := trans2 HB1.out hb2
  clear ho' hnb hb2 HA HT
  go_wp2_with fail
  refine Calls.mono HA2.out ?_
  rintro e' w3 ⟨rfl, hst⟩
  have HST : Hid (RStep w2 w3 (some ⟨b, 0, none⟩) R') := hst
  clear hst
  go_wp2_with fail
  go_ret2
  refine ⟨by congr 2, HST.out.rp, (Chg.of_below HB2.out _).trans HST.out.chg⟩
end Go.Proofs.Ytonppfnjeomcoaa
