/-
  ring, own.go: twins.
-/
import Derived.Test.YtnmengoefpdaiaaRAllLN
import Derived.Test.YtnmengoefpdaiaaRCutF
namespace Go.Proofs.Ytnmengoefpdaiaa
open Go.RowKit
set_option linter.unusedVariables false
set_option linter.unusedSimpArgs false

theorem chg_ltN {w : World} {b o B : Nat} {v : Value} (h : b < B) : Chg w (w.setCell ⟨b, o, none⟩ v) (fun k => k < B) := (chg_set1 _ _ _ _).mono (fun k _ e => by omega)
set_option maxHeartbeats 3200000 in
set_option maxRecDepth 100000 in
theorem twinN_any (e : EnT) (a : Option Addr) (n c : Nat) (w : World) (ho : Os w a e.ops) (hn : e.ops.length = n) (hl : n * 56 ≤ 140737488355328) :
    Calls Try.prog 21 #[e.val (.slice a n c)] w fun e' w' => ∃ x, e' = .returned (e.val x) ∧ OwnOps w' x e.ops ∧ (∀ k, x.ownBlock = some k → w.heap.size ≤ k) ∧ Below w.heap.size w w' := by
  have HO : Hid (∀ w', Below w.heap.size w w' → _) := fun w' hb => ops_any a c n e.ops w' (ho.below hb) hn hl
  have HN : Hid (e.ops.length = n) := hn
  clear ho hn
  obtain ⟨s, v, k, se, rq, l⟩ := e
  go_enter Try.func21, Try.ntmps21
  go_wp2_with fail
  refine Calls.mono (HO.out _ (((Below.refl _ _).alloc (Nat.le_refl _) _).alloc (by simp) _)) ?_
  rintro e' w1 ⟨x, rfl, hown, hb⟩
  have HX : Hid _ := hown
  obtain ⟨a', c', rfl, -, hfm⟩ := owns_form hown
  have HA : Hid (w1.heap[w.heap.size]? = some (.cells #[.int .i64 s, .int .i64 v, .int .i64 k, .int .i64 se, .int .i64 rq, .slice a n c] 38 (0, 0))) := kept_block hb (new_old (heap_new' rfl) _)
  have HR : Hid (w1.heap[w.heap.size + 1]? = some (.cells #[.int .i64 0, .int .i64 0, .int .i64 0, .int .i64 0, .int .i64 0, .slice none 0 0] 38 (0, 0))) := kept_block hb (heap_new' (by simp))
  obtain ⟨q0, q1, q2, q3, q4, q5⟩ := cells_6 HA.out
  have HB : Hid (Below w.heap.size w w1) := trans2 (((Below.refl _ _).alloc (Nat.le_refl _) _).alloc (by simp) _) hb
  have f1 : ∀ o, w1.frozen? ⟨w.heap.size, o, none⟩ = false := fun o => by simp [World.frozen?, HA.out]
  obtain ⟨r0, r1, r2, r3, r4, r5⟩ := cells_6 HR.out
  have f2 : ∀ o, w1.frozen? ⟨w.heap.size + 1, o, none⟩ = false := fun o => by simp [World.frozen?, HR.out]
  clear hb hown hfm
  go_wp2_with fail
  have h5 : (w1.setCell ⟨w.heap.size, 5, none⟩ (.slice a' n c')).heap[w.heap.size + 1]? = _ := other_blk HR.out (by omega)
  refine bodyPost_ret (results_cell_row rfl _ _ (w.heap.size + 1) 38 _ (0, 0) _ rfl (fill_6 h5) Try.underlying38 rfl (by kernel_rfl)) rfl ⟨_, rfl, ?_, ?_, fillB_6 (HB.out.setCell (Nat.le_refl _) _) (by omega)⟩
  · have hc7 : Chg w1 (put_6 (w1.setCell ⟨w.heap.size, 5, none⟩ (.slice a' n c')) (w.heap.size + 1) (.int .i64 s) (.int .i64 v) (.int .i64 k) (.int .i64 se) (.int .i64 rq) (.slice a' n c')) (fun k => k < w.heap.size + 2) :=
      ((((((chg_ltN (by omega)).trans (chg_ltN (by omega))).trans (chg_ltN (by omega))).trans (chg_ltN (by omega))).trans (chg_ltN (by omega))).trans (chg_ltN (by omega))).trans (chg_ltN (by omega))
    have ho := owns_lower HX.out
    have hx : w1.ownsRow _ 49 5 (.slice a' n c') n (opCs l) := HX.out
    have h9 := owns_chg ho hc7 (fun q hq e => by have := (hx.lt q hq).1; simp at this; omega)
    show World.ownsRow _ _ _ _ _ _ _
    rw [show l.length = n from HN.out]
    exact h9
  · intro q hq
    have hx : w1.ownsRow _ 49 5 (.slice a' n c') n (opCs l) := HX.out
    have := (hx.lt q hq).1
    simp at this
    omega
def EsB (v : Value) (P : List PEnt) (j : Nat) : Prop := v.ownBlock = some j ∨ ∃ p ∈ P, p.x.ownBlock = some j
theorem EntsAt.keepB {w w' : World} {v : Value} {P : List PEnt} (h : EntsAt w v P) (hk : ∀ j, EsB v P j → w'.heap[j]? = w.heap[j]?) : EntsAt w' v P :=
  ⟨owns_same h.row (fun k e => hk k (.inl e)), fun p hp => owns_same (h.ops p hp) (fun k e => hk k (.inr ⟨p, hp, e⟩))⟩
theorem EntsAt.ltB {w : World} {v : Value} {P : List PEnt} (h : EntsAt w v P) : ∀ j, EsB v P j → j < w.heap.size := fun j hj => by
  rcases hj with e | ⟨p, hp, e⟩
  · exact (h.row.lt j e).2
  · exact ((h.ops p hp).lt j e).2
theorem EntsAt.belowB {w w' : World} {v : Value} {P : List PEnt} (h : EntsAt w v P) (hb : Below w.heap.size w w') : EntsAt w' v P := h.keepB (fun j hj => hb.block j (h.ltB j hj))
theorem one_slice {w : World} {B e s n : Nat} {v : Value} {xs : List Value} (h : w.ownsRow B e s v n xs) : v.oneCell' = true := by
  obtain ⟨a, c, rfl, _⟩ := owns_form h
  rfl
set_option maxHeartbeats 3200000 in
set_option maxRecDepth 100000 in
theorem twins_any (u : Value) (P : List PEnt) (w : World) (h : EntsAt w u P) (hl : P.length ≤ 64) (hs : ∀ p ∈ P, p.e.Small) :
    Calls Try.prog 7 #[u] w fun e w' => ∃ c C, e = .returned c ∧ C.map (·.e) = P.map (·.e) ∧ EntsAt w' c C ∧ (∀ j, EsB c C j → w.heap.size ≤ j) ∧ Below w.heap.size w w' := by
  obtain ⟨ua, uc, rfl, _⟩ := owns_form h.row
  obtain ⟨n, hn⟩ : ∃ z, P.length = z := ⟨_, rfl⟩
  have HE : Hid (EntsAt w (.slice ua n uc) P) := by rw [← hn]; exact h
  have HN : Hid (P.length = n) := hn
  have HSM : Hid (∀ p ∈ P, p.e.Small) := hs
  have hrow : w.ownsRow 0 38 6 (.slice ua n uc) n (rowCs PEnt.cells P) := by
    have h9 := h.row
    rw [hn] at h9
    exact h9
  obtain ⟨i0, hi, hz0, hz1, hz2⟩ := info_parts Try.infoEn
  rw [hn] at hl ⊢
  have HROW : Hid (w.ownsRow 0 38 6 (.slice ua n uc) n (rowCs PEnt.cells P)) := hrow
  clear h hn hs hrow
  go_enter Try.func7, Try.ntmps7
  go_wp2_with fail
  go_loopw [3, 4, 5] (fun nv i _ wr => ∃ (q : Nat) (C : List PEnt), i = .int .i64 q ∧ q ≤ n ∧ Hid (C.length = q ∧ C.map (·.e) = (P.take q).map (·.e) ∧ wr.ownsRow w.heap.size 38 6 nv q (rowCs PEnt.cells C) ∧ (∀ p ∈ C, OwnOps wr p.x p.e.ops ∧ ∀ k, p.x.ownBlock = some k → w.heap.size ≤ k) ∧ Below w.heap.size w wr)) (fun _ i _ _ => n - (intOf i).toNat)
  case atStart => exact ⟨0, [], rfl, Nat.zero_le _, rfl, rfl, World.ownsRow_nil _ _ _ _, (fun p hp => by cases hp), Below.refl _ _⟩
  case round =>
    obtain ⟨q, C, rfl, hq, HI⟩ := hrel
    by_cases hlt : q < n
    · have hqi : (q : Int) < (n : Int) := by omega
      obtain ⟨x, hx⟩ : ∃ x, P[q]? = some x := ⟨P[q]'(by rw [HN.out]; exact hlt), List.getElem?_eq_getElem _⟩
      obtain ⟨gb, hgb⟩ : ∃ g, ua = some ⟨g, 0, none⟩ := by
        rcases HROW.out.2 with ⟨h1, h0⟩ | ⟨g, cap, cur, h1, _⟩
        · omega
        · simp only [Value.slice.injEq] at h1; exact ⟨g, h1.1⟩
      subst hgb
      have hrw := owns_below HROW.out HI.out.2.2.2.2
      have hcs : ∀ j v, x.cells[j]? = some v → wr.cell? ⟨gb, q * 6 + j, none⟩ = some v := fun j v hj => by
        refine cell_n hrw ?_
        have h1 := rowCs_at pent_len P q j x v hx hj []
        rw [List.append_nil] at h1
        exact h1
      have g0 := hcs 0 _ rfl
      rw [Nat.add_zero] at g0
      have g1 := hcs 1 _ rfl
      have g2 := hcs 2 _ rfl
      have g3 := hcs 3 _ rfl
      have g4 := hcs 4 _ rfl
      have g5 := hcs 5 _ rfl
      have hxo := owns_below (HE.out.ops x (List.mem_of_getElem? hx)) HI.out.2.2.2.2
      have hsm := HSM.out x (List.mem_of_getElem? hx)
      have HX : Hid (P[q]? = some x) := hx
      obtain ⟨xe, xv⟩ := x
      obtain ⟨xa, xc, hxv, -, -⟩ := owns_form hxo
      simp only at hxv hxo g0 g1 g2 g3 g4 g5 hsm
      subst hxv
      obtain ⟨xn, hxn⟩ : ∃ z, xe.ops.length = z := ⟨_, rfl⟩
      have HTW : Hid _ := twinN_any xe xa xn xc wr (os_of_own hxo) hxn (by rw [← hxn]; exact hsm.len)
      rw [hxn] at g5
      have HQ : Hid (q < n) := hlt
      clear hcs hxo hrw hx hsm hlt hxn
      obtain ⟨W0, rfl⟩ : ∃ z, z = wr := ⟨_, rfl⟩
      go_wp2_with fail
      refine Calls.mono HTW.out ?_
      rintro e w3 ⟨y, rfl, ho3, hy3, hb3⟩
      obtain ⟨ya, yc, hyv, -, -⟩ := owns_form ho3
      obtain ⟨yn, hyn⟩ : ∃ z, xe.ops.length = z := ⟨_, rfl⟩
      rw [hyn] at hyv
      subst hyv
      have HO3 : Hid (OwnOps w3 (.slice ya yn yc) xe.ops) := ho3
      have HY3 : Hid (∀ k, (Value.slice ya yn yc).ownBlock = some k → w.heap.size ≤ k) := fun k hk => Nat.le_trans HI.out.2.2.2.2.size (hy3 k hk)
      have HB3 : Hid (Below w.heap.size w w3) := trans2 HI.out.2.2.2.2 hb3
      have HR3 : Hid (w3.ownsRow w.heap.size 38 6 u3 q (rowCs PEnt.cells C) ∧ ∀ p ∈ C, OwnOps w3 p.x p.e.ops) := ⟨owns_below HI.out.2.2.1 hb3, fun p hp => owns_below (HI.out.2.2.2.1 p hp).1 hb3⟩
      obtain ⟨W4, hW4⟩ : ∃ z, w3.alloc (.cells #[.int .i64 xe.s, .int .i64 xe.v, .int .i64 xe.k, .int .i64 xe.se, .int .i64 xe.rq, .slice ya yn yc] 38) = z := ⟨_, rfl⟩
      obtain ⟨g4', hg4⟩ : ∃ z, w3.heap.size = z := ⟨_, rfl⟩
      have hb4 : Below w3.heap.size w3 W4 := by rw [← hW4]; exact (Below.refl _ _).alloc (Nat.le_refl _) _
      have HX4 : Hid (W4.heap[g4']? = some (.cells #[.int .i64 xe.s, .int .i64 xe.v, .int .i64 xe.k, .int .i64 xe.se, .int .i64 xe.rq, .slice ya yn yc] 38 (0, 0))) := by show _ = _; rw [← hW4, ← hg4]; exact heap_alloc_new _ _
      have HW4 : Hid (_ = W4) := hW4
      have HG4 : Hid (w3.heap.size = g4') := hg4
      have HR4 : Hid (W4.ownsRow w.heap.size 38 6 u3 q (rowCs PEnt.cells C)) := owns_below HR3.out.1 hb4
      have HB4 : Hid (Below w.heap.size w W4 ∧ Below w3.heap.size w3 W4) := ⟨trans2 HB3.out hb4, hb4⟩
      clear ho3 hy3 hb3 hyn hW4 hg4 hb4 g0 g1 g2 g3 g4 g5
      go_upto_region 6 with fail
      rw [HW4.out, HG4.out]
      obtain ⟨y0, y1, y2, y3, y4, y5⟩ := cells_6 HX4.out
      go_wp2_with (first
        | (at_builtin; refine wpList_append_own_at _ rfl _ _ 27 rfl w.heap.size 38 i0 _ 6 64 Try.underlying27 hi hz0 hz1 hz2 rfl (by decide) u3 q (rowCs PEnt.cells C) rfl (World.ownsRow.alloc HR4.out _) ⟨W4.heap.size, 0, none⟩ 1 1 [.int .i64 xe.s, .int .i64 xe.v, .int .i64 xe.k, .int .i64 xe.se, .int .i64 xe.rq, .slice ya yn yc] rfl rfl (cells_new W4 [.int .i64 xe.s, .int .i64 xe.v, .int .i64 xe.k, .int .i64 xe.se, .int .i64 xe.rq, .slice ya yn yc] 38) (fun u hu => by
             simp only [List.mem_cons, List.not_mem_nil, or_false] at hu
             rcases hu with rfl | rfl | rfl | rfl | rfl | rfl <;> rfl) (by unfold maxLen; omega) (by omega) (by rw [World.size_alloc]; have := HB4.out.1.size; omega) ?_)
        | fail)
      intro v5 w5 hown5 hg5 _ hat5
      have hal5 : Below W4.heap.size W4 (W4.alloc (.cells #[.int .i64 xe.s, .int .i64 xe.v, .int .i64 xe.k, .int .i64 xe.se, .int .i64 xe.rq, .slice ya yn yc] 38)) := (Below.refl _ _).alloc (Nat.le_refl _) _
      have HI5 : Hid ((C ++ [(⟨xe, .slice ya yn yc⟩ : PEnt)]).length = q + 1 ∧ (C ++ [(⟨xe, .slice ya yn yc⟩ : PEnt)]).map (·.e) = (P.take (q + 1)).map (·.e) ∧ w5.ownsRow w.heap.size 38 6 v5 (q + 1) (rowCs PEnt.cells (C ++ [⟨xe, .slice ya yn yc⟩])) ∧ (∀ p ∈ C ++ [(⟨xe, .slice ya yn yc⟩ : PEnt)], OwnOps w5 p.x p.e.ops ∧ ∀ k, p.x.ownBlock = some k → w.heap.size ≤ k) ∧ Below w.heap.size w w5) := by
        have hc5 := Chg.grown hg5
        have hkd : ∀ {y : Value} {l : List OpT}, OwnOps w3 y l → OwnOps w5 y l := fun hy => by
          have h1 := owns_below (owns_below hy HB4.out.2) hal5
          refine owns_chg h1 hc5 (fun k hk e => ?_)
          obtain ⟨c1, hc1⟩ := owns_kind h1 hk
          obtain ⟨c2, hc2⟩ := owns_kind (owns_below HR4.out hal5) e
          rw [hc1] at hc2
          cases hc2
        refine ⟨?_, ?_, ?_, fun p hp => ?_, ?_⟩
        · rw [List.length_append, HI.out.1]; rfl
        · rw [take_at HX.out, List.map_append, List.map_append, HI.out.2.1]; rfl
        · rw [rowCs_append]
          have e1 : rowCs PEnt.cells [(⟨xe, .slice ya yn yc⟩ : PEnt)] = PEnt.cells ⟨xe, .slice ya yn yc⟩ := by simp [rowCs]
          rw [e1]
          exact hown5
        · rcases List.mem_append.1 hp with hp | hp
          · exact ⟨hkd (HR3.out.2 p hp), (HI.out.2.2.2.1 p hp).2⟩
          · rw [List.mem_singleton] at hp
            subst hp
            exact ⟨hkd HO3.out, HY3.out⟩
        · exact (trans2 HB4.out.1 hal5).trans (hc5.below (Nat.le_trans HB4.out.1.size hal5.size) (fun k _ e => (HR4.out.lt k e).1))
      obtain ⟨va5, vc5, hv5, -, -⟩ := owns_form hown5
      subst hv5
      clear hown5 hg5 hat5 hal5 y0 y1 y2 y3 y4 y5
      go_wp2_with fail
      go_roundw
      case rel => exact ⟨q + 1, C ++ [⟨xe, .slice ya yn yc⟩], by go_num, HQ.out, HI5⟩
      case measure => have := HQ.out; simp [intOf]; omega
    · obtain rfl : q = n := by omega
      have hge : ¬ (q : Int) < (q : Int) := by omega
      go_wp2_with fail
      go_ret
      refine ⟨_, rfl, C, ?_, ⟨?_, fun p hp => (HI.out.2.2.2.1 p hp).1⟩, fun j hj => ?_, HI.out.2.2.2.2⟩
      · rw [HI.out.2.1, List.take_of_length_le (Nat.le_of_eq HN.out)]
      · rw [HI.out.1]
        exact owns_lower HI.out.2.2.1
      · rcases hj with e | ⟨p, hp, e⟩
        · exact (HI.out.2.2.1.lt j e).1
        · exact (HI.out.2.2.2.1 p hp).2 j e
end Go.Proofs.Ytnmengoefpdaiaa
