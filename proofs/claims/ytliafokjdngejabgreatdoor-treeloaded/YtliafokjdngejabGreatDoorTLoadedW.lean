import Derived.Test.YtliafokjdngejabGreatDoorTReadA
import Derived.Test.YtliafokjdngejabGreatDoorTLoadL
import Derived.Test.YtliafokjdngejabGreatDoorTPlayed
import Derived.Test.YtliafokjdngejabGreatDoorTKnown
import Derived.Deep.CutRange
namespace Go.Proofs.YtliafokjdngejabGreatDoor
open Go.RowKit Go.Maps Go.WideShapes
set_option linter.unusedVariables false
set_option linter.unusedSimpArgs false
attribute [local go_sem ↓] Go.wp_at_zero Go.wp_at_succ

set_option maxHeartbeats 3200000 in
set_option maxRecDepth 100000 in
theorem changesT_any (B1 B2 : Nat) (va vb : Value) (C : List ChT) (w : World) (h1 : w.ownsRow B1 82 4 va C.length (chCs C)) (h2 : w.ownsRow B2 82 4 vb C.length (chCs C)) (hl : C.length ≤ 1000) :
    Calls Tryz.prog 18 #[va, vb] w fun e w' => e = .returned (.bool true) ∧ Below w.heap.size w w' := by
  obtain ⟨a, c, rfl⟩ := slice_of h1
  obtain ⟨b, d, rfl⟩ := slice_of h2
  have H1 : Hid _ := h1
  have H2 : Hid _ := h2
  obtain ⟨N, hN⟩ : ∃ N, C.length = N := ⟨_, rfl⟩
  have HN : Hid (C.length = N) := hN
  rw [hN] at hl ⊢
  clear h1 h2 hN
  go_enter Tryz.func18, Tryz.ntmps18
  go_wp2_with fail
  go_loopw [5] (fun i wr => ∃ q : Nat, i = .int .i64 q ∧ q ≤ N ∧ Hid (Below w.heap.size w wr)) (fun i _ => N - (intOf i).toNat)
  case atStart => exact ⟨0, rfl, Nat.zero_le _, Below.refl _ _⟩
  case round =>
    obtain ⟨q, rfl, hq, HB⟩ := hrel
    by_cases hlt : q < N
    · have hlt' : (q : Int) < (N : Int) := by omega
      obtain ⟨x, hx⟩ : ∃ x, C[q]? = some x := ⟨C[q]'(by rw [HN.out]; exact hlt), List.getElem?_eq_getElem _⟩
      obtain ⟨g1, c1, e1⟩ := form_n H1.out (by rw [HN.out]; omega)
      obtain ⟨g2, c2, e2⟩ := form_n H2.out (by rw [HN.out]; omega)
      obtain ⟨rfl, rfl⟩ : a = some ⟨g1, 0, none⟩ ∧ c = c1 := by simpa using e1
      obtain ⟨rfl, rfl⟩ : b = some ⟨g2, 0, none⟩ ∧ d = c2 := by simpa using e2
      have l1 : g1 < w.heap.size := (World.ownsRow.lt H1.out g1 rfl).2
      have l2 : g2 < w.heap.size := (World.ownsRow.lt H2.out g2 rfl).2
      have hk1 : ∀ j v, x.cells[j]? = some v → wr.cell? ⟨g1, q * 4 + j, none⟩ = some v := fun j v hv => by rw [HB.out.cell (p := ⟨g1, q * 4 + j, none⟩) l1]; exact ch_cell H1.out hx hv
      have hk2 : ∀ j v, x.cells[j]? = some v → wr.cell? ⟨g2, q * 4 + j, none⟩ = some v := fun j v hv => by rw [HB.out.cell (p := ⟨g2, q * 4 + j, none⟩) l2]; exact ch_cell H2.out hx hv
      have k0 : wr.cell? ⟨g1, q * 4, none⟩ = some (.int .i64 x.k) := hk1 0 _ rfl
      have k1 := hk1 1 _ rfl
      have k2 := hk1 2 _ rfl
      have k3 := hk1 3 _ rfl
      have m0 : wr.cell? ⟨g2, q * 4, none⟩ = some (.int .i64 x.k) := hk2 0 _ rfl
      have m1 := hk2 1 _ rfl
      have m2 := hk2 2 _ rfl
      have m3 := hk2 3 _ rfl
      clear hx e1 e2 hk1 hk2
      go_upto_region 6 with fail
      go_quiet (fail)
      go_wp2_with fail
      go_roundw
      case rel => exact ⟨q + 1, by go_num, by omega, below_dN HB.out _⟩
      case measure => simp [intOf]; omega
    · obtain rfl : q = N := by omega
      go_wp2_with fail
      go_ret
      exact ⟨rfl, HB.out⟩
theorem rs_cell {w : World} {B g cap : Nat} {L : List RsT} (h : RsAt w B (.slice (some ⟨g, 0, none⟩) L.length cap) L.length L) {q j : Nat} {x : RsT} {v : Value} (hx : L[q]? = some x) (hv : x.cs[j]? = some v) : w.cell? ⟨g, q * 7 + j, none⟩ = some v := by
  have hr := h.row
  rw [Nat.sub_self] at hr
  have e : Fa.fl (L.map RsT.el ++ List.replicate 0 zEl) = L.flatMap RsT.cs := by
    show (L.map RsT.el ++ []).flatMap (fun e : Fa.El 7 => e.1) = _
    rw [List.append_nil, List.flatMap_map]
    rfl
  rw [e] at hr
  exact cell_n hr (flat_at RsT.cs 7 (fun _ => rfl) L q j x v hx hv)
set_option maxHeartbeats 6400000 in
set_option maxRecDepth 100000 in
theorem replyT_any (B1 B2 : Nat) (st cd at' : Int) (rv1 rv2 : Value) (L1 L2 : List RsT) (w : World) (h1 : RsAt w B1 rv1 L1.length L1) (h2 : RsAt w B2 rv2 L2.length L2) (hL : L1.map RsT.r = L2.map RsT.r) (hl : L1.length ≤ 1000) (hk : ∀ x ∈ L1, x.r.kids.length ≤ 1000) :
    Calls Tryz.prog 17 #[.agg #[.int .i64 st, .int .i64 cd, .int .i64 at', rv1], .agg #[.int .i64 st, .int .i64 cd, .int .i64 at', rv2]] w fun e w' => e = .returned (.bool true) ∧ Below w.heap.size w w' := by
  obtain ⟨a1, c1, rfl⟩ := slice_of h1.row
  obtain ⟨a2, c2, rfl⟩ := slice_of h2.row
  have hlen : L2.length = L1.length := by have := congrArg List.length hL; simpa using this.symm
  have HL : Hid _ := hL
  have HKL : Hid _ := hk
  have H1 : Hid (RsAt w B1 (.slice a1 L1.length c1) L1.length L1) := h1
  have H2 : Hid (RsAt w B2 (.slice a2 L2.length c2) L2.length L2) := h2
  obtain ⟨N, hN⟩ : ∃ N, L1.length = N := ⟨_, rfl⟩
  have HN : Hid (L1.length = N) := hN
  have HN2 : Hid (L2.length = N) := by show _ = _; rw [hlen]; exact hN
  rw [hlen, hN]
  rw [hN] at hl
  clear h1 h2 hL hN hlen hk
  go_enter Tryz.func17, Tryz.ntmps17
  go_upto_region 1 with fail
  obtain ⟨w2, hw2⟩ : ∃ y, (w.alloc (.cells #[.int .i64 st, .int .i64 cd, .int .i64 at', .slice a1 N c1] 53)).alloc (.cells #[.int .i64 st, .int .i64 cd, .int .i64 at', .slice a2 N c2] 53) = y := ⟨_, rfl⟩
  obtain ⟨sb, hsb⟩ : ∃ y, w.heap.size = y := ⟨_, rfl⟩
  have HB2 : Hid (Below w.heap.size w w2) := by rw [← hw2]; exact ((Below.refl _ _).alloc (Nat.le_refl _) _).alloc (by simp) _
  have HS2 : Hid (w2.heap[sb]? = some (.cells #[.int .i64 st, .int .i64 cd, .int .i64 at', .slice a1 N c1] 53 (0, 0))) := by rw [← hw2, ← hsb]; exact heap_alloc2_old _ _ _
  have HR2 : Hid (w2.heap[sb + 1]? = some (.cells #[.int .i64 st, .int .i64 cd, .int .i64 at', .slice a2 N c2] 53 (0, 0))) := by rw [← hw2, ← hsb]; exact heap_alloc2_new _ _ _
  rw [hw2, hsb]
  clear hw2 hsb
  obtain ⟨s0, s1, s2, s3⟩ := cells_4 HS2.out
  obtain ⟨r0, r1, r2, r3⟩ := cells_4 HR2.out
  go_wp2_with fail
  clear s0 s1 s2 s3 r0 r1 r2 r3
  go_loopw [5] (fun i wr => ∃ q : Nat, i = .int .i64 q ∧ q ≤ N ∧ Hid (Below w2.heap.size w2 wr)) (fun i _ => N - (intOf i).toNat)
  case atStart => exact ⟨0, rfl, Nat.zero_le _, Below.refl _ _⟩
  case round =>
    obtain ⟨q, rfl, hq, HB⟩ := hrel
    have HS3 : Hid _ := kept_block HB.out HS2.out
    have HR3 : Hid _ := kept_block HB.out HR2.out
    obtain ⟨s0, s1, s2, s3⟩ := cells_4 HS3.out
    obtain ⟨r0, r1, r2, r3⟩ := cells_4 HR3.out
    have hsl : sb + 1 < wr.heap.size := (Array.getElem?_eq_some_iff.1 HR3.out).1
    by_cases hlt : q < N
    · have hlt' : (q : Int) < (N : Int) := by omega
      obtain ⟨x, hx⟩ : ∃ x, L1[q]? = some x := ⟨L1[q]'(by rw [HN.out]; exact hlt), List.getElem?_eq_getElem _⟩
      obtain ⟨y, hy⟩ : ∃ y, L2[q]? = some y := ⟨L2[q]'(by rw [HN2.out]; exact hlt), List.getElem?_eq_getElem _⟩
      have hxy : x.r = y.r := by
        have h9 : (L1.map RsT.r)[q]? = (L2.map RsT.r)[q]? := by rw [HL.out]
        rw [List.getElem?_map, List.getElem?_map, hx, hy] at h9
        simpa using h9
      have hbw : Below w.heap.size w wr := trans2 HB2.out HB.out
      obtain ⟨g1, d1, e1⟩ := form_n H1.out.row (by rw [HN.out]; omega)
      obtain ⟨g2, d2, e2⟩ := form_n H2.out.row (by rw [HN2.out]; omega)
      obtain ⟨rfl, rfl⟩ : a1 = some ⟨g1, 0, none⟩ ∧ c1 = d1 := by simpa using e1
      obtain ⟨rfl, rfl⟩ : a2 = some ⟨g2, 0, none⟩ ∧ c2 = d2 := by simpa using e2
      have l1 : g1 < w.heap.size := (H1.out.row.lt g1 rfl).2
      have l2 : g2 < w.heap.size := (H2.out.row.lt g2 rfl).2
      have hk1 : ∀ j v, x.cs[j]? = some v → wr.cell? ⟨g1, q * 7 + j, none⟩ = some v := fun j v hv => by rw [hbw.cell (p := ⟨g1, q * 7 + j, none⟩) l1]; exact rs_cell H1.out hx hv
      have hk2 : ∀ j v, y.cs[j]? = some v → wr.cell? ⟨g2, q * 7 + j, none⟩ = some v := fun j v hv => by rw [hbw.cell (p := ⟨g2, q * 7 + j, none⟩) l2]; exact rs_cell H2.out hy hv
      obtain ⟨⟨p, d, v, m, c, o, kids⟩, xa, xn, xc⟩ := x
      obtain ⟨yr, ya, yn, yc⟩ := y
      obtain rfl : (⟨p, d, v, m, c, o, kids⟩ : ResT) = yr := hxy
      have hkx := H1.out.kids _ (List.mem_of_getElem? hx)
      have hky := H2.out.kids _ (List.mem_of_getElem? hy)
      have hkn := HKL.out _ (List.mem_of_getElem? hx)
      have k0 : wr.cell? ⟨g1, q * 7, none⟩ = some (.string p) := hk1 0 _ rfl
      have k1 := hk1 1 _ rfl
      have k2 := hk1 2 _ rfl
      have k3 := hk1 3 _ rfl
      have k4 := hk1 4 _ rfl
      have k5 := hk1 5 _ rfl
      have k6 := hk1 6 _ rfl
      have m0 : wr.cell? ⟨g2, q * 7, none⟩ = some (.string p) := hk2 0 _ rfl
      have m1 := hk2 1 _ rfl
      have m2 := hk2 2 _ rfl
      have m3 := hk2 3 _ rfl
      have m4 := hk2 4 _ rfl
      have m5 := hk2 5 _ rfl
      have m6 := hk2 6 _ rfl
      have hg1 : g1 < wr.heap.size := Nat.lt_of_lt_of_le l1 hbw.size
      have hg2 : g2 < wr.heap.size := Nat.lt_of_lt_of_le l2 hbw.size
      have HTX : Hid (∀ W, Below w.heap.size w W → Calls Tryz.prog 40 #[.slice xa xn xc, .slice ya yn yc] W fun e w' => e = .returned (.bool true) ∧ Below W.heap.size W w') := fun W hb => textsT_any B1 B2 _ _ kids W (owns_chg hkx (Chg.of_below hb (fun _ => False)) (fun _ _ => id)) (owns_chg hky (Chg.of_below hb (fun _ => False)) (fun _ _ => id)) hkn
      have HBW : Hid (Below w.heap.size w wr) := hbw
      clear hx hy e1 e2 hk1 hk2 hkx hky hkn hbw
      go_wp2_with fail
      refine Calls.mono (HTX.out _ ((HBW.out.alloc HBW.out.size _).alloc (by have := HBW.out.size; simp; omega) _)) ?_
      rintro e w5 ⟨rfl, hb5⟩
      have HB5 : Hid (Below w2.heap.size w2 w5) := trans2 ((HB.out.alloc HB.out.size _).alloc (by have := HB.out.size; simp; omega) _) hb5
      clear hb5
      go_wp2_with fail
      go_roundw
      case rel => exact ⟨q + 1, by go_num, by omega, HB5.out⟩
      case measure => simp [intOf]; omega
    · obtain rfl : q = N := by omega
      go_wp2_with fail
      go_ret
      exact ⟨rfl, trans2 HB2.out HB.out⟩
end Go.Proofs.YtliafokjdngejabGreatDoor
namespace Go.Proofs.YtliafokjdngejabGreatDoor
open Go.RowKit Go.Maps Go.WideShapes
set_option linter.unusedVariables false
set_option linter.unusedSimpArgs false
attribute [local go_sem ↓] Go.wp_at_zero Go.wp_at_succ

/-- A tree stays as another one turns. -/
theorem TrAt.other {w w' : World} {B ub q : Nat} {T : List Nd} (h : TrAt w B ub q T) {B' tb q' : Nat} {T' : List Nd} (ht : TrAt w B' tb q' T') (hne : ub ≠ tb) (hc : Chg w w' (fun k => k = tb)) : TrAt w' B ub q T := by
  obtain ⟨mb, n, D, h1, h2, h3⟩ := h.at'
  obtain ⟨v, hv⟩ := ht.box
  refine ⟨⟨mb, n, D, ⟨kept_chg hc h1.box (fun e => hne e), map_chg h1.map hc (fun e => ?_), h1.lo, h1.lom⟩, h2, h3⟩, h.snd⟩
  obtain ⟨es, clock, hb, _⟩ := h1.map
  rw [show mb = tb from e, hv] at hb
  cases hb
theorem one_kids {T : List Nd} (h : Inv T) (s st : Int) (o : OpT) : (oneM T s st o).2.2.1.kids.length ≤ 64 := by
  unfold oneM
  split
  · exact Nat.zero_le _
  split
  · unfold makeM
    split
    · exact Nat.zero_le _
    split
    · exact Nat.zero_le _
    split
    · exact Nat.zero_le _
    split
    · exact Nat.zero_le _
    split
    · exact Nat.zero_le _
    · exact Nat.zero_le _
  split
  · exact Nat.zero_le _
  split
  · exact Nat.zero_le _
  unfold restM
  split
  · exact Nat.zero_le _
  split
  · exact Nat.zero_le _
  · show (if _ then _ else _ : List ByteArray).length ≤ 64
    split
    · unfold kidsM
      rw [List.length_map]
      exact Nat.le_trans (List.length_filter_le _ _) h.len
    · exact Nat.zero_le _
theorem play_kids {T0 : List Nd} (s st : Int) : ∀ (os : List OpT) (i : Nat) (T : List Nd) (R : List ResT) (C : List ChT), Inv T → (∀ r ∈ R, r.kids.length ≤ 64) → ∀ r ∈ (playL T0 s st os i T R C).R, r.kids.length ≤ 64
  | [], _, _, _, _, _, h => h
  | o :: r, i, T, R, C, hi, h => by
    unfold playL
    split
    · intro r hr
      cases hr
    · exact play_kids s st r _ _ _ _ (oneM_inv hi s st o) (fun y hy => by
        rcases List.mem_append.1 hy with hy | hy
        · exact h y hy
        · obtain rfl := List.mem_singleton.1 hy
          exact one_kids hi s st o)
theorem playM_kids {T : List Nd} (hi : Inv T) (s st : Int) (os : List OpT) : ∀ r ∈ (playM T s st os).R, r.kids.length ≤ 64 := by
  unfold playM
  split
  · intro r hr
    cases hr
  · exact play_kids s st os 0 T [] [] hi (fun r hr => by cases hr)
theorem play_lens (T : List Nd) (s st : Int) (os : List OpT) : (playM T s st os).R.length ≤ 4 ∧ (playM T s st os).C.length ≤ 4 := by
  have main : ∀ (os : List OpT) (i : Nat) (T0 T : List Nd) (R : List ResT) (C : List ChT), (playL T0 s st os i T R C).R.length ≤ R.length + os.length ∧ (playL T0 s st os i T R C).C.length ≤ C.length + os.length := by
    intro os
    induction os with
    | nil => intro i T0 T R C; exact ⟨Nat.le_refl _, Nat.le_refl _⟩
    | cons o r ih =>
      intro i T0 T R C
      unfold playL
      split
      · exact ⟨Nat.zero_le _, Nat.zero_le _⟩
      · have h9 := ih (i + 1) T0 (oneM T s st o).2.1 (R ++ [(oneM T s st o).2.2.1]) (C ++ (oneM T s st o).2.2.2)
        have := oneM_ch T s st o
        rw [List.length_append, List.length_append] at h9
        simp only [List.length_cons, List.length_nil] at h9 ⊢
        omega
  by_cases h : 4 < os.length
  · unfold playM
    rw [if_pos (by unfold mayC; rw [if_pos h]; decide)]
    exact ⟨Nat.zero_le _, Nat.zero_le _⟩
  · unfold playM
    split
    · exact ⟨Nat.zero_le _, Nat.zero_le _⟩
    · have := main os 0 T T [] []
      simp at this
      omega
/-- The second tree: none as yet, or one with the same nodes. -/
def UAt (w : World) (B tb q : Nat) (T : List Nd) (v : Value) : Prop := v = .pointer none ∨ ∃ ub, v = .pointer (some ⟨ub, 0, none⟩) ∧ ub ≠ tb ∧ TrAt w B ub (q + 8) T
end Go.Proofs.YtliafokjdngejabGreatDoor
