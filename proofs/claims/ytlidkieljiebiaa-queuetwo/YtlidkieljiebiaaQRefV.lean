/-
  heraldref10: Put that goes well.
-/
import Derived.Test.YtlidkieljiebiaaQRefU
import Derived.Test.YtlidkieljiebiaaQSameI
import Derived.Deep.Cut
namespace Go.Proofs.Ytlidkieljiebiaa
open Go.RowKit
set_option linter.unusedVariables false
set_option linter.unusedSimpArgs false

theorem its_mono {w : World} {S T : Nat → Prop} {v : Value} {l : List ItT} (h : ItsAt w S v l) (hs : ∀ b, b < w.heap.size → S b → T b) : ItsAt w T v l :=
  RowAt.map h (Nat.le_refl _) hs (fun b o x _ _ ⟨u1, u2, hx⟩ => ⟨u1, u2, hx.mono hs⟩)
/-- A list of items in the making, in a field of a box. -/
structure MkI (w1 w : World) (S : Nat → Prop) (g : Nat) (r x : Int) (nv : Value) (L : List (ItT × Value × Value)) : Prop where
  row : w.ownsRow (w1.heap.size + 1) 42 5 nv L.length (L.flatMap fun x => itCs x.1 x.2.1 x.2.2)
  box : w.heap[g]? = some (.cells #[.int .i64 r, .int .i64 x, nv] 67 (0, 0))
  each : ∀ x ∈ L, TgsAt w S x.2.1 x.1.cs ∧ PasAt w S x.2.2 x.1.ps
  below : Below w1.heap.size w1 w
theorem MkI.at {w1 w w' : World} {S : Nat → Prop} {g : Nat} {r x : Int} {nv : Value} {L : List (ItT × Value × Value)} (h : MkI w1 w S g r x nv L) (hb : Below w.heap.size w w') : MkI w1 w' S g r x nv L :=
  ⟨owns_below h.row hb, kept_block hb h.box, fun x hx => ⟨TgsAt.keep (h.each x hx).1 (Kp.of_below hb _), PasAt.keep (h.each x hx).2 (Kp.of_below hb _)⟩, trans2 h.below hb⟩
/-- One more, stored in the box. S: no block that is written. -/
theorem MkI.push {w1 w w' : World} {S : Nat → Prop} {g : Nat} {r x : Int} {nv nv' u1 u2 : Value} {L : List (ItT × Value × Value)} {t : ItT} (h : MkI w1 w S g r x nv L) (hg : g = w1.heap.size) (hS : ∀ j, S j → j ≠ g ∧ nv.ownBlock ≠ some j) (hu : TgsAt w S u1 t.cs ∧ PasAt w S u2 t.ps)
    (hr : w'.ownsRow (w1.heap.size + 1) 42 5 nv' (L.length + 1) ((L.flatMap fun x => itCs x.1 x.2.1 x.2.2) ++ itCs t u1 u2)) (hgr : w.grownBy w' nv.ownBlock) : MkI w1 (w'.setCell ⟨g, 2, none⟩ nv') S g r x nv' (L ++ [(t, u1, u2)]) := by
  have hc := Chg.grown hgr
  have hc2 : Chg w' (w'.setCell ⟨g, 2, none⟩ nv') (fun k => k = g) := Chg.set w' ⟨g, 2, none⟩ _
  have hk : Kp w (w'.setCell ⟨g, 2, none⟩ nv') S := ⟨Nat.le_trans hc.size hc2.size, fun j hj hSj => (hc2.block j (Nat.lt_of_lt_of_le hj hc.size) (fun e => (hS j hSj).1 e)).trans (hc.block j hj (fun e => (hS j hSj).2 e))⟩
  have hbox : w'.heap[g]? = some (.cells #[.int .i64 r, .int .i64 x, nv] 67 (0, 0)) := by
    rw [hc.block g (lt_of_blk h.box) (fun e => by have := (row_block h.row g e).1; omega)]
    exact h.box
  refine ⟨?_, same_blk hbox rfl, fun y hy => ?_, ?_⟩
  · rw [List.length_append, List.flatMap_append]
    have : (w'.setCell ⟨g, 2, none⟩ nv').ownsRow (w1.heap.size + 1) 42 5 nv' (L.length + 1) ((L.flatMap fun x => itCs x.1 x.2.1 x.2.2) ++ itCs t u1 u2) := row_chg hr hc2 (fun k hk e => by have e : k = g := e; have := (row_block hr k hk).1; omega)
    simpa using this
  · rcases List.mem_append.1 hy with hy | hy
    · exact ⟨TgsAt.keep (h.each y hy).1 hk, PasAt.keep (h.each y hy).2 hk⟩
    · obtain rfl : y = (t, u1, u2) := by simpa using hy
      exact ⟨TgsAt.keep hu.1 hk, PasAt.keep hu.2 hk⟩
  · exact (grown_in h.below hgr (fun k hk => by have := (row_block h.row k hk).1; omega) (Nat.le_refl _)).setCell (by show w1.heap.size ≤ g; omega) _
theorem MkI.mono {w1 w : World} {S T : Nat → Prop} {g : Nat} {r x : Int} {nv : Value} {L : List (ItT × Value × Value)} (h : MkI w1 w S g r x nv L) (hs : ∀ j, j < w.heap.size → S j → T j) : MkI w1 w T g r x nv L :=
  ⟨h.row, h.box, fun x hx => ⟨TgsAt.mono (h.each x hx).1 hs, PasAt.mono (h.each x hx).2 hs⟩, h.below⟩
theorem grown_own {w1 w w' : World} {S : Nat → Prop} {nv nv' : Value} (hS : ∀ j, S j → j < w.heap.size → nv.ownBlock ≠ some j) (ho : nv'.ownBlock = nv.ownBlock ∨ nv'.ownBlock = some w.heap.size) : ∀ j, S j → j < w.heap.size → nv'.ownBlock ≠ some j := fun j hj hlt e => by
  rcases ho with ho | ho
  · exact hS j hj hlt (by rw [← ho]; exact e)
  · rw [ho] at e; cases e; omega
theorem row_form {w : World} {base e sz n : Nat} {v : Value} {xs : List Value} (h : w.ownsRow base e sz v n xs) : ∃ a c, v = .slice a n c ∧ n ≤ c := by
  rcases h.2 with ⟨rfl, h0⟩ | ⟨g, cap, cur, rfl, _, _, hn, _⟩
  · exact ⟨none, 0, by rw [h0], by omega⟩
  · exact ⟨_, cap, rfl, hn⟩
theorem chg_put3 (w : World) (g : Nat) (x0 x1 x2 : Value) : Chg w (put_3 w g x0 x1 x2) (fun k => k = g) :=
  ((Chg.set w ⟨g, 0, none⟩ x0).trans (Chg.set _ ⟨g, 1, none⟩ x1)).trans (Chg.set _ ⟨g, 2, none⟩ x2)
set_option maxHeartbeats 6400000 in
set_option maxRecDepth 100000 in
theorem refPut_ok (Q : QuT) (st : Int) (v vl : Value) (l : List TgT) (w : World) (S P : Nat → Prop) (h : ItsAt w S v Q.l) (hl : TgsAt w P vl l) (hs : TgsSmall l) (hf : Q.l.length ≤ Q.room) (hr : Q.room ≤ 32) (hc : Q.putC st l = 0) (hsm : ∀ t ∈ Q.l, t.Small) :
    Calls Try.prog 49 #[rqV Q.room Q.last v, .int .i64 st, vl] w fun e w' => ∃ v', e = .returned (.tuple #[rqV Q.room st v', .int .i64 0]) ∧ ItsAt w' (fun j => S j ∨ w.heap.size ≤ j) v' (Q.l ++ [⟨st, Q.last, false, l, []⟩]) ∧ Below w.heap.size w w' := by
  obtain ⟨a, c, rfl, _⟩ := RowAt.form h
  obtain ⟨la, lc, rfl, _⟩ := RowAt.form hl
  obtain ⟨n, hn⟩ : ∃ n, l.length = n := ⟨_, rfl⟩
  obtain ⟨qn, hqn⟩ : ∃ n, Q.l.length = n := ⟨_, rfl⟩
  obtain ⟨g1, g2, g3, g4, g5⟩ := putC_ok hc
  have hfo0 : folQ Q.last st = 0 := by unfold folQ; rw [if_neg (by omega), if_neg (by omega)]
  have hn1 : n ≤ 140737488355328 := by have := hs.len; unfold MaxRow at this; omega
  rw [hn] at hl ⊢
  rw [hqn] at h g5 hf ⊢
  have hn0 : n ≠ 0 := fun e => g3 (List.eq_nil_of_length_eq_zero (hn.trans e))
  obtain ⟨hA, hB, hbel⟩ := rq_cells (w := w) (r := Q.room) (x := Q.last) (v := .slice a qn c)
  have HF : Hid (∀ w', _) := fun w' => follows_any Q.room Q.last (.slice a qn c) st w'
  have HN : Hid (l.length = n) := hn
  obtain ⟨W, hW⟩ : ∃ W, ((w.alloc (.cells #[.int .i64 Q.room, .int .i64 Q.last, .slice a qn c] 67)).alloc (.cells #[.int .i64 0, .int .i64 0, .slice none 0 0] 67)) = W := ⟨_, rfl⟩
  rw [hW] at hA hB hbel
  have HTW : Hid (TgsAt W P (.slice la n lc) l) := TgsAt.keep hl (Kp.of_below hbel _)
  have HA : Hid _ := hA
  have HB : Hid _ := hB
  have HBW : Hid (Below w.heap.size w W) := hbel
  have HWW : Hid (_ = W) := hW
  rw [hfo0] at HF
  obtain ⟨c0, c1, c2⟩ := cells_3 hA
  have HQN : Hid (Q.l.length = qn) := hqn
  have HIW : Hid (ItsAt W S (.slice a qn c) Q.l) := ItsAt.keep h (Kp.of_below hbel _)
  have HIS : Hid (ItsAt w S (.slice a qn c) Q.l) := h
  have HLS : Hid (TgsAt w P (.slice la n lc) l) := hl
  have HSL : Hid (TgsSmall l) := hs
  clear hn hqn hs hl h hA hB hbel hW hfo0 hc g1 g2 g3 hsm
  obtain ⟨room, first, last, ql⟩ := Q
  simp only at *
  have HTL : Hid (tagless l = false) := g4
  have hql : qn < room := by omega
  have d2 : ((n : Int) == 0) = false := by simp; omega
  clear g4 g5 hn0
  go_enter Try.func49, Try.ntmps49
  go_wp2_with fail
  rw [HWW.out]
  refine Calls.mono (HF.out _) ?_
  rintro e w1 ⟨rfl, hb1⟩
  have HA1 : Hid _ := kept_block hb1 HA.out
  have HB1 : Hid _ := kept_block hb1 HB.out
  have HBW1 : Hid (Below w.heap.size w w1) := trans2 HBW.out hb1
  have HT1 : Hid (TgsAt w1 P (.slice la n lc) l) := TgsAt.keep HTW.out (Kp.of_below hb1 _)
  obtain ⟨c0, c1, c2⟩ := cells_3 HA1.out
  have f1 := free_of HB1.out
  obtain ⟨r0, r1, r2⟩ := cells_3 HB1.out
  obtain ⟨g, hg⟩ : ∃ g, w.heap.size = g := ⟨_, rfl⟩
  have HG : Hid (w.heap.size = g) := hg
  rw [hg] at c0 c1 c2 f1 r0 r1 r2 HA1 HB1 ⊢
  have HI1 : Hid (ItsAt w1 S (.slice a qn c) ql) := ItsAt.keep HIW.out (Kp.of_below hb1 _)
  clear hb1 hg
  go_wp2_with fail
  go_loopw [9] (fun i wr => ∃ q : Nat, i = .int .i64 q ∧ q ≤ n ∧ wr = w1) (fun i _ => n - (intOf i).toNat)
  case atStart => exact ⟨0, rfl, Nat.zero_le _, by trivial⟩
  case round =>
    obtain ⟨q, rfl, hq, hw⟩ := hrel
    subst hw
    by_cases hlt : q < n
    · have hqi : (q : Int) < (n : Int) := by omega
      obtain ⟨x, hx⟩ : ∃ x, l[q]? = some x := ⟨l[q]'(by rw [HN.out]; exact hlt), List.getElem?_eq_getElem _⟩
      obtain ⟨b, o, rfl, _, _, u, e1⟩ := RowAt.get HT1.out hx
      obtain ⟨ta, tc, rfl, _⟩ := RowAt.form e1.tags
      have x4 := e1.cu
      obtain ⟨tn, htn⟩ : ∃ z, x.tags.length = z := ⟨_, rfl⟩
      rw [htn] at x4
      have h0 : tn ≠ 0 := fun e => by
        have := tagless_at hx (List.eq_nil_of_length_eq_zero (htn.trans e))
        rw [HTL.out] at this
        cases this
      have hz : ((tn : Int) == 0) = false := by simp; omega
      clear hx e1 htn h0
      go_wp2_with fail
      go_roundw
      case rel => exact ⟨q + 1, by go_num, by omega, by trivial⟩
      case measure => simp [intOf]; omega
    · obtain rfl : q = n := by omega
      have hge : ¬ (q : Int) < (q : Int) := by omega
      have dq : ¬ (room : Int) ≤ (qn : Int) := by omega
      have dqn : ¬ room ≤ qn := by omega
      go_upto_region 14 with fail
      obtain ⟨wm, hwm⟩ : ∃ x, x = wr := ⟨wr, rfl⟩
      subst hwm
      obtain ⟨W2, hW2⟩ : ∃ W2, wm.alloc (.cells #[.int .i64 room, .int .i64 st, .slice none 0 0] 67) = W2 := ⟨_, rfl⟩
      have hA2 : W2.heap[wm.heap.size]? = some (.cells #[.int .i64 room, .int .i64 st, .slice none 0 0] 67 (0, 0)) := by rw [← hW2]; exact heap_alloc_new _ _
      have hb2 : Below wm.heap.size wm W2 := by rw [← hW2]; exact (Below.refl _ _).alloc (Nat.le_refl _) _
      rw [hW2]
      obtain ⟨g10, hg10⟩ : ∃ z, wm.heap.size = z := ⟨_, rfl⟩
      rw [hg10] at hA2 ⊢
      have HG10 : Hid (wm.heap.size = g10) := hg10
      obtain ⟨T, hT⟩ : ∃ T : Nat → Prop, T = fun j => j < w.heap.size ∧ S j := ⟨_, rfl⟩
      have HTT : Hid (∀ j, T j ↔ (j < w.heap.size ∧ S j)) := fun j => by rw [hT]
      have HSG : Hid (w.heap.size ≤ g10 ∧ g + 1 < g10) := ⟨by rw [← HG10.out]; exact HBW1.out.size, by have := lt_of_blk HB1.out; rw [HG10.out] at this; exact this⟩
      have HIT : Hid (ItsAt wm T (.slice a qn c) ql) := ItsAt.keep (its_mono HIS.out (fun k hk h => (HTT.out k).2 ⟨hk, h⟩)) (Kp.of_below HBW1.out _)
      have HM0 : Hid (MkI wm W2 T g10 room st (.slice none 0 0) []) := ⟨owns_nil _ _ _ _, hA2, (fun x hx => by cases hx), hb2⟩
      clear hA2 hb2 hW2 hg10 hT c0 c1 c2 f1 r0 r1 r2
      go_wp2_with fail
      go_loopw [11] (fun i wr => ∃ (j : Nat) (na : Option Addr) (nc : Nat) (L : List (ItT × Value × Value)), i = .int .i64 j ∧ j ≤ qn ∧ Hid (L.map (·.1) = ql.take j) ∧ Hid (MkI wm wr T g10 room st (.slice na j nc) L)) (fun i _ => qn - (intOf i).toNat)
      case atStart => exact ⟨0, none, 0, [], rfl, Nat.zero_le _, rfl, HM0⟩
      case round =>
        obtain ⟨j, na, nc, L, rfl, hj, HL, HM⟩ := hrel
        have hLj : L.length = j := by have := congrArg List.length HL.out; rw [List.length_map, List.length_take, HQN.out] at this; omega
        have HLJ : Hid (L.length = j) := hLj
        have hbr := HM.out.below
        obtain ⟨c0, c1, c2⟩ := cells_3 (kept_block hbr HA1.out)
        obtain ⟨n0, n1, n2⟩ := cells_3 HM.out.box
        have fn := free_of HM.out.box
        by_cases hjl : j < qn
        · have hji : (j : Int) < (qn : Int) := by omega
          obtain ⟨x, hx⟩ : ∃ x, ql[j]? = some x := ⟨ql[j]'(by rw [HQN.out]; exact hjl), List.getElem?_eq_getElem _⟩
          obtain ⟨b5, o5, rfl, hS5, hb5, v1, v2, e5⟩ := RowAt.get HIT.out hx
          have e5 := e5.keep (Kp.of_below hbr _) (fun k v hv _ _ => by rw [hbr.cell (p := ⟨b5, k, none⟩) hb5]; exact hv)
          obtain ⟨y0, y1, y2, y3, y4, yc, yp⟩ := e5
          obtain ⟨ca, cc, rfl, _⟩ := RowAt.form yc
          obtain ⟨pa, pc, rfl, _⟩ := RowAt.form yp
          have HYC : Hid (TgsAt wr T (.slice ca x.cs.length cc) x.cs ∧ PasAt wr T (.slice pa x.ps.length pc) x.ps) := ⟨yc, yp⟩
          have HT2 : Hid (L.map (·.1) ++ [x] = ql.take (j + 1)) := by show _ = _; rw [HL.out, take_at hx]
          have hby : (j + 1) * 72 ≤ 140737488355328 := by omega
          have hold : ∀ ob o, (wr.alloc ob).cell? ⟨g10, o, none⟩ = wr.cell? ⟨g10, o, none⟩ := fun ob o => ((Below.refl wr.heap.size wr).alloc (Nat.le_refl _) ob).cell (p := ⟨g10, o, none⟩) (lt_of_blk HM.out.box)
          clear hx yc yp hb5 hS5 hbr hLj
          go_wp2_with fail
          go_region_law
            (first
            | (refine step_row Try.underlying39 Try.info_it rfl (by decide) rfl (.tmp 56) (.tmp 62) rfl (wm.heap.size + 1) (.slice na j nc) j (L.flatMap fun x => itCs x.1 x.2.1 x.2.2) (by simp [Act.eval, Act.put]) (by have h9 := HM.out.row; rw [HLJ.out] at h9; exact owns_below h9 ((below_drew (Below.refl _ _)).alloc (Nat.le_refl _) _)) wr.heap.size 1 (itCs x (.slice ca x.cs.length cc) (.slice pa x.ps.length pc)) (by simp [Act.eval, Act.put]) (heap_alloc_new wr.drew _) rfl (by simp [Value.oneCell']) (by unfold maxLen; omega) hby (by have h1 := lt_of_blk HM.out.box; have h2 := HG10.out; show wm.heap.size + 1 ≤ (wr.drew.alloc _).heap.size; rw [World.size_alloc]; show _ ≤ wr.heap.size + 1; omega) ?_
               intro v5 w5 hd5 hg5 ho5
               have hal : Below wr.heap.size wr (wr.drew.alloc (.cells (itCs x (.slice ca x.cs.length cc) (.slice pa x.ps.length pc)).toArray 42)) := (below_drew (Below.refl _ _)).alloc (Nat.le_refl _) _
               obtain ⟨sa, sc, hv5, _⟩ := row_form hd5
               subst hv5
               have HM5 : Hid (MkI wm (w5.setCell ⟨g10, 2, none⟩ (.slice sa (j + 1) sc)) T g10 room st (.slice sa (j + 1) sc) (L ++ [(x, .slice ca x.cs.length cc, .slice pa x.ps.length pc)])) := (HM.out.at hal).push HG10.out.symm (fun k hk => by
                   have h1 := (HTT.out k).1 hk
                   have h4 := HSG.out
                   refine ⟨by omega, fun e => ?_⟩
                   have h2 := (row_block HM.out.row k e).1
                   have h3 := HG10.out
                   omega) ⟨TgsAt.keep HYC.out.1 (Kp.of_below hal _), PasAt.keep HYC.out.2 (Kp.of_below hal _)⟩ (by rw [HLJ.out]; exact hd5) hg5
               have hbx5 : w5.heap[g10]? = some (.cells #[.int .i64 room, .int .i64 st, .slice na j nc] 67 (0, 0)) := by
                 rw [(Chg.grown hg5).block g10 (Nat.lt_of_lt_of_le (lt_of_blk HM.out.box) hal.size) (fun e => by have h2 := (row_block HM.out.row g10 e).1; have h3 := HG10.out; omega)]
                 exact kept_block hal HM.out.box
               obtain ⟨d0, d1, d2'⟩ := cells_3 hbx5
               have fb5 := free_of hbx5
               clear hd5 hg5 ho5 hal hbx5)
            | fail)
          all_goals
            go_wp2_with fail
            exact ⟨⟨j + 1, sa, sc, _, by simp, by omega, (by show _ = _; rw [List.map_append]; exact HT2.out), HM5⟩, by simp [intOf]; omega⟩
        · obtain rfl : j = qn := by omega
          have hge : ¬ (j : Int) < (j : Int) := by omega
          have HBr : Hid (Below w.heap.size w wr) := trans2 HBW1.out hbr
          have HCH : Hid (∀ W', Below w.heap.size w W' → _) := fun W' hb => refChanges_any (.slice la q lc) l W' P (TgsAt.keep HLS.out (Kp.of_below hb _)) HSL.out
          have HEC : Hid (∀ args w, (callFunc 56 args).run Try.prog w = .ok (.enter 56 args) w) := enters_of Try.func56 (by kernel_rfl) rfl
          have HGL : Hid (g10 < wr.heap.size ∧ g < g10) := ⟨lt_of_blk HM.out.box, by have := HSG.out; omega⟩
          have hby : (j + 1) * 72 ≤ 140737488355328 := by omega
          have HLL : Hid (L.map (·.1) = ql) := by show _ = _; rw [HL.out, List.take_of_length_le (by rw [HQN.out]; exact Nat.le_refl _)]
          clear hbr hLj
          go_wp2_with fail
          go_region_law
            (first
            | (refine step_one (by rfl) 56 (.tmp 70) _ (by rfl) HEC.out (.slice la q lc) (by rfl) (HCH.out _ (by first | exact below_drew HBr.out | exact HBr.out)) ?_
               rintro e w6 ⟨u, rfl, hu, hb6⟩
               obtain ⟨ua, uc, rfl, _⟩ := RowAt.form hu
               refine ⟨_, rfl, ?_⟩
               have hb6 : Below wr.heap.size wr w6 := by first | exact of_drew hb6 | exact hb6
               have HB6 : Hid (Below wr.heap.size wr w6) := hb6
               have HM6 : Hid (MkI wm w6 (fun k => T k ∨ (wr.heap.size ≤ k ∧ k < w6.heap.size)) g10 room st (.slice na j nc) L) := (HM.out.at hb6).mono (fun k _ hk => .inl hk)
               have HU6 : Hid (TgsAt w6 (fun k => T k ∨ (wr.heap.size ≤ k ∧ k < w6.heap.size)) (.slice ua l.length uc) l) := TgsAt.mono hu (fun k hk hn => .inr ⟨hn, hk⟩)
               obtain ⟨e0, e1, e2⟩ := cells_3 HM6.out.box
               obtain ⟨k0, k1, k2⟩ := cells_3 (kept_block HM6.out.below HA1.out)
               have hold : ∀ ob o, (w6.alloc ob).cell? ⟨g10, o, none⟩ = w6.cell? ⟨g10, o, none⟩ := fun ob o => ((Below.refl w6.heap.size w6).alloc (Nat.le_refl _) ob).cell (p := ⟨g10, o, none⟩) (lt_of_blk HM6.out.box)
               clear hu hb6)
            | (refine step_row Try.underlying39 Try.info_it rfl (by decide) rfl (.tmp 66) (.tmp 73) rfl (wm.heap.size + 1) (.slice na j nc) j (L.flatMap fun x => itCs x.1 x.2.1 x.2.2) (by simp [Act.eval, Act.put]) (by have h9 := HM6.out.row; rw [HLJ.out] at h9; exact owns_below h9 ((Below.refl _ _).alloc (Nat.le_refl _) _)) w6.heap.size 1 (itCs ⟨st, last, false, l, []⟩ (.slice ua l.length uc) (.slice none 0 0)) (by simp [Act.eval, Act.put]) (heap_alloc_new w6 _) rfl (by simp [Value.oneCell']) (by unfold maxLen; omega) hby (by have h1 := lt_of_blk HM6.out.box; have h2 := HG10.out; show wm.heap.size + 1 ≤ (w6.alloc _).heap.size; rw [World.size_alloc]; omega) ?_
               intro v5 w5 hd5 hg5 ho5
               have hal : Below w6.heap.size w6 (w6.alloc (.cells (itCs ⟨st, last, false, l, []⟩ (.slice ua l.length uc) (.slice none 0 0)).toArray 42)) := (Below.refl _ _).alloc (Nat.le_refl _) _
               obtain ⟨sa, sc, hv5, _⟩ := row_form hd5
               subst hv5
               have HM5 : Hid (MkI wm (w5.setCell ⟨g10, 2, none⟩ (.slice sa (j + 1) sc)) (fun k => T k ∨ (wr.heap.size ≤ k ∧ k < w6.heap.size)) g10 room st (.slice sa (j + 1) sc) (L ++ [(⟨st, last, false, l, []⟩, .slice ua l.length uc, .slice none 0 0)])) := (HM6.out.at hal).push HG10.out.symm (fun k hk => by
                   have h4 := HSG.out
                   have h5 := HGL.out
                   rcases hk with hk | hk
                   · have h1 := (HTT.out k).1 hk
                     refine ⟨by omega, fun e => ?_⟩
                     have h2 := (row_block HM6.out.row k e).1
                     have h3 := HG10.out
                     omega
                   · refine ⟨by omega, fun e => ?_⟩
                     have h2 := (row_block HM.out.row k e).2
                     omega) ⟨TgsAt.keep HU6.out (Kp.of_below hal _), RowAt.nil _ _ _ _⟩ (by rw [HLJ.out]; exact hd5) hg5
               have hbx5 : w5.heap[g10]? = some (.cells #[.int .i64 room, .int .i64 st, .slice na j nc] 67 (0, 0)) := by
                 rw [(Chg.grown hg5).block g10 (Nat.lt_of_lt_of_le (lt_of_blk HM6.out.box) hal.size) (fun e => by have h2 := (row_block HM6.out.row g10 e).1; have h3 := HG10.out; omega)]
                 exact kept_block hal HM6.out.box
               obtain ⟨d0, d1, d2'⟩ := cells_3 hbx5
               have fb5 := free_of hbx5
               have HB7 : Hid _ := kept_block HM5.out.below HB1.out
               obtain ⟨s0, s1, s2⟩ := cells_3 HB7.out
               have fs7 := free_of HB7.out
               obtain ⟨t0, t1, t2⟩ := cells_3 HM5.out.box
               have HEND : Hid (ItsAt (w5.setCell ⟨g10, 2, none⟩ (.slice sa (j + 1) sc)) (fun k => (S k ∨ w.heap.size ≤ k) ∧ k ≠ g + 1) (.slice sa (j + 1) sc) (ql ++ [⟨st, last, false, l, []⟩]) ∧ Below w.heap.size w (w5.setCell ⟨g10, 2, none⟩ (.slice sa (j + 1) sc))) := by
                 refine ⟨?_, trans2 HBW1.out HM5.out.below⟩
                 have h9 := HM5.out.row
                 have h8 := items_row (S := fun k => (S k ∨ w.heap.size ≤ k) ∧ k ≠ g + 1) h9 (fun k hk => by
                   have h1 := (row_block h9 k hk).1
                   have h2 := HSG.out
                   have h3 := HG10.out
                   exact ⟨.inr (by omega), by omega⟩) (fun y hy => by
                   have h1 := HM5.out.each y hy
                   have hsub : ∀ k, k < (w5.setCell ⟨g10, 2, none⟩ (.slice sa (j + 1) sc)).heap.size → (T k ∨ (wr.heap.size ≤ k ∧ k < w6.heap.size)) → ((S k ∨ w.heap.size ≤ k) ∧ k ≠ g + 1) := fun k _ hk => by
                     have h2 := HSG.out
                     have h5 := HGL.out
                     have h6 := HG.out
                     rcases hk with hk | hk
                     · have h4 := (HTT.out k).1 hk
                       exact ⟨.inl h4.2, by omega⟩
                     · exact ⟨.inr (by omega), by omega⟩
                   exact ⟨TgsAt.mono h1.1 hsub, PasAt.mono h1.2 hsub⟩)
                 rw [List.map_append, HLL.out] at h8
                 exact h8
               clear hd5 hg5 ho5 hal hbx5)
            | fail)
          all_goals
            go_wp2_with fail
            exact bodyPost_ret (results_cell_tmp rfl _ _ (g + 1) 67 _ (0, 0) _ _ rfl rfl (fill_3 HB7.out) Try.underlying67 rfl (by kernel_rfl)) rfl ⟨_, rfl, its_mono (ItsAt.keep HEND.out.1 (Kp.of_chg (chg_put3 _ _ _ _ _) (fun k _ hk e => hk.2 e))) (fun k _ hk => hk.1), fillB_3 HEND.out.2 (by have := HG.out; omega)⟩
end Go.Proofs.Ytlidkieljiebiaa
