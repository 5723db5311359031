/-
  heraldref10: Next.
-/
import Derived.Test.YtlidkieljiebiaaQRefV
namespace Go.Proofs.Ytlidkieljiebiaa
open Go.RowKit
set_option linter.unusedVariables false
set_option linter.unusedSimpArgs false

/-- A list of items in the making. -/
structure MkN (w0 w : World) (mv : Value) (L : List (ItT × Value × Value)) : Prop where
  row : w.ownsRow w0.heap.size 42 5 mv L.length (L.flatMap fun x => itCs x.1 x.2.1 x.2.2)
  each : ∀ x ∈ L, TgsAt w (fun j => w0.heap.size ≤ j ∧ mv.ownBlock ≠ some j) x.2.1 x.1.cs ∧ PasAt w (fun j => w0.heap.size ≤ j ∧ mv.ownBlock ≠ some j) x.2.2 x.1.ps
  below : Below w0.heap.size w0 w
theorem MkN.at {w0 w w' : World} {mv : Value} {L : List (ItT × Value × Value)} (h : MkN w0 w mv L) (hb : Below w.heap.size w w') : MkN w0 w' mv L :=
  ⟨owns_below h.row hb, fun x hx => ⟨TgsAt.keep (h.each x hx).1 (Kp.of_below hb _), PasAt.keep (h.each x hx).2 (Kp.of_below hb _)⟩, trans2 h.below hb⟩
theorem MkN.push {w0 w w' : World} {mv mv' u1 u2 : Value} {L : List (ItT × Value × Value)} {t : ItT} (h : MkN w0 w mv L) (hu : TgsAt w (fun j => w0.heap.size ≤ j ∧ mv.ownBlock ≠ some j) u1 t.cs ∧ PasAt w (fun j => w0.heap.size ≤ j ∧ mv.ownBlock ≠ some j) u2 t.ps)
    (hr : w'.ownsRow w0.heap.size 42 5 mv' (L.length + 1) ((L.flatMap fun x => itCs x.1 x.2.1 x.2.2) ++ itCs t u1 u2)) (hg : w.grownBy w' mv.ownBlock) (ho : mv'.ownBlock = mv.ownBlock ∨ mv'.ownBlock = some w.heap.size) : MkN w0 w' mv' (L ++ [(t, u1, u2)]) := by
  have hc := Chg.grown hg
  have hsub : ∀ j, j < w.heap.size → (w0.heap.size ≤ j ∧ mv.ownBlock ≠ some j) → (w0.heap.size ≤ j ∧ mv'.ownBlock ≠ some j) := fun j hj hh => ⟨hh.1, fun e => by
    rcases ho with ho | ho
    · exact hh.2 (by rw [← ho]; exact e)
    · rw [ho] at e; cases e; omega⟩
  have hk : Kp w w' (fun j => w0.heap.size ≤ j ∧ mv'.ownBlock ≠ some j ∧ mv.ownBlock ≠ some j) := Kp.of_chg hc (fun j _ hj e => hj.2.2 e)
  have ht : ∀ {v l}, TgsAt w (fun j => w0.heap.size ≤ j ∧ mv.ownBlock ≠ some j) v l → TgsAt w' (fun j => w0.heap.size ≤ j ∧ mv'.ownBlock ≠ some j) v l := fun hv => TgsAt.mono (TgsAt.keep (TgsAt.mono hv (fun j hj hh => ⟨hh.1, (hsub j hj hh).2, hh.2⟩)) hk) (fun j _ hh => ⟨hh.1, hh.2.1⟩)
  have hp : ∀ {v l}, PasAt w (fun j => w0.heap.size ≤ j ∧ mv.ownBlock ≠ some j) v l → PasAt w' (fun j => w0.heap.size ≤ j ∧ mv'.ownBlock ≠ some j) v l := fun hv => PasAt.mono (PasAt.keep (PasAt.mono hv (fun j hj hh => ⟨hh.1, (hsub j hj hh).2, hh.2⟩)) hk) (fun j _ hh => ⟨hh.1, hh.2.1⟩)
  refine ⟨?_, fun x hx => ?_, grown_in h.below hg (fun k hk => (row_block h.row k hk).1) (Nat.le_refl _)⟩
  · rw [List.length_append, List.flatMap_append]
    simpa using hr
  · rcases List.mem_append.1 hx with hx | hx
    · exact ⟨ht (h.each x hx).1, hp (h.each x hx).2⟩
    · obtain rfl : x = (t, u1, u2) := by simpa using hx
      exact ⟨ht hu.1, hp hu.2⟩
/-- A box is written. -/
theorem MkN.box {w0 w w' : World} {mv : Value} {L : List (ItT × Value × Value)} {g : Nat} (h : MkN w0 w mv L) (hc : Chg w w' (fun k => k = g)) (hg : w0.heap.size ≤ g ∧ mv.ownBlock ≠ some g) (hn : ∀ x ∈ L, TgsAt w (fun j => (w0.heap.size ≤ j ∧ mv.ownBlock ≠ some j) ∧ j ≠ g) x.2.1 x.1.cs ∧ PasAt w (fun j => (w0.heap.size ≤ j ∧ mv.ownBlock ≠ some j) ∧ j ≠ g) x.2.2 x.1.ps) : MkN w0 w' mv L := by
  have hk : Kp w w' (fun j => (w0.heap.size ≤ j ∧ mv.ownBlock ≠ some j) ∧ j ≠ g) := Kp.of_chg hc (fun k _ hk e => hk.2 e)
  exact ⟨row_chg h.row hc (fun k hk e => hg.2 (by have e : k = g := e; rw [← e]; exact hk)), fun x hx => ⟨TgsAt.mono (TgsAt.keep (hn x hx).1 hk) (fun k _ hk => hk.1), PasAt.mono (PasAt.keep (hn x hx).2 hk) (fun k _ hk => hk.1)⟩,
    ⟨hc.os.trans h.below.os, hc.tape.trans h.below.tape, hc.output.trans h.below.output, Nat.le_trans h.below.size hc.size, fun k hk => (hc.block k (Nat.lt_of_lt_of_le hk h.below.size) (fun e => by have e : k = g := e; have := hg.1; omega)).trans (h.below.block k hk)⟩⟩
set_option maxHeartbeats 6400000 in
set_option maxRecDepth 100000 in
theorem refNext_any (Q : QuT) (most : Int) (v : Value) (w : World) (S : Nat → Prop) (h : ItsAt w S v Q.l) (hl : Q.l.length ≤ 32) (hsm : ∀ t ∈ Q.l, t.Small) :
    Calls Try.prog 27 #[rqV Q.room Q.last v, .int .i64 most] w fun e w' => ∃ v', e = .returned v' ∧ ItsAt w' (NewIn w) v' (Q.l.take (nextN Q.l most)) ∧ Below w.heap.size w w' := by
  obtain ⟨a, c, rfl, _⟩ := RowAt.form h
  obtain ⟨room, first, last, ql⟩ := Q
  simp only at *
  obtain ⟨qn, hqn⟩ : ∃ n, ql.length = n := ⟨_, rfl⟩
  rw [hqn] at h hl ⊢
  obtain ⟨W, hW⟩ : ∃ W, w.alloc (.cells #[.int .i64 room, .int .i64 last, .slice a qn c] 67) = W := ⟨_, rfl⟩
  have hA : W.heap[w.heap.size]? = some (.cells #[.int .i64 room, .int .i64 last, .slice a qn c] 67 (0, 0)) := by rw [← hW]; exact heap_alloc_new _ _
  have hbW : Below w.heap.size w W := by rw [← hW]; exact (Below.refl _ _).alloc (Nat.le_refl _) _
  obtain ⟨g, hg⟩ : ∃ g, w.heap.size = g := ⟨_, rfl⟩
  have HA : Hid (W.heap[g]? = some (.cells #[.int .i64 room, .int .i64 last, .slice a qn c] 67 (0, 0))) := by rw [← hg]; exact hA
  have HW : Hid (w.alloc (.cells #[.int .i64 room, .int .i64 last, .slice a qn c] 67) = W) := hW
  have HG : Hid (w.heap.size = g) := hg
  have HQN : Hid (ql.length = qn) := hqn
  have HIT : Hid (ItsAt W (fun j => j < g ∧ S j) (.slice a qn c) ql) := ItsAt.keep (its_mono h (fun k hk h => ⟨by rw [← hg]; exact hk, h⟩)) (Kp.of_below hbW _)
  have HSM : Hid (∀ t ∈ ql, t.Small) := hsm
  have HM0 : Hid (MkN W W (.slice none 0 0) []) := ⟨owns_nil _ _ _ _, (fun x hx => by cases hx), Below.refl _ _⟩
  have HBW : Hid (Below w.heap.size w W) := hbW
  clear hW hA hbW hg hqn h hsm
  go_enter Try.func27, Try.ntmps27
  go_upto_region 2 with fail
  rw [HW.out, HG.out]
  go_wp2_with fail
  go_loopw [5, 6] (fun mv i wr => ∃ (q : Nat) (L : List (ItT × Value × Value)), i = .int .i64 q ∧ q ≤ qn ∧ Hid (q = 0 ∨ (q : Int) ≤ most) ∧ Hid (L.map (·.1) = ql.take q) ∧ Hid (MkN W wr mv L)) (fun _ i _ => qn - (intOf i).toNat)
  case atStart => exact ⟨0, [], rfl, Nat.zero_le _, .inl rfl, rfl, HM0⟩
  case round =>
    obtain ⟨q, L, rfl, hq, HMO, HL, HM⟩ := hrel
    have hLq : L.length = q := by have := congrArg List.length HL.out; rw [List.length_map, List.length_take, HQN.out] at this; omega
    have HLQ : Hid (L.length = q) := hLq
    have hbr := HM.out.below
    obtain ⟨c0, c1, c2⟩ := cells_3 (kept_block hbr HA.out)
    by_cases hlt : q < qn ∧ (q : Int) < most
    · obtain ⟨hlt, hqm⟩ := hlt
      have hqi : (q : Int) < (qn : Int) := by omega
      obtain ⟨x, hx⟩ : ∃ x, ql[q]? = some x := ⟨ql[q]'(by rw [HQN.out]; exact hlt), List.getElem?_eq_getElem _⟩
      obtain ⟨b5, o5, rfl, hS5, hb5, v1, v2, e5⟩ := RowAt.get HIT.out hx
      have e5 := e5.keep (Kp.of_below hbr _) (fun k v hv _ _ => by rw [hbr.cell (p := ⟨b5, k, none⟩) hb5]; exact hv)
      obtain ⟨y0, y1, y2, y3, y4, yc, yp⟩ := e5
      obtain ⟨ca, cc, rfl, _⟩ := RowAt.form yc
      obtain ⟨pa, pc, rfl, _⟩ := RowAt.form yp
      have HT2 : Hid (L.map (·.1) ++ [x] = ql.take (q + 1)) := by show _ = _; rw [HL.out, take_at hx]
      have hsx := HSM.out x (List.mem_of_getElem? hx)
      have HC : Hid (∀ W', Below wr.heap.size wr W' → _) := fun W' hb => refChanges_any (.slice ca x.cs.length cc) x.cs W' _ (TgsAt.keep yc (Kp.of_below hb _)) hsx.cs
      have HP : Hid (∀ W', Kp wr W' (fun j => j < g ∧ S j) → _) := fun W' hb => refParts_any (.slice pa x.ps.length pc) x.ps W' _ (PasAt.keep yp hb) hsx.ps
      clear hx hsx yc yp hb5 hS5
      go_upto_region 6 with fail
      obtain ⟨W5, hW5⟩ : ∃ W5, wr.alloc (.cells #[.int .i64 x.st, .int .i64 x.af, .bool x.mark, .slice ca x.cs.length cc, .slice pa x.ps.length pc] 42) = W5 := ⟨_, rfl⟩
      have hA5 : W5.heap[wr.heap.size]? = some (.cells #[.int .i64 x.st, .int .i64 x.af, .bool x.mark, .slice ca x.cs.length cc, .slice pa x.ps.length pc] 42 (0, 0)) := by rw [← hW5]; exact heap_alloc_new _ _
      have hb5 : Below wr.heap.size wr W5 := by rw [← hW5]; exact (Below.refl _ _).alloc (Nat.le_refl _) _
      rw [hW5]
      obtain ⟨g7, hg7⟩ : ∃ g7, wr.heap.size = g7 := ⟨_, rfl⟩
      rw [hg7] at hA5 ⊢
      have HA5 : Hid (W5.heap[g7]? = some (.cells #[.int .i64 x.st, .int .i64 x.af, .bool x.mark, .slice ca x.cs.length cc, .slice pa x.ps.length pc] 42 (0, 0))) := hA5
      have HEG5 : Hid (∀ y ∈ L, TgsAt W5 (fun j => (W.heap.size ≤ j ∧ u5.ownBlock ≠ some j) ∧ j ≠ g7) y.2.1 y.1.cs ∧ PasAt W5 (fun j => (W.heap.size ≤ j ∧ u5.ownBlock ≠ some j) ∧ j ≠ g7) y.2.2 y.1.ps) := fun y hy => ⟨TgsAt.keep (TgsAt.mono (HM.out.each y hy).1 (fun j hj h => ⟨h, by omega⟩)) (Kp.of_below hb5 _), PasAt.keep (PasAt.mono (HM.out.each y hy).2 (fun j hj h => ⟨h, by omega⟩)) (Kp.of_below hb5 _)⟩
      have HM5 : Hid (MkN W W5 u5 L) := HM.out.at hb5
      have HGN : Hid (W.heap.size ≤ g7 ∧ u5.ownBlock ≠ some g7) := ⟨by rw [← hg7]; exact hbr.size, fun e => by have := (row_block HM.out.row _ e).2; omega⟩
      have HB5 : Hid (Below wr.heap.size wr W5) := hb5
      have HG7 : Hid (g ≤ g7 ∧ wr.heap.size = g7) := ⟨by have h1 := lt_of_blk HA.out; have h2 := HGN.out.1; omega, hg7⟩
      obtain ⟨x0, x1, x2, x3, x4⟩ := cells_5 hA5
      clear hW5 hA5 hb5 hg7 y0 y1 y2 y3 y4 c0 c1 c2 hbr hLq HM
      obtain ⟨cn, hcn⟩ : ∃ z, x.cs.length = z := ⟨_, rfl⟩
      obtain ⟨pn, hpn⟩ : ∃ z, x.ps.length = z := ⟨_, rfl⟩
      rw [hcn] at HC HA5 x3
      rw [hpn] at HP HA5 x4
      have HCN : Hid (x.cs.length = cn ∧ x.ps.length = pn) := ⟨hcn, hpn⟩
      clear hcn hpn
      go_wp2_with fail
      refine Calls.mono (HC.out _ HB5.out) ?_
      rintro e w6 ⟨u, rfl, hu, hb6⟩
      obtain ⟨ua, uc, rfl, _⟩ := RowAt.form hu
      rw [HCN.out.1] at hu ⊢
      have HA6 : Hid _ := kept_block hb6 HA5.out
      obtain ⟨z0, z1, z2, z3, z4⟩ := cells_5 HA6.out
      have f6 := free_of HA6.out
      obtain ⟨W7, hW7⟩ : ∃ W7, w6.setCell ⟨g7, 3, none⟩ (.slice ua cn uc) = W7 := ⟨_, rfl⟩
      have hset7 : Chg w6 W7 (fun k => k = g7) := by rw [← hW7]; exact Chg.set w6 ⟨g7, 3, none⟩ _
      have HA7 : Hid (W7.heap[g7]? = some (.cells #[.int .i64 x.st, .int .i64 x.af, .bool x.mark, .slice ua cn uc, .slice pa pn pc] 42 (0, 0))) := by show W7.heap[g7]? = _; rw [← hW7]; exact same_blk HA6.out rfl
      have hEG6 : ∀ y ∈ L, TgsAt w6 (fun j => (W.heap.size ≤ j ∧ u5.ownBlock ≠ some j) ∧ j ≠ g7) y.2.1 y.1.cs ∧ PasAt w6 (fun j => (W.heap.size ≤ j ∧ u5.ownBlock ≠ some j) ∧ j ≠ g7) y.2.2 y.1.ps := fun y hy => ⟨TgsAt.keep (HEG5.out y hy).1 (Kp.of_below hb6 _), PasAt.keep (HEG5.out y hy).2 (Kp.of_below hb6 _)⟩
      have hk7 : Kp w6 W7 (fun j => (W.heap.size ≤ j ∧ u5.ownBlock ≠ some j) ∧ j ≠ g7) := Kp.of_chg hset7 (fun j _ hj e => hj.2 e)
      have HEG7 : Hid (∀ y ∈ L, TgsAt W7 (fun j => (W.heap.size ≤ j ∧ u5.ownBlock ≠ some j) ∧ j ≠ g7) y.2.1 y.1.cs ∧ PasAt W7 (fun j => (W.heap.size ≤ j ∧ u5.ownBlock ≠ some j) ∧ j ≠ g7) y.2.2 y.1.ps) := fun y hy => ⟨TgsAt.keep (hEG6 y hy).1 hk7, PasAt.keep (hEG6 y hy).2 hk7⟩
      have HM7 : Hid (MkN W W7 u5 L) := (HM5.out.at hb6).box hset7 HGN.out hEG6
      have hown : ∀ j, W5.heap.size ≤ j → (W.heap.size ≤ j ∧ u5.ownBlock ≠ some j) ∧ j ≠ g7 := fun j hj => ⟨⟨Nat.le_trans HM5.out.below.size hj, fun e => by have := (row_block HM5.out.row _ e).2; omega⟩, by have := lt_of_blk HA5.out; omega⟩
      have HU7 : Hid (TgsAt W7 (fun j => (W.heap.size ≤ j ∧ u5.ownBlock ≠ some j) ∧ j ≠ g7) (.slice ua cn uc) x.cs) := TgsAt.keep (TgsAt.mono hu (fun j _ hj => hown j hj)) hk7
      have HKP : Hid (Kp wr W7 (fun j => j < g ∧ S j)) := ⟨Nat.le_trans HB5.out.size (Nat.le_trans hb6.size hset7.size), fun j hj hS => (hset7.block j (Nat.lt_of_lt_of_le hj (Nat.le_trans HB5.out.size hb6.size)) (fun e => by have e : j = g7 := e; have := HG7.out; omega)).trans ((trans2 HB5.out hb6).block j hj)⟩
      have HW7 : Hid (w6.setCell ⟨g7, 3, none⟩ (.slice ua cn uc) = W7) := hW7
      obtain ⟨s0, s1, s2, s3, s4⟩ := cells_5 HA7.out
      rw [← hW7] at s0 s1 s2 s3 s4
      clear hu hb6 hset7 hEG6 hk7 hown hW7 x0 x1 x2 x3 x4
      go_wp2_with fail
      rw [HW7.out]
      clear s0 s1 s2 s3 s4 z0 z1 z2 z3 z4 f6
      refine Calls.mono (HP.out _ HKP.out) ?_
      rintro e w8 ⟨u2, rfl, hu, hb8⟩
      obtain ⟨ua2, uc2, rfl, _⟩ := RowAt.form hu
      rw [HCN.out.2] at hu ⊢
      have HA8 : Hid _ := kept_block hb8 HA7.out
      obtain ⟨z0, z1, z2, z3, z4⟩ := cells_5 HA8.out
      have f8 := free_of HA8.out
      obtain ⟨W9, hW9⟩ : ∃ W9, w8.setCell ⟨g7, 4, none⟩ (.slice ua2 pn uc2) = W9 := ⟨_, rfl⟩
      have hset9 : Chg w8 W9 (fun k => k = g7) := by rw [← hW9]; exact Chg.set w8 ⟨g7, 4, none⟩ _
      have HA9 : Hid (W9.heap[g7]? = some (.cells #[.int .i64 x.st, .int .i64 x.af, .bool x.mark, .slice ua cn uc, .slice ua2 pn uc2] 42 (0, 0))) := by show W9.heap[g7]? = _; rw [← hW9]; exact same_blk HA8.out rfl
      have hEG8 : ∀ y ∈ L, TgsAt w8 (fun j => (W.heap.size ≤ j ∧ u5.ownBlock ≠ some j) ∧ j ≠ g7) y.2.1 y.1.cs ∧ PasAt w8 (fun j => (W.heap.size ≤ j ∧ u5.ownBlock ≠ some j) ∧ j ≠ g7) y.2.2 y.1.ps := fun y hy => ⟨TgsAt.keep (HEG7.out y hy).1 (Kp.of_below hb8 _), PasAt.keep (HEG7.out y hy).2 (Kp.of_below hb8 _)⟩
      have hk9 : Kp w8 W9 (fun j => (W.heap.size ≤ j ∧ u5.ownBlock ≠ some j) ∧ j ≠ g7) := Kp.of_chg hset9 (fun j _ hj e => hj.2 e)
      have HM9 : Hid (MkN W W9 u5 L) := (HM7.out.at hb8).box hset9 HGN.out hEG8
      have hown : ∀ j, W7.heap.size ≤ j → (W.heap.size ≤ j ∧ u5.ownBlock ≠ some j) ∧ j ≠ g7 := fun j hj => ⟨⟨Nat.le_trans HM7.out.below.size hj, fun e => by have := (row_block HM7.out.row _ e).2; omega⟩, by have := lt_of_blk HA7.out; omega⟩
      have HU9 : Hid (TgsAt W9 (fun j => W.heap.size ≤ j ∧ u5.ownBlock ≠ some j) (.slice ua cn uc) x.cs ∧ PasAt W9 (fun j => W.heap.size ≤ j ∧ u5.ownBlock ≠ some j) (.slice ua2 pn uc2) x.ps) := ⟨TgsAt.mono (TgsAt.keep (TgsAt.keep HU7.out (Kp.of_below hb8 _)) hk9) (fun j _ hj => hj.1), PasAt.mono (PasAt.keep (PasAt.mono hu (fun j _ hj => hown j hj)) hk9) (fun j _ hj => hj.1)⟩
      have HW9 : Hid (w8.setCell ⟨g7, 4, none⟩ (.slice ua2 pn uc2) = W9) := hW9
      obtain ⟨s0, s1, s2, s3, s4⟩ := cells_5 HA9.out
      clear hu hb8 hset9 hEG8 hk9 hown hW9
      go_upto_region 8 with fail
      rw [HW9.out]
      clear z0 z1 z2 z3 z4 f8
      go_wp2_with (first
        | (at_builtin; refine wpList_row Try.underlying39 Try.info_it rfl (by decide) rfl _ _ rfl W.heap.size u5 q (L.flatMap fun x => itCs x.1 x.2.1 x.2.2) rfl (by have h9 := HM9.out.row; rw [HLQ.out] at h9; exact owns_below h9 ((Below.refl W9.heap.size W9).alloc (Nat.le_refl _) _)) W9.heap.size 1 (itCs x (.slice ua cn uc) (.slice ua2 pn uc2)) rfl (heap_alloc_new _ _) rfl (by simp [Value.oneCell']) (by unfold maxLen; omega) (by omega) (Nat.le_trans HM9.out.below.size (by simp)) ?_; intro v5 w5 hd5 hg5 ho5))
      have hbn : Below W9.heap.size W9 (W9.alloc (.cells (itCs x (.slice ua cn uc) (.slice ua2 pn uc2)).toArray 42)) := (Below.refl _ _).alloc (Nat.le_refl _) _
      have HMM : Hid (MkN W w5 v5 (L ++ [(x, .slice ua cn uc, .slice ua2 pn uc2)])) := (HM9.out.at hbn).push ⟨TgsAt.keep HU9.out.1 (Kp.of_below hbn _), PasAt.keep HU9.out.2 (Kp.of_below hbn _)⟩ (by rw [HLQ.out]; exact hd5) hg5 ho5
      have HTT : Hid ((L ++ [(x, Value.slice ua cn uc, Value.slice ua2 pn uc2)]).map (·.1) = ql.take (q + 1)) := by show _ = _; rw [List.map_append]; exact HT2.out
      clear hd5 hg5 ho5 hbn
      go_roundw
      case rel => exact ⟨q + 1, _, by go_num, by omega, .inr (by omega), HTT, HMM⟩
      case measure => simp [intOf]; omega
    · have HNX : Hid (ql.take (nextN ql most) = ql.take q) := by
        show _ = _
        have : nextN ql most = q ∨ (nextN ql most = 0 ∧ q = 0) := by
          have h1 := HMO.out
          have h2 := HQN.out
          unfold nextN
          omega
        rcases this with h | ⟨h1, h2⟩
        · rw [h]
        · rw [h1, h2]
      have HF : Hid (ItsAt wr (NewIn w) u5 (ql.take (nextN ql most))) := by
        have := items_row HM.out.row (S := NewIn w) (fun k hk => Nat.le_trans HBW.out.size (row_block HM.out.row k hk).1) (fun x hx => ⟨TgsAt.mono (HM.out.each x hx).1 (fun j _ hj => Nat.le_trans HBW.out.size hj.1), PasAt.mono (HM.out.each x hx).2 (fun j _ hj => Nat.le_trans HBW.out.size hj.1)⟩)
        rw [HL.out, ← HNX.out] at this
        exact this
      have HBF : Hid (Below w.heap.size w wr) := trans2 HBW.out hbr
      by_cases hq1 : q < qn
      · have d1 : (q : Int) < (qn : Int) := by omega
        have d2 : ¬ (q : Int) < most := fun h => hlt ⟨hq1, h⟩
        clear hlt hbr hLq
        go_wp2_with fail
        go_ret
        exact ⟨_, rfl, HF.out, HBF.out⟩
      · have d1 : ¬ (q : Int) < (qn : Int) := by omega
        clear hlt hbr hLq
        go_wp2_with fail
        go_ret
        exact ⟨_, rfl, HF.out, HBF.out⟩
end Go.Proofs.Ytlidkieljiebiaa
