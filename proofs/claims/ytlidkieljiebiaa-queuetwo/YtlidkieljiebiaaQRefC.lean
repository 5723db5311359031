/-
  heraldref10: changes, copied.
-/
import Derived.Test.YtlidkieljiebiaaQRow
namespace Go.Proofs.Ytlidkieljiebiaa
open Go.RowKit
set_option linter.unusedVariables false
set_option linter.unusedSimpArgs false

theorem grown_in {w0 w w' : World} {v : Value} {B : Nat} (h : Below B w0 w) (hg : w.grownBy w' v.ownBlock) (hv : ∀ k, v.ownBlock = some k → B ≤ k) (hB : B ≤ w0.heap.size) : Below B w0 w' := by
  have hc2 := Chg.grown hg
  exact ⟨hc2.os.trans h.os, hc2.tape.trans h.tape, hc2.output.trans h.output, Nat.le_trans h.size hc2.size, fun k hk => (hc2.block k (by have := h.size; omega) (fun e => by have := hv k e; omega)).trans (h.block k hk)⟩
theorem owns_nil (w : World) (B e s : Nat) : w.ownsRow B e s (.slice none 0 0) 0 [] := World.ownsRow_nil w B e s
/-- A list of lists in the making. -/
structure MkC (w0 w : World) (mv : Value) (L : List (TgT × Value)) : Prop where
  row : w.ownsRow w0.heap.size 88 5 mv L.length (L.flatMap fun x => tgCs x.1 x.2)
  each : ∀ x ∈ L, IntsAt w (fun j => w0.heap.size ≤ j ∧ mv.ownBlock ≠ some j) x.2 x.1.tags
  below : Below w0.heap.size w0 w
theorem MkC.at {w0 w w' : World} {mv : Value} {L : List (TgT × Value)} (h : MkC w0 w mv L) (hb : Below w.heap.size w w') : MkC w0 w' mv L :=
  ⟨owns_below h.row hb, fun x hx => IntsAt.keep (h.each x hx) (Kp.of_below hb _), trans2 h.below hb⟩
theorem MkC.push {w0 w w' : World} {mv mv' u : Value} {L : List (TgT × Value)} {t : TgT} (h : MkC w0 w mv L) (hu : IntsAt w (fun j => w0.heap.size ≤ j ∧ mv.ownBlock ≠ some j) u t.tags)
    (hr : w'.ownsRow w0.heap.size 88 5 mv' (L.length + 1) ((L.flatMap fun x => tgCs x.1 x.2) ++ tgCs t u)) (hg : w.grownBy w' mv.ownBlock) (ho : mv'.ownBlock = mv.ownBlock ∨ mv'.ownBlock = some w.heap.size) : MkC w0 w' mv' (L ++ [(t, u)]) := by
  have hc := Chg.grown hg
  have hsub : ∀ j, j < w.heap.size → (w0.heap.size ≤ j ∧ mv.ownBlock ≠ some j) → (w0.heap.size ≤ j ∧ mv'.ownBlock ≠ some j) := fun j hj hh => ⟨hh.1, fun e => by
    rcases ho with ho | ho
    · exact hh.2 (by rw [← ho]; exact e)
    · rw [ho] at e; cases e; omega⟩
  have hk : Kp w w' (fun j => w0.heap.size ≤ j ∧ mv.ownBlock ≠ some j) := Kp.of_chg hc (fun j _ hj e => hj.2 e)
  have hmv : ∀ {v l}, IntsAt w (fun j => w0.heap.size ≤ j ∧ mv.ownBlock ≠ some j) v l → IntsAt w' (fun j => w0.heap.size ≤ j ∧ mv'.ownBlock ≠ some j) v l := fun hv => RowAt.map hv hc.size hsub (fun b o x hb hS hx => hk.cell hb hS hx)
  refine ⟨?_, fun x hx => ?_, grown_in h.below hg (fun k hk => (row_block h.row k hk).1) (Nat.le_refl _)⟩
  · rw [List.length_append, List.flatMap_append]
    simpa using hr
  · rcases List.mem_append.1 hx with hx | hx
    · exact hmv (h.each x hx)
    · obtain rfl : x = (t, u) := by simpa using hx
      exact hmv hu
set_option maxHeartbeats 3200000 in
set_option maxRecDepth 100000 in
theorem refChanges_any (v : Value) (l : List TgT) (w : World) (S : Nat → Prop) (h : TgsAt w S v l) (hs : TgsSmall l) :
    Calls Try.prog 56 #[v] w fun e w' => ∃ v', e = .returned v' ∧ TgsAt w' (NewIn w) v' l ∧ Below w.heap.size w w' := by
  obtain ⟨a, c, rfl, _⟩ := RowAt.form h
  obtain ⟨n, hn⟩ : ∃ n, l.length = n := ⟨_, rfl⟩
  have hn1 : n * 72 ≤ 140737488355328 := by have := hs.len; unfold MaxRow at this; omega
  have HS : Hid (TgsSmall l) := hs
  rw [hn] at h ⊢
  have HN : Hid (l.length = n) := hn
  have H1 : Hid (TgsAt w S (.slice a n c) l) := h
  have HM0 : Hid (MkC w w (.slice none 0 0) []) := ⟨owns_nil _ _ _ _, (fun x hx => by cases hx), Below.refl _ _⟩
  clear h hn hs
  go_enter Try.func56, Try.ntmps56
  go_wp2_with fail
  go_loopw [3, 4] (fun mv i wr => ∃ (q : Nat) (L : List (TgT × Value)), i = .int .i64 q ∧ q ≤ n ∧ Hid (L.map (·.1) = l.take q) ∧ Hid (MkC w wr mv L)) (fun _ i _ => n - (intOf i).toNat)
  case atStart => exact ⟨0, [], rfl, Nat.zero_le _, rfl, HM0⟩
  case round =>
    obtain ⟨q, L, rfl, hq, HL, HM⟩ := hrel
    obtain ⟨mv, hmv⟩ : ∃ mv, u3 = mv := ⟨_, rfl⟩
    subst hmv
    have hLq : L.length = q := by have := congrArg List.length HL.out; rw [List.length_map, List.length_take, HN.out] at this; omega
    have HLQ : Hid (L.length = q) := hLq
    by_cases hlt : q < n
    · have hqi : (q : Int) < (n : Int) := by omega
      obtain ⟨x, hx⟩ : ∃ x, l[q]? = some x := ⟨l[q]'(by rw [HN.out]; exact hlt), List.getElem?_eq_getElem _⟩
      obtain ⟨b, o, rfl, _, hb, u, e1⟩ := RowAt.get H1.out hx
      obtain ⟨x0, x1, x2, x3, x4, xt⟩ := e1
      obtain ⟨ta, tc, rfl, _⟩ := RowAt.form xt
      obtain ⟨tn, htn⟩ : ∃ z, x.tags.length = z := ⟨_, rfl⟩
      rw [htn] at x4 xt
      have htn1 : tn * 8 ≤ 140737488355328 := by have := (HS.out.each x (List.mem_of_getElem? hx)).len; unfold MaxRow at this; omega
      have HX : Hid (w.cell? ⟨b, o + q * 5, none⟩ = some (.int .i64 x.k) ∧ w.cell? ⟨b, o + q * 5 + 1, none⟩ = some (.string x.p) ∧ w.cell? ⟨b, o + q * 5 + 2, none⟩ = some (.string x.d) ∧ w.cell? ⟨b, o + q * 5 + 3, none⟩ = some (.int .i64 x.v) ∧ w.cell? ⟨b, o + q * 5 + 4, none⟩ = some (.slice ta tn tc)) := ⟨x0, x1, x2, x3, x4⟩
      have HXT : Hid (IntsAt w S (.slice ta tn tc) x.tags) := xt
      have HTN : Hid (x.tags.length = tn) := htn
      have HT2 : Hid (L.map (·.1) ++ [x] = l.take (q + 1)) := by show _ = _; rw [HL.out, take_at hx]
      have HLT : Hid (q < n) := hlt
      have HBB : Hid (b < w.heap.size) := hb
      obtain ⟨wo, hwo⟩ : ∃ x, x = wr := ⟨wr, rfl⟩
      subst hwo
      clear hx x0 x1 x2 x3 x4 xt htn hb hLq
      go_wp2_with fail
      go_loopw [5, 6] (fun tv k wk => ∃ j : Nat, k = .int .i64 j ∧ j ≤ tn ∧ Hid (wk.ownsRow wo.heap.size 3 1 tv j ((x.tags.take j).flatMap fun y => [.int .i64 y])) ∧ Hid (Below wo.heap.size wo wk)) (fun _ k _ => tn - (intOf k).toNat)
      case atStart => exact ⟨0, rfl, Nat.zero_le _, owns_nil _ _ _ _, Below.refl _ _⟩
      case round =>
        obtain ⟨j, rfl, hj, HR, HBk⟩ := hrel
        have hbk : Below w.heap.size w wr := trans2 HM.out.below HBk.out
        have hcell : ∀ i v, w.cell? ⟨b, i, none⟩ = some v → wr.cell? ⟨b, i, none⟩ = some v := fun i v hv => by rw [hbk.cell (p := ⟨b, i, none⟩) HBB.out]; exact hv
        have x4 := hcell _ _ HX.out.2.2.2.2
        by_cases hjl : j < tn
        · have hji : (j : Int) < (tn : Int) := by omega
          obtain ⟨y, hy⟩ : ∃ y, x.tags[j]? = some y := ⟨x.tags[j]'(by rw [HTN.out]; exact hjl), List.getElem?_eq_getElem _⟩
          obtain ⟨tb, tof, rfl, _, htb, s0⟩ := RowAt.get HXT.out hy
          have s0 : wr.cell? ⟨tb, tof + j, none⟩ = some (.int .i64 y) := by rw [hbk.cell (p := ⟨tb, tof + j, none⟩) htb]; simpa [inE] using s0
          have HY : Hid ((x.tags.take j).flatMap (fun y => [Value.int .i64 y]) ++ [.int .i64 y] = (x.tags.take (j + 1)).flatMap fun y => [.int .i64 y]) := by show _ = _; rw [take_at hy, List.flatMap_append]; rfl
          clear hy htb hbk hcell
          go_wp2_with (first
            | (at_builtin; refine wpList_row Try.underlying29 Try.infoInt rfl (by decide) rfl _ _ rfl wo.heap.size u5 j _ rfl (owns_below HR.out ((Below.refl _ _).alloc (Nat.le_refl _) _)) wr.heap.size 1 [.int .i64 y] rfl (heap_alloc_new _ _) rfl (by simp [Value.oneCell']) (by unfold maxLen; omega) (by omega) (Nat.le_trans HBk.out.size (by simp)) ?_; intro v4 w4 hd4 hg4 ho4))
          have hb4 : Below wo.heap.size wo w4 := grown_in (HBk.out.trans (((Below.refl _ _).alloc (Nat.le_refl _) _).mono HBk.out.size)) hg4 (fun k hk => (row_block HR.out k hk).1) (Nat.le_refl _)
          have HR4 : Hid (w4.ownsRow wo.heap.size 3 1 v4 (j + 1) ((x.tags.take (j + 1)).flatMap fun y => [.int .i64 y])) := by show World.ownsRow _ _ _ _ _ _ _; rw [← HY.out]; exact hd4
          clear hd4 hg4 ho4
          go_roundw
          case rel => exact ⟨j + 1, by go_num, by omega, HR4, hb4⟩
          case measure => simp [intOf]; omega
        · obtain rfl : j = tn := by omega
          have hge : ¬ (j : Int) < (j : Int) := by omega
          have HRJ : Hid (wr.ownsRow wo.heap.size 3 1 u5 x.tags.length (x.tags.flatMap fun y => [.int .i64 y])) := by
            show World.ownsRow _ _ _ _ _ _ _
            have := HR.out
            rw [List.take_of_length_le (by rw [HTN.out]; exact Nat.le_refl _)] at this
            rw [HTN.out]
            exact this
          have hne : ∀ k, u5.ownBlock = some k → w.heap.size ≤ k ∧ u3.ownBlock ≠ some k := fun k hk => ⟨Nat.le_trans HM.out.below.size (row_block HR.out k hk).1, fun e => by have h1 := (row_block HM.out.row k e).2; have h2 := (row_block HR.out k hk).1; omega⟩
          have HIA : Hid (IntsAt wr (fun j => w.heap.size ≤ j ∧ u3.ownBlock ≠ some j) u5 x.tags) := ints_row HRJ.out hne
          have HMr : Hid (MkC w wr u3 L) := HM.out.at HBk.out
          have x0 := hcell _ _ HX.out.1
          have x1 := hcell _ _ HX.out.2.1
          have x2 := hcell _ _ HX.out.2.2.1
          have x3 := hcell _ _ HX.out.2.2.2.1
          obtain ⟨ua, uc, hu5, _⟩ := RowAt.form HIA.out
          rw [HTN.out] at hu5
          clear hbk hcell hne HRJ HR
          subst hu5
          go_wp2_with (first
            | (at_builtin; refine wpList_row Try.underlying30 Try.info_tg rfl (by decide) rfl _ _ rfl w.heap.size u3 q (L.flatMap fun x => tgCs x.1 x.2) rfl (by have h9 := HMr.out.row; rw [HLQ.out] at h9; exact owns_below h9 ((Below.refl wr.heap.size wr).alloc (Nat.le_refl _) _)) wr.heap.size 1 (tgCs x (.slice ua j uc)) rfl (heap_alloc_new _ _) rfl (by simp [Value.oneCell']) (by unfold maxLen; omega) (by have := HLT.out; omega) (Nat.le_trans HMr.out.below.size (by simp)) ?_; intro v5 w5 hd5 hg5 ho5))
          have hbn : Below wr.heap.size wr (wr.alloc (.cells (tgCs x (.slice ua j uc)).toArray 88)) := (Below.refl _ _).alloc (Nat.le_refl _) _
          have HM5 : Hid (MkC w w5 v5 (L ++ [(x, .slice ua j uc)])) := (HMr.out.at hbn).push (IntsAt.keep HIA.out (Kp.of_below hbn _)) (by rw [HLQ.out]; exact hd5) hg5 ho5
          have HT5 : Hid ((L ++ [(x, Value.slice ua j uc)]).map (·.1) = l.take (q + 1)) := by show _ = _; rw [List.map_append]; exact HT2.out
          clear hd5 hg5 ho5 hbn
          go_roundw
          case rel => exact ⟨q + 1, _, by go_num, by have := HLT.out; omega, HT5, HM5⟩
          case measure => have := HLT.out; simp [intOf]; omega
    · obtain rfl : q = n := by omega
      have hge : ¬ (q : Int) < (q : Int) := by omega
      have HF : Hid (TgsAt wr (NewIn w) u3 l) := by
        have := tags_row HM.out.row (S := NewIn w) (fun k hk => (row_block HM.out.row k hk).1) (fun x hx => IntsAt.mono (HM.out.each x hx) (fun j _ hj => hj.1))
        rw [HL.out, List.take_of_length_le (by rw [HN.out]; exact Nat.le_refl _)] at this
        exact this
      go_wp2_with fail
      go_ret
      exact ⟨_, rfl, HF.out, HM.out.below⟩
end Go.Proofs.Ytlidkieljiebiaa
