import Derived.Test.YtlidkieljiebiaaQRefC
import Derived.Deep.Cut
namespace Go.Proofs.Ytlidkieljiebiaa
open Go.RowKit
set_option linter.unusedVariables false
set_option linter.unusedSimpArgs false

/-- A list of lists in the making. -/
structure MkP (w0 w : World) (mv : Value) (L : List (PaT × Value)) : Prop where
  row : w.ownsRow w0.heap.size 96 5 mv L.length (L.flatMap fun x => paCs x.1 x.2)
  each : ∀ x ∈ L, SesAt w (fun j => w0.heap.size ≤ j ∧ mv.ownBlock ≠ some j) x.2 x.1.nodes
  below : Below w0.heap.size w0 w
theorem MkP.at {w0 w w' : World} {mv : Value} {L : List (PaT × Value)} (h : MkP w0 w mv L) (hb : Below w.heap.size w w') : MkP w0 w' mv L :=
  ⟨owns_below h.row hb, fun x hx => SesAt.keep (h.each x hx) (Kp.of_below hb _), trans2 h.below hb⟩
/-- A cell of a box is written. -/
theorem MkP.box {w0 w w' : World} {mv : Value} {L : List (PaT × Value)} {g : Nat} (h : MkP w0 w mv L) (hc : Chg w w' (fun k => k = g)) (hg : w0.heap.size ≤ g ∧ mv.ownBlock ≠ some g) (hn : ∀ x ∈ L, SesAt w (fun j => (w0.heap.size ≤ j ∧ mv.ownBlock ≠ some j) ∧ j ≠ g) x.2 x.1.nodes) : MkP w0 w' mv L :=
  ⟨row_chg h.row hc (fun k hk e => hg.2 (by rw [← e]; exact hk)), fun x hx => SesAt.mono (SesAt.keep (hn x hx) (Kp.of_chg hc (fun k _ hk e => hk.2 e))) (fun k _ hk => hk.1),
    ⟨hc.os.trans h.below.os, hc.tape.trans h.below.tape, hc.output.trans h.below.output, Nat.le_trans h.below.size hc.size, fun k hk => (hc.block k (Nat.lt_of_lt_of_le hk h.below.size) (fun e => by have := hg.1; omega)).trans (h.below.block k hk)⟩⟩
theorem MkP.push {w0 w w' : World} {mv mv' u : Value} {L : List (PaT × Value)} {t : PaT} (h : MkP w0 w mv L) (hu : SesAt w (fun j => w0.heap.size ≤ j ∧ mv.ownBlock ≠ some j) u t.nodes)
    (hr : w'.ownsRow w0.heap.size 96 5 mv' (L.length + 1) ((L.flatMap fun x => paCs x.1 x.2) ++ paCs t u)) (hg : w.grownBy w' mv.ownBlock) (ho : mv'.ownBlock = mv.ownBlock ∨ mv'.ownBlock = some w.heap.size) : MkP w0 w' mv' (L ++ [(t, u)]) := by
  have hc := Chg.grown hg
  have hsub : ∀ j, j < w.heap.size → (w0.heap.size ≤ j ∧ mv.ownBlock ≠ some j) → (w0.heap.size ≤ j ∧ mv'.ownBlock ≠ some j) := fun j hj hh => ⟨hh.1, fun e => by
    rcases ho with ho | ho
    · exact hh.2 (by rw [← ho]; exact e)
    · rw [ho] at e; cases e; omega⟩
  have hk : Kp w w' (fun j => w0.heap.size ≤ j ∧ mv.ownBlock ≠ some j) := Kp.of_chg hc (fun j _ hj e => hj.2 e)
  have hmv : ∀ {v l}, SesAt w (fun j => w0.heap.size ≤ j ∧ mv.ownBlock ≠ some j) v l → SesAt w' (fun j => w0.heap.size ≤ j ∧ mv'.ownBlock ≠ some j) v l := fun hv => RowAt.map hv hc.size hsub (fun b o x hb hS hx => hx.keep hk hb hS)
  refine ⟨?_, fun x hx => ?_, grown_in h.below hg (fun k hk => (row_block h.row k hk).1) (Nat.le_refl _)⟩
  · rw [List.length_append, List.flatMap_append]
    simpa using hr
  · rcases List.mem_append.1 hx with hx | hx
    · exact hmv (h.each x hx)
    · obtain rfl : x = (t, u) := by simpa using hx
      exact hmv hu
set_option maxHeartbeats 3200000 in
set_option maxRecDepth 100000 in
theorem refParts_any (v : Value) (l : List PaT) (w : World) (S : Nat → Prop) (h : PasAt w S v l) (hs : PasSmall l) :
    Calls Try.prog 57 #[v] w fun e w' => ∃ v', e = .returned v' ∧ PasAt w' (NewIn w) v' l ∧ Below w.heap.size w w' := by
  obtain ⟨a, c, rfl, _⟩ := RowAt.form h
  obtain ⟨n, hn⟩ : ∃ n, l.length = n := ⟨_, rfl⟩
  have hn1 : n * 64 ≤ 140737488355328 := by have := hs.len; unfold MaxRow at this; omega
  have HS : Hid (PasSmall l) := hs
  rw [hn] at h ⊢
  have HN : Hid (l.length = n) := hn
  have H1 : Hid (PasAt w S (.slice a n c) l) := h
  have HM0 : Hid (MkP w w (.slice none 0 0) []) := ⟨owns_nil _ _ _ _, (fun x hx => by cases hx), Below.refl _ _⟩
  clear h hn hs
  go_enter Try.func57, Try.ntmps57
  go_wp2_with fail
  go_loopw [3, 4] (fun mv i wr => ∃ (q : Nat) (L : List (PaT × Value)), i = .int .i64 q ∧ q ≤ n ∧ Hid (L.map (·.1) = l.take q) ∧ Hid (MkP w wr mv L)) (fun _ i _ => n - (intOf i).toNat)
  case atStart => exact ⟨0, [], rfl, Nat.zero_le _, rfl, HM0⟩
  case round =>
    obtain ⟨q, L, rfl, hq, HL, HM⟩ := hrel
    obtain ⟨mv, hmv⟩ : ∃ mv, u3 = mv := ⟨_, rfl⟩
    subst hmv
    have hLq : L.length = q := by have := congrArg List.length HL.out; rw [List.length_map, List.length_take, HN.out] at this; omega
    have HLQ : Hid (L.length = q) := hLq
    by_cases hlt : q < n
    · have hqi : (q : Int) < (n : Int) := by omega
      obtain ⟨x, hx⟩ : ∃ x, l[q]? = some x := ⟨l[q]'(by rw [HN.out]; exact hlt), List.getElem?_eq_getElem _⟩
      obtain ⟨b, o, rfl, _, hb, u, e1⟩ := RowAt.get H1.out hx
      obtain ⟨x0, x1, x2, x3, x4, xt⟩ := e1
      obtain ⟨ta, tc, rfl, _⟩ := RowAt.form xt
      obtain ⟨tn, htn⟩ : ∃ z, x.nodes.length = z := ⟨_, rfl⟩
      rw [htn] at x4 xt
      have hbr := HM.out.below
      have hcell : ∀ i v, w.cell? ⟨b, i, none⟩ = some v → wr.cell? ⟨b, i, none⟩ = some v := fun i v hv => by rw [hbr.cell (p := ⟨b, i, none⟩) hb]; exact hv
      have x0 := hcell _ _ x0
      have x1 := hcell _ _ x1
      have x2 := hcell _ _ x2
      have x3 := hcell _ _ x3
      have x4 := hcell _ _ x4
      have hsx := HS.out.each x (List.mem_of_getElem? hx)
      have htn1 : tn * 40 ≤ 140737488355328 := by have := hsx.len; unfold MaxRow at this; omega
      have HXT : Hid (SesAt w S (.slice ta tn tc) x.nodes) := xt
      have HTN : Hid (x.nodes.length = tn) := htn
      have HT2 : Hid (L.map (·.1) ++ [x] = l.take (q + 1)) := by show _ = _; rw [HL.out, take_at hx]
      have HLT : Hid (q < n) := hlt
      clear hx xt htn hb hLq hcell hbr hsx
      go_upto_region 6 with fail
      obtain ⟨wo, hwo⟩ : ∃ W, wr.alloc (.cells #[.int .i64 x.id, .int .i64 x.st, .string x.p, .int .i64 x.k, .slice ta tn tc] 96) = W := ⟨_, rfl⟩
      have hA : wo.heap[wr.heap.size]? = some (.cells #[.int .i64 x.id, .int .i64 x.st, .string x.p, .int .i64 x.k, .slice ta tn tc] 96 (0, 0)) := by rw [← hwo]; exact heap_alloc_new _ _
      have hbo : Below wr.heap.size wr wo := by rw [← hwo]; exact (Below.refl _ _).alloc (Nat.le_refl _) _
      rw [hwo]
      obtain ⟨g, hg⟩ : ∃ g, wr.heap.size = g := ⟨_, rfl⟩
      rw [hg] at hA ⊢
      have HA : Hid (wo.heap[g]? = some (.cells #[.int .i64 x.id, .int .i64 x.st, .string x.p, .int .i64 x.k, .slice ta tn tc] 96 (0, 0))) := hA
      have HMo : Hid (MkP w wo u3 L) := HM.out.at hbo
      have HEG : Hid (∀ x ∈ L, SesAt wo (fun j => (w.heap.size ≤ j ∧ u3.ownBlock ≠ some j) ∧ j ≠ g) x.2 x.1.nodes) := fun x hx => SesAt.keep (SesAt.mono (HM.out.each x hx) (fun j hj h => ⟨h, by omega⟩)) (Kp.of_below hbo _)
      have HGN : Hid (w.heap.size ≤ g ∧ u3.ownBlock ≠ some g) := ⟨by rw [← hg]; exact HM.out.below.size, fun e => by have := (row_block HM.out.row _ e).2; omega⟩
      clear hwo hA hbo hg HM x0 x1 x2 x3 x4
      go_wp2_with fail
      go_loopw [6, 7] (fun tv k wk => ∃ j : Nat, k = .int .i64 j ∧ j ≤ tn ∧ Hid (wk.ownsRow wo.heap.size 119 3 tv j ((x.nodes.take j).flatMap seCs)) ∧ Hid (Below wo.heap.size wo wk)) (fun _ k _ => tn - (intOf k).toNat)
      case atStart => exact ⟨0, rfl, Nat.zero_le _, owns_nil _ _ _ _, Below.refl _ _⟩
      case round =>
        obtain ⟨j, rfl, hj, HR, HBk⟩ := hrel
        have hbk : Below w.heap.size w wr := trans2 HMo.out.below HBk.out
        have HAr : Hid (wr.heap[g]? = some (.cells #[.int .i64 x.id, .int .i64 x.st, .string x.p, .int .i64 x.k, .slice ta tn tc] 96 (0, 0))) := kept_block HBk.out HA.out
        obtain ⟨x0, x1, x2, x3, x4⟩ := cells_5 HAr.out
        by_cases hjl : j < tn
        · have hji : (j : Int) < (tn : Int) := by omega
          obtain ⟨y, hy⟩ : ∃ y, x.nodes[j]? = some y := ⟨x.nodes[j]'(by rw [HTN.out]; exact hjl), List.getElem?_eq_getElem _⟩
          obtain ⟨tb, tof, rfl, _, htb, s0⟩ := RowAt.get (SesAt.keep HXT.out (Kp.of_below hbk _)) hy
          obtain ⟨s0, s1, s2⟩ := s0
          have HY : Hid ((x.nodes.take j).flatMap seCs ++ seCs y = (x.nodes.take (j + 1)).flatMap seCs) := by show _ = _; rw [take_at hy, List.flatMap_append]; simp
          clear hy htb hbk
          go_wp2_with (first
            | (at_builtin; refine wpList_row Try.underlying92 Try.info_sn rfl (by decide) rfl _ _ rfl wo.heap.size u6 j _ rfl (owns_below HR.out ((Below.refl _ _).alloc (Nat.le_refl _) _)) wr.heap.size 1 (seCs y) rfl (heap_alloc_new _ _) rfl (by simp [Value.oneCell']) (by unfold maxLen; omega) (by omega) (Nat.le_trans HBk.out.size (by simp)) ?_; intro v4 w4 hd4 hg4 ho4))
          have hb4 : Below wo.heap.size wo w4 := grown_in (HBk.out.trans (((Below.refl _ _).alloc (Nat.le_refl _) _).mono HBk.out.size)) hg4 (fun k hk => (row_block HR.out k hk).1) (Nat.le_refl _)
          have HR4 : Hid (w4.ownsRow wo.heap.size 119 3 v4 (j + 1) ((x.nodes.take (j + 1)).flatMap seCs)) := by show World.ownsRow _ _ _ _ _ _ _; rw [← HY.out]; exact hd4
          clear hd4 hg4 ho4
          go_roundw
          case rel => exact ⟨j + 1, by go_num, by omega, HR4, hb4⟩
          case measure => simp [intOf]; omega
        · obtain rfl : j = tn := by omega
          have hge : ¬ (j : Int) < (j : Int) := by omega
          have HRJ : Hid (wr.ownsRow wo.heap.size 119 3 u6 x.nodes.length (x.nodes.flatMap seCs)) := by
            show World.ownsRow _ _ _ _ _ _ _
            have := HR.out
            rw [List.take_of_length_le (by rw [HTN.out]; exact Nat.le_refl _)] at this
            rw [HTN.out]
            exact this
          have hne : ∀ k, u6.ownBlock = some k → (w.heap.size ≤ k ∧ u3.ownBlock ≠ some k) ∧ k ≠ g := fun k hk => ⟨⟨Nat.le_trans HMo.out.below.size (row_block HR.out k hk).1, fun e => by have h1 := (row_block HMo.out.row k e).2; have h2 := (row_block HR.out k hk).1; omega⟩, fun e => by have h1 := lt_of_blk HA.out; have h2 := (row_block HR.out k hk).1; omega⟩
          have HIA : Hid (SesAt wr (fun j => (w.heap.size ≤ j ∧ u3.ownBlock ≠ some j) ∧ j ≠ g) u6 x.nodes) := seens_row HRJ.out hne
          have HMr : Hid (MkP w wr u3 L) := HMo.out.at HBk.out
          obtain ⟨ua, uc, hu6, _⟩ := RowAt.form HIA.out
          rw [HTN.out] at hu6
          have f1 := free_of HAr.out
          clear hbk hne HRJ HR
          subst hu6
          have HA2 : Hid _ := same_blk (i := 4) (v := .slice ua j uc) (cs' := #[.int .i64 x.id, .int .i64 x.st, .string x.p, .int .i64 x.k, .slice ua j uc]) HAr.out rfl
          obtain ⟨z0, z1, z2, z3, z4⟩ := cells_5 HA2.out
          have hset : Chg wr (wr.setCell ⟨g, 4, none⟩ (.slice ua j uc)) (fun k => k = g) := Chg.set wr ⟨g, 4, none⟩ _
          have HIA2 : Hid (SesAt (wr.setCell ⟨g, 4, none⟩ (.slice ua j uc)) (fun j => w.heap.size ≤ j ∧ u3.ownBlock ≠ some j) (.slice ua j uc) x.nodes) := SesAt.mono (SesAt.keep HIA.out (Kp.of_chg hset (fun k _ hk e => hk.2 e))) (fun k _ hk => hk.1)
          have HM2 : Hid (MkP w (wr.setCell ⟨g, 4, none⟩ (.slice ua j uc)) u3 L) := HMr.out.box hset HGN.out (fun x hx => SesAt.keep (HEG.out x hx) (Kp.of_below HBk.out _))
          obtain ⟨W9, hW9⟩ : ∃ W9, wr.setCell ⟨g, 4, none⟩ (.slice ua j uc) = W9 := ⟨_, rfl⟩
          rw [hW9] at HM2 HIA2 HA2 z0 z1 z2 z3 z4
          have HW9 : Hid (wr.setCell ⟨g, 4, none⟩ (.slice ua j uc) = W9) := hW9
          clear hset hW9
          go_upto_region 12 with fail
          rw [HW9.out]
          clear x0 x1 x2 x3 x4 f1
          go_wp2_with (first
            | (at_builtin; refine wpList_row Try.underlying31 Try.info_pa rfl (by decide) rfl _ _ rfl w.heap.size u3 q (L.flatMap fun x => paCs x.1 x.2) rfl (by have h9 := HM2.out.row; rw [HLQ.out] at h9; exact owns_below h9 ((Below.refl W9.heap.size W9).alloc (Nat.le_refl _) _)) W9.heap.size 1 (paCs x (.slice ua j uc)) rfl (heap_alloc_new _ _) rfl (by simp [Value.oneCell']) (by unfold maxLen; omega) (by have := HLT.out; omega) (Nat.le_trans HM2.out.below.size (by simp)) ?_; intro v5 w5 hd5 hg5 ho5))
          have hbn : Below W9.heap.size W9 (W9.alloc (.cells (paCs x (.slice ua j uc)).toArray 96)) := (Below.refl _ _).alloc (Nat.le_refl _) _
          have HM5 : Hid (MkP w w5 v5 (L ++ [(x, .slice ua j uc)])) := (HM2.out.at hbn).push (SesAt.keep HIA2.out (Kp.of_below hbn _)) (by rw [HLQ.out]; exact hd5) hg5 ho5
          have HT5 : Hid ((L ++ [(x, Value.slice ua j uc)]).map (·.1) = l.take (q + 1)) := by show _ = _; rw [List.map_append]; exact HT2.out
          clear hd5 hg5 ho5 hbn
          go_roundw
          case rel => exact ⟨q + 1, _, by go_num, by have := HLT.out; omega, HT5, HM5⟩
          case measure => have := HLT.out; simp [intOf]; omega
    · obtain rfl : q = n := by omega
      have hge : ¬ (q : Int) < (q : Int) := by omega
      have HF : Hid (PasAt wr (NewIn w) u3 l) := by
        have := parts_row HM.out.row (S := NewIn w) (fun k hk => (row_block HM.out.row k hk).1) (fun x hx => SesAt.mono (HM.out.each x hx) (fun j _ hj => hj.1))
        rw [HL.out, List.take_of_length_le (by rw [HN.out]; exact Nat.le_refl _)] at this
        exact this
      go_wp2_with fail
      go_ret
      exact ⟨_, rfl, HF.out, HM.out.below⟩
end Go.Proofs.Ytlidkieljiebiaa
namespace Go.Proofs.Ytlidkieljiebiaa
open Go.RowKit
set_option linter.unusedVariables false
set_option linter.unusedSimpArgs false

theorem results_cell_tmp {P : Program} {fn : Func} {p q : Tmp} {ty : TypeId} (h : fn.results = #[.cell p ty, .tmp q]) (tmps : Array Value) (w : World) (g : Nat) (t : TypeId) (cs : Array Value) (fr : Nat × Nat) (d : TypeDesc) (v : Value)
    (hp : tmps.getD p undef = .pointer (some ⟨g, 0, none⟩)) (hq : tmps.getD q undef = v) (hg : w.heap[g]? = some (.cells cs t fr))
    (hu : P.underlying ty = some d) (hd : (match d with | .struct _ | .array _ _ => true | _ => false) = true) (hi : (P.info? ty).map (·.size) = some cs.size) :
    (results fn tmps).run P w = .ok (.tuple #[.agg cs, v]) w := by
  have hp' : tmps[p]?.getD undef = .pointer (some ⟨g, 0, none⟩) := by simpa using hp
  have hq' : tmps[q]?.getD undef = v := by simpa using hq
  simp [results, h, hp', hq', asAddr, run_loadVar_row w g t ty cs fr d hg hu hd hi]
/-- The document's queue as a value. -/
abbrev rqV (room last : Int) (v : Value) : Value := .agg #[.int .i64 room, .int .i64 last, v]
set_option maxHeartbeats 1600000 in
theorem refNew_ok (r x : Int) (w : World) (h : newQ r x = 0) :
    Calls Try.prog 26 #[.int .i64 r, .int .i64 x] w fun e w' => e = .returned (.tuple #[rqV r x (.slice none 0 0), .int .i64 0]) ∧ Below w.heap.size w w' := by
  have hh : ¬ (r < 1 ∨ 32 < r) ∧ ¬ (x < 0 ∨ 2147483647 < x) := by
    unfold newQ at h
    split at h
    · cases h
    · split at h
      · cases h
      · exact ⟨by assumption, by assumption⟩
  have a0 : ¬ r < 1 := fun h => hh.1 (.inl h)
  have a1 : ¬ 32 < r := fun h => hh.1 (.inr h)
  have b0 : ¬ x < 0 := fun h => hh.2 (.inl h)
  have b1 : ¬ 2147483647 < x := fun h => hh.2 (.inr h)
  clear h hh
  go_enter Try.func26, Try.ntmps26
  go_wp2_with fail
  exact bodyPost_ret (results_cell_tmp rfl _ _ w.heap.size 67 _ (0, 0) _ (.int .i64 0) rfl rfl (heap_alloc_new _ _) Try.underlying67 rfl (by kernel_rfl)) rfl ⟨rfl, (Below.refl _ _).alloc (Nat.le_refl _) _⟩
set_option maxHeartbeats 1600000 in
theorem refNew_no (r x : Int) (w : World) (h : newQ r x ≠ 0) :
    Calls Try.prog 26 #[.int .i64 r, .int .i64 x] w fun e w' => e = .returned (.tuple #[rqV 0 0 (.slice none 0 0), .int .i64 (newQ r x)]) ∧ Below w.heap.size w w' := by
  have hcase : (r < 1 ∧ newQ r x = 1) ∨ (¬ r < 1 ∧ 32 < r ∧ newQ r x = 1) ∨ (¬ r < 1 ∧ ¬ 32 < r ∧ x < 0 ∧ newQ r x = 3) ∨ (¬ r < 1 ∧ ¬ 32 < r ∧ ¬ x < 0 ∧ 2147483647 < x ∧ newQ r x = 3) := by
    unfold newQ at h ⊢
    by_cases h1 : r < 1
    · exact .inl ⟨h1, if_pos (.inl h1)⟩
    · by_cases h2 : 32 < r
      · exact .inr (.inl ⟨h1, h2, if_pos (.inr h2)⟩)
      · rw [if_neg (by omega)] at h ⊢
        by_cases h3 : x < 0
        · exact .inr (.inr (.inl ⟨h1, h2, h3, if_pos (.inl h3)⟩))
        · by_cases h4 : 2147483647 < x
          · exact .inr (.inr (.inr ⟨h1, h2, h3, h4, if_pos (.inr h4)⟩))
          · rw [if_neg (by omega)] at h
            exact absurd rfl h
  clear h
  rcases hcase with ⟨h1, hz⟩ | ⟨h1, h2, hz⟩ | ⟨h1, h2, h3, hz⟩ | ⟨h1, h2, h3, h4, hz⟩
  all_goals
    rw [hz]
    clear hz
    go_enter Try.func26, Try.ntmps26
    go_wp2_with fail
    exact bodyPost_ret (results_cell_tmp rfl _ _ w.heap.size 67 _ (0, 0) _ _ rfl rfl (heap_alloc_new _ _) Try.underlying67 rfl (by kernel_rfl)) rfl ⟨rfl, (Below.refl _ _).alloc (Nat.le_refl _) _⟩
def folQ (last : Nat) (st : Int) : Int := if 2147483647 < st then 3 else if st ≤ last then 100 else 0
theorem may_fol (last : Nat) (st : Int) (says : Bool) : mayQ last st says = if folQ last st ≠ 0 then folQ last st else if says = true then 0 else 100 := by
  unfold mayQ folQ
  by_cases h1 : 2147483647 < st
  · simp [h1]
  · by_cases h2 : st ≤ (last : Int)
    · simp [h1, h2]
    · cases says <;> simp [h1, h2]
set_option maxHeartbeats 1600000 in
theorem follows_any (room : Int) (last : Nat) (v : Value) (st : Int) (w : World) :
    Calls Try.prog 71 #[rqV room last v, .int .i64 st] w fun e w' => e = .returned (.int .i64 (folQ last st)) ∧ Below w.heap.size w w' := by
  obtain ⟨c0, c1, c2⟩ := cells_3 (heap_alloc_new w (.cells #[.int .i64 room, .int .i64 last, v] 67))
  have HB : Hid (Below w.heap.size w (w.alloc (.cells #[.int .i64 room, .int .i64 last, v] 67))) := (Below.refl _ _).alloc (Nat.le_refl _) _
  by_cases h1 : 2147483647 < st
  · have HM : Hid (folQ last st = 3) := by show _ = _; unfold folQ; rw [if_pos h1]
    go_enter Try.func71, Try.ntmps71
    go_wp2_with fail
    go_ret
    exact ⟨by rw [HM.out]; rfl, HB.out⟩
  · by_cases h2 : st ≤ (last : Int)
    · have HM : Hid (folQ last st = 100) := by show _ = _; unfold folQ; rw [if_neg h1, if_pos h2]
      go_enter Try.func71, Try.ntmps71
      go_wp2_with fail
      go_ret
      exact ⟨by rw [HM.out]; rfl, HB.out⟩
    · have HM : Hid (folQ last st = 0) := by show _ = _; unfold folQ; rw [if_neg h1, if_neg h2]
      go_enter Try.func71, Try.ntmps71
      go_wp2_with fail
      go_ret
      exact ⟨by rw [HM.out]; rfl, HB.out⟩
end Go.Proofs.Ytlidkieljiebiaa
