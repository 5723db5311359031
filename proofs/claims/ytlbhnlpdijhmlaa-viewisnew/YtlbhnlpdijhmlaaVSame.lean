/-
  view: sameViews, sameNotes.
-/
import Derived.Test.YtlbhnlpdijhmlaaVTake
import Derived.Test.YtlbhnlpdijhmlaaVBare
namespace Go.Proofs.Ytlbhnlpdijhmlaa
open Go.RowKit
set_option linter.unusedVariables false
set_option linter.unusedSimpArgs false

theorem step_callx {P : Program} {ops : Array Oper} {o : Oper} {a : Act} {w : World} {K : Act → World → Prop} {Q : Exit → Act → World → Prop} {E : Prop} (hw : Region.wanted o (yielded ops a.tmps) = true) (f : FuncId) (xs : List Operand) (ts : Array TypeId)
    (ho : o.op = .call { callee := .value (.func f), args := xs.toArray, argTypes := ts }) (ef : ∀ args w, (callFunc f args).run P w = .ok (.enter f args) w) (us : List Value) (hx : xs.map a.eval = us) {R : Ending → World → Prop} (hc : Calls P f us.toArray w R)
    (h : ∀ e w', R e w' → ∃ r, e = .returned r ∧ K (a.put o.dst r) w') :
    if Region.wanted o (yielded ops a.tmps) = true then Oper.wp P o a w K Q else E := by
  rw [if_pos hw]
  have he : (execOp a.eval o).run P w = .ok (.enter f us.toArray) w := by
    have hf : a.eval (.func f) = .func (.func f) #[] #[] := rfl
    simp [execOp, ho, resolve, invoke, Deferred.ofValue, hx, hf, ef]
  unfold Oper.wp
  rw [he, Oper.upon_enter]
  refine hc.mono ?_
  intro e w' hR
  obtain ⟨r, rfl, hk⟩ := h e w' hR
  exact hk
set_option maxHeartbeats 6400000 in
set_option maxRecDepth 100000 in
theorem views_same (v v' : Value) (l : List VwT) (w : World) (S S' : Nat → Prop) (h : VwsAt w S v l) (h' : VwsAt w S' v' l) (hl : l.length ≤ 401) :
    Calls Try.prog 19 #[v, v'] w fun e w' => e = .returned (.bool true) ∧ Below w.heap.size w w' := by
  obtain ⟨a, c, rfl, hc⟩ := RowAt.form h
  obtain ⟨a', c', rfl, hc'⟩ := RowAt.form h'
  obtain ⟨n, hn⟩ : ∃ n, l.length = n := ⟨_, rfl⟩
  rw [hn] at h h' hl ⊢
  have HN : Hid (l.length = n) := hn
  have H1 : Hid (VwsAt w S (.slice a n c) l) := h
  have H2 : Hid (VwsAt w S' (.slice a' n c') l) := h'
  have hn1 : n ≤ 401 := hl
  clear h h' hn hl hc hc'
  go_enter Try.func19, Try.ntmps19
  go_wp2_with fail
  go_loopw [5] (fun i wr => ∃ q : Nat, i = .int .i64 q ∧ q ≤ n ∧ Hid (Below w.heap.size w wr)) (fun i _ => n - (intOf i).toNat)
  case atStart => exact ⟨0, rfl, Nat.zero_le _, Below.refl _ _⟩
  case round =>
    obtain ⟨q, rfl, hq, HB⟩ := hrel
    by_cases hlt : q < n
    · have hqi : (q : Int) < (n : Int) := by omega
      obtain ⟨x, hx⟩ : ∃ x, l[q]? = some x := ⟨l[q]'(by rw [HN.out]; exact hlt), List.getElem?_eq_getElem _⟩
      obtain ⟨b, o, rfl, _, hb, x0⟩ := RowAt.get H1.out hx
      obtain ⟨b', o', rfl, _, hb', y0⟩ := RowAt.get H2.out hx
      obtain ⟨x0, x1, x2⟩ := x0
      have x0 : wr.cell? ⟨b, o + q * 3, none⟩ = some (.int .i64 x.n) := by rw [HB.out.cell (p := ⟨b, o + q * 3, none⟩) hb]; exact x0
      have x1 : wr.cell? ⟨b, o + q * 3 + 1, none⟩ = some (.int .i64 x.p) := by rw [HB.out.cell (p := ⟨b, o + q * 3 + 1, none⟩) hb]; exact x1
      have x2 : wr.cell? ⟨b, o + q * 3 + 2, none⟩ = some (.int .i64 x.b) := by rw [HB.out.cell (p := ⟨b, o + q * 3 + 2, none⟩) hb]; exact x2
      obtain ⟨y0, y1, y2⟩ := y0
      have y0 : wr.cell? ⟨b', o' + q * 3, none⟩ = some (.int .i64 x.n) := by rw [HB.out.cell (p := ⟨b', o' + q * 3, none⟩) hb']; exact y0
      have y1 : wr.cell? ⟨b', o' + q * 3 + 1, none⟩ = some (.int .i64 x.p) := by rw [HB.out.cell (p := ⟨b', o' + q * 3 + 1, none⟩) hb']; exact y1
      have y2 : wr.cell? ⟨b', o' + q * 3 + 2, none⟩ = some (.int .i64 x.b) := by rw [HB.out.cell (p := ⟨b', o' + q * 3 + 2, none⟩) hb']; exact y2
      obtain ⟨xn, xp, xb⟩ := x
      dsimp only at x0 x1 x2 y0 y1 y2
      clear hx
      go_wp2_with fail
      go_region_held3 (fun w' => w'.cell? ⟨b, o + q * 3, none⟩ = some (.int .i64 xn) ∧ w'.cell? ⟨b, o + q * 3 + 1, none⟩ = some (.int .i64 xp) ∧ w'.cell? ⟨b, o + q * 3 + 2, none⟩ = some (.int .i64 xb) ∧ w'.cell? ⟨b', o' + q * 3, none⟩ = some (.int .i64 xn) ∧ w'.cell? ⟨b', o' + q * 3 + 1, none⟩ = some (.int .i64 xp) ∧ w'.cell? ⟨b', o' + q * 3 + 2, none⟩ = some (.int .i64 xb)) (first | exact ⟨x0, x1, x2, y0, y1, y2⟩ | go_keep) (fail)
      go_wp2_with fail
      go_roundw
      case rel => exact ⟨q + 1, by go_num, by omega, below_drew HB.out⟩
      case measure => simp [intOf]; omega
    · obtain rfl : q = n := by omega
      have hge : ¬ (q : Int) < (q : Int) := by omega
      go_wp2_with fail
      go_ret
      exact ⟨rfl, HB.out⟩
set_option maxHeartbeats 1600000 in
theorem notes_none (v v' : Value) (w : World) (S S' : Nat → Prop) (h : NosAt w S v []) (h' : NosAt w S' v' []) :
    Calls Try.prog 38 #[v, v'] w fun e w' => e = .returned (.bool true) ∧ Below w.heap.size w w' := by
  obtain ⟨a, c, rfl, hc⟩ := RowAt.form h
  obtain ⟨a', c', rfl, hc'⟩ := RowAt.form h'
  simp only [List.length_nil]
  clear h h' hc hc'
  go_enter Try.func38, Try.ntmps38
  go_wp2_with fail
  go_loopw [5] (fun i wr => i = .int .i64 0 ∧ wr = w) (fun _ _ => 0)
  case atStart => exact ⟨rfl, rfl⟩
  case round =>
    obtain ⟨rfl, hwr⟩ := hrel
    subst hwr
    go_wp2_with fail
    go_ret
    exact ⟨rfl, Below.refl _ _⟩
theorem tellS {w' : World} {b o b' o' : Nat} {tn tp tb : Int} (hx : w'.rangeAt b o (tellCs ⟨tn, tp, tb⟩)) (hy : w'.rangeAt b' o' (tellCs ⟨tn, tp, tb⟩)) : w'.cell? ⟨b, o, none⟩ = some (.int .i64 22) ∧ w'.cell? ⟨b, o + 1, none⟩ = some (.int .i64 tn) ∧ w'.cell? ⟨b, o + 2, none⟩ = some (.int .i64 tp) ∧ w'.cell? ⟨b, o + 3, none⟩ = some (.int .i64 tb) ∧ w'.cell? ⟨b, o + 4, none⟩ = some (.int .i64 0) ∧ w'.cell? ⟨b, o + 5, none⟩ = some (.int .i64 0) ∧ w'.cell? ⟨b, o + 6, none⟩ = some (.int .i64 0) ∧ w'.cell? ⟨b, o + 7, none⟩ = some (.int .i64 0) ∧ w'.cell? ⟨b, o + 8, none⟩ = some (.int .i64 0) ∧ w'.cell? ⟨b, o + 9, none⟩ = some (.int .i64 0) ∧ w'.cell? ⟨b, o + 10, none⟩ = some (.int .i64 0) ∧ w'.cell? ⟨b, o + 11, none⟩ = some (.slice none 0 0) ∧ w'.cell? ⟨b, o + 12, none⟩ = some (.slice none 0 0) ∧ w'.cell? ⟨b, o + 13, none⟩ = some (.int .i64 0) ∧ w'.cell? ⟨b, o + 14, none⟩ = some (.int .i64 0) ∧ w'.cell? ⟨b, o + 15, none⟩ = some (.int .i64 0) ∧ w'.cell? ⟨b, o + 16, none⟩ = some (.slice none 0 0) ∧ w'.cell? ⟨b, o + 17, none⟩ = some (.slice none 0 0) ∧ w'.cell? ⟨b, o + 18, none⟩ = some (.slice none 0 0) ∧ w'.cell? ⟨b, o + 19, none⟩ = some (.slice none 0 0) ∧ w'.cell? ⟨b, o + 20, none⟩ = some (.string ⟨#[]⟩) ∧ w'.cell? ⟨b', o', none⟩ = some (.int .i64 22) ∧ w'.cell? ⟨b', o' + 1, none⟩ = some (.int .i64 tn) ∧ w'.cell? ⟨b', o' + 1 + 1, none⟩ = some (.int .i64 tp) ∧ w'.cell? ⟨b', o' + 1 + 2, none⟩ = some (.int .i64 tb) := ⟨hx 0 _ rfl, hx 1 _ rfl, hx 2 _ rfl, hx 3 _ rfl, hx 4 _ rfl, hx 5 _ rfl, hx 6 _ rfl, hx 7 _ rfl, hx 8 _ rfl, hx 9 _ rfl, hx 10 _ rfl, hx 11 _ rfl, hx 12 _ rfl, hx 13 _ rfl, hx 14 _ rfl, hx 15 _ rfl, hx 16 _ rfl, hx 17 _ rfl, hx 18 _ rfl, hx 19 _ rfl, hx 20 _ rfl, hy 0 _ rfl, hy 1 _ rfl, hy 2 _ rfl, hy 3 _ rfl⟩
theorem range_below {w w' : World} {b o : Nat} {cs : List Value} (h : w.rangeAt b o cs) (hb : Below w.heap.size w w') (hl : b < w.heap.size) : w'.rangeAt b o cs := fun j v hv => by rw [hb.cell (p := ⟨b, o + j, none⟩) hl]; exact h j v hv
theorem tellH {w' : World} {b o b' o' : Nat} {tn tp tb : Int} (hx : w'.rangeAt b o (tellCs ⟨tn, tp, tb⟩)) (hy : w'.rangeAt b' o' (tellCs ⟨tn, tp, tb⟩)) : w'.rangeAt b o (tellCs ⟨tn, tp, tb⟩) ∧ w'.cell? ⟨b', o', none⟩ = some (.int .i64 22) ∧ w'.cell? ⟨b', o' + 1, none⟩ = some (.int .i64 tn) ∧ w'.cell? ⟨b', o' + 1 + 1, none⟩ = some (.int .i64 tp) ∧ w'.cell? ⟨b', o' + 1 + 2, none⟩ = some (.int .i64 tb) := ⟨hx, hy 0 _ rfl, hy 1 _ rfl, hy 2 _ rfl, hy 3 _ rfl⟩
set_option maxHeartbeats 6400000 in
set_option maxRecDepth 100000 in
theorem notes_tell (v v' : Value) (t : VwT) (w : World) (S S' : Nat → Prop) (h : NosAt w S v [tellCs t]) (h' : NosAt w S' v' [tellCs t]) :
    Calls Try.prog 38 #[v, v'] w fun e w' => e = .returned (.bool true) ∧ Below w.heap.size w w' := by
  obtain ⟨a, c, rfl, hc⟩ := RowAt.form h
  obtain ⟨a', c', rfl, hc'⟩ := RowAt.form h'
  obtain ⟨b, o, rfl, _, hb, x0⟩ := RowAt.get h (show [tellCs t][0]? = some (tellCs t) from rfl)
  obtain ⟨b', o', rfl, _, hb', y0⟩ := RowAt.get h' (show [tellCs t][0]? = some (tellCs t) from rfl)
  obtain ⟨tn, tp, tb⟩ := t
  simp only [List.length_singleton, Nat.zero_mul, Nat.add_zero] at x0 y0 ⊢
  have HX : Hid (w.rangeAt b o (tellCs ⟨tn, tp, tb⟩) ∧ b < w.heap.size) := ⟨x0, hb⟩
  have HY : Hid (w.rangeAt b' o' (tellCs ⟨tn, tp, tb⟩) ∧ b' < w.heap.size) := ⟨y0, hb'⟩
  have HBT : Hid _ := fun w => bare_tell ⟨tn, tp, tb⟩ w
  clear h h' hc hc' x0 y0
  go_enter Try.func38, Try.ntmps38
  go_wp2_with fail
  go_loopw [5] (fun i wr => ∃ q : Nat, i = .int .i64 q ∧ q ≤ 1 ∧ (q = 0 → wr = w) ∧ Hid (Below w.heap.size w wr)) (fun i _ => 1 - (intOf i).toNat)
  case atStart => exact ⟨0, rfl, Nat.zero_le _, fun _ => rfl, Below.refl _ _⟩
  case round =>
    obtain ⟨q, rfl, hq, hw0, HB⟩ := hrel
    by_cases hlt : q = 0
    · subst hlt
      have hwr := hw0 rfl
      subst hwr
      clear hw0
      go_wp2_with fail
      obtain ⟨w7, hw7⟩ : ∃ w7, wr.drew = w7 := ⟨_, rfl⟩
      have HB7 : Hid (Below wr.heap.size wr w7) := by rw [← hw7]; exact below_drew (Below.refl _ _)
      have HS7 : Hid (w7.rangeAt b o (tellCs ⟨tn, tp, tb⟩) ∧ w7.cell? ⟨b', o', none⟩ = some (.int .i64 22) ∧ w7.cell? ⟨b', o' + 1, none⟩ = some (.int .i64 tn) ∧ w7.cell? ⟨b', o' + 1 + 1, none⟩ = some (.int .i64 tp) ∧ w7.cell? ⟨b', o' + 1 + 2, none⟩ = some (.int .i64 tb)) := tellH (range_below HX.out.1 HB7.out HX.out.2) (range_below HY.out.1 HB7.out HY.out.2)
      refine wp_region_held_drew (S := (fun w' => w'.rangeAt b o (tellCs ⟨tn, tp, tb⟩) ∧ w'.cell? ⟨b', o', none⟩ = some (.int .i64 22) ∧ w'.cell? ⟨b', o' + 1, none⟩ = some (.int .i64 tn) ∧ w'.cell? ⟨b', o' + 1 + 1, none⟩ = some (.int .i64 tp) ∧ w'.cell? ⟨b', o' + 1 + 2, none⟩ = some (.int .i64 tb))) (by kernel_rfl) (by rw [hw7]; exact HS7.out) (fun hHeld => ?_)
      rw [hw7] at hHeld ⊢
      clear hw7
      refine wpAnyH_take (i := 0) (v := ?_) rfl (by kernel_rfl) (by kernel_rfl) (by kernel_rfl) (fun _ _ _ h => h) ?_ hHeld ?_
      rotate_left
      · refine Or.inl ⟨by rfl, ?_⟩; intro w hSw; obtain ⟨hh0, hh1, hh2, hh3, hh4⟩ := hSw; clear hh0; go_simp <;> with_reducible rfl
      try simp only [List.getElem_toArray, List.getElem_cons_succ, List.getElem_cons_zero, Act.put, List.setIfInBounds_toArray, List.set_cons_zero, List.set_cons_succ]
      refine wpAnyH_take (i := 1) (v := ?_) rfl (by kernel_rfl) (by kernel_rfl) (by kernel_rfl) (fun _ _ _ h => h) ?_ hHeld ?_
      rotate_left
      · refine Or.inl ⟨by rfl, ?_⟩; intro w hSw; obtain ⟨hh0, hh1, hh2, hh3, hh4⟩ := hSw; clear hh0; go_simp <;> with_reducible rfl
      try simp only [List.getElem_toArray, List.getElem_cons_succ, List.getElem_cons_zero, Act.put, List.setIfInBounds_toArray, List.set_cons_zero, List.set_cons_succ]
      refine wpAnyH_take (i := 2) (v := ?_) rfl (by kernel_rfl) (by kernel_rfl) (by kernel_rfl) (fun _ _ _ h => h) ?_ hHeld ?_
      rotate_left
      · refine Or.inl ⟨by rfl, ?_⟩; intro w hSw; obtain ⟨hh0, hh1, hh2, hh3, hh4⟩ := hSw; clear hh0; go_simp <;> with_reducible rfl
      try simp only [List.getElem_toArray, List.getElem_cons_succ, List.getElem_cons_zero, Act.put, List.setIfInBounds_toArray, List.set_cons_zero, List.set_cons_succ]
      refine wpAnyH_take (i := 3) rfl (by kernel_rfl) (by kernel_rfl) (by kernel_rfl) (fun _ _ _ h => h) (yieldsIf_load_mid (by rfl) 47 _ rfl b o (by rfl) (tellCs ⟨tn, tp, tb⟩) _ (fun w hSw => hSw.1) Try.underlying47 rfl Try.infoNote) hHeld ?_
      try simp only [List.getElem_toArray, List.getElem_cons_succ, List.getElem_cons_zero, Act.put, List.setIfInBounds_toArray, List.set_cons_zero, List.set_cons_succ]
      refine wpAnyH_take (i := 4) (v := ?_) rfl (by kernel_rfl) (by kernel_rfl) (by kernel_rfl) (fun _ _ _ h => h) ?_ hHeld ?_
      rotate_left
      · refine Or.inl ⟨by rfl, ?_⟩; intro w hSw; obtain ⟨hh0, hh1, hh2, hh3, hh4⟩ := hSw; clear hh0; go_simp <;> with_reducible rfl
      try simp only [List.getElem_toArray, List.getElem_cons_succ, List.getElem_cons_zero, Act.put, List.setIfInBounds_toArray, List.set_cons_zero, List.set_cons_succ]
      refine wpAnyH_take (i := 5) (v := ?_) rfl (by kernel_rfl) (by kernel_rfl) (by kernel_rfl) (fun _ _ _ h => h) ?_ hHeld ?_
      rotate_left
      · refine Or.inl ⟨by rfl, ?_⟩; intro w hSw; obtain ⟨hh0, hh1, hh2, hh3, hh4⟩ := hSw; clear hh0; go_simp <;> with_reducible rfl
      try simp only [List.getElem_toArray, List.getElem_cons_succ, List.getElem_cons_zero, Act.put, List.setIfInBounds_toArray, List.set_cons_zero, List.set_cons_succ]
      refine wpAnyH_take (i := 6) (v := ?_) rfl (by kernel_rfl) (by kernel_rfl) (by kernel_rfl) (fun _ _ _ h => h) ?_ hHeld ?_
      rotate_left
      · refine Or.inl ⟨by rfl, ?_⟩; intro w hSw; obtain ⟨hh0, hh1, hh2, hh3, hh4⟩ := hSw; clear hh0; go_simp <;> with_reducible rfl
      try simp only [List.getElem_toArray, List.getElem_cons_succ, List.getElem_cons_zero, Act.put, List.setIfInBounds_toArray, List.set_cons_zero, List.set_cons_succ]
      refine wpAnyH_take (i := 7) (v := ?_) rfl (by kernel_rfl) (by kernel_rfl) (by kernel_rfl) (fun _ _ _ h => h) ?_ hHeld ?_
      rotate_left
      · refine Or.inl ⟨by rfl, ?_⟩; intro w hSw; obtain ⟨hh0, hh1, hh2, hh3, hh4⟩ := hSw; clear hh0; go_simp <;> with_reducible rfl
      try simp only [List.getElem_toArray, List.getElem_cons_succ, List.getElem_cons_zero, Act.put, List.setIfInBounds_toArray, List.set_cons_zero, List.set_cons_succ]
      refine wpAnyH_take (i := 8) (v := ?_) rfl (by kernel_rfl) (by kernel_rfl) (by kernel_rfl) (fun _ _ _ h => h) ?_ hHeld ?_
      rotate_left
      · refine Or.inl ⟨by rfl, ?_⟩; intro w hSw; obtain ⟨hh0, hh1, hh2, hh3, hh4⟩ := hSw; clear hh0; go_simp <;> with_reducible rfl
      try simp only [List.getElem_toArray, List.getElem_cons_succ, List.getElem_cons_zero, Act.put, List.setIfInBounds_toArray, List.set_cons_zero, List.set_cons_succ]
      refine wpAnyH_take (i := 9) (v := ?_) rfl (by kernel_rfl) (by kernel_rfl) (by kernel_rfl) (fun _ _ _ h => h) ?_ hHeld ?_
      rotate_left
      · refine Or.inl ⟨by rfl, ?_⟩; intro w hSw; obtain ⟨hh0, hh1, hh2, hh3, hh4⟩ := hSw; clear hh0; go_simp <;> with_reducible rfl
      try simp only [List.getElem_toArray, List.getElem_cons_succ, List.getElem_cons_zero, Act.put, List.setIfInBounds_toArray, List.set_cons_zero, List.set_cons_succ]
      refine wpAnyH_take (i := 10) (v := ?_) rfl (by kernel_rfl) (by kernel_rfl) (by kernel_rfl) (fun _ _ _ h => h) ?_ hHeld ?_
      rotate_left
      · refine Or.inl ⟨by rfl, ?_⟩; intro w hSw; obtain ⟨hh0, hh1, hh2, hh3, hh4⟩ := hSw; clear hh0; go_simp <;> with_reducible rfl
      try simp only [List.getElem_toArray, List.getElem_cons_succ, List.getElem_cons_zero, Act.put, List.setIfInBounds_toArray, List.set_cons_zero, List.set_cons_succ]
      refine wpAnyH_take (i := 11) (v := ?_) rfl (by kernel_rfl) (by kernel_rfl) (by kernel_rfl) (fun _ _ _ h => h) ?_ hHeld ?_
      rotate_left
      · refine Or.inl ⟨by rfl, ?_⟩; intro w hSw; obtain ⟨hh0, hh1, hh2, hh3, hh4⟩ := hSw; clear hh0; go_simp <;> with_reducible rfl
      try simp only [List.getElem_toArray, List.getElem_cons_succ, List.getElem_cons_zero, Act.put, List.setIfInBounds_toArray, List.set_cons_zero, List.set_cons_succ]
      refine wpAnyH_take (i := 12) (v := ?_) rfl (by kernel_rfl) (by kernel_rfl) (by kernel_rfl) (fun _ _ _ h => h) ?_ hHeld ?_
      rotate_left
      · refine Or.inl ⟨by rfl, ?_⟩; intro w hSw; obtain ⟨hh0, hh1, hh2, hh3, hh4⟩ := hSw; clear hh0; go_simp <;> with_reducible rfl
      try simp only [List.getElem_toArray, List.getElem_cons_succ, List.getElem_cons_zero, Act.put, List.setIfInBounds_toArray, List.set_cons_zero, List.set_cons_succ]
      refine wpAnyH_take (i := 13) (v := ?_) rfl (by kernel_rfl) (by kernel_rfl) (by kernel_rfl) (fun _ _ _ h => h) ?_ hHeld ?_
      rotate_left
      · refine Or.inl ⟨by rfl, ?_⟩; intro w hSw; obtain ⟨hh0, hh1, hh2, hh3, hh4⟩ := hSw; clear hh0; go_simp <;> with_reducible rfl
      try simp only [List.getElem_toArray, List.getElem_cons_succ, List.getElem_cons_zero, Act.put, List.setIfInBounds_toArray, List.set_cons_zero, List.set_cons_succ]
      refine wpAnyH_ready (rs := [14]) (by kernel_rfl) (by simp) ?_
      refine AllReadyH.cons rfl (fun K hK => ?_) AllReadyH.nil
      refine step_callx (by rfl) 18 _ _ (by rfl) (fun _ _ => by rfl) [.agg (tellCs ⟨tn, tp, tb⟩).toArray, .int .i64 22, vwV ⟨tn, tp, tb⟩] (by rfl) (bare_tell ⟨tn, tp, tb⟩ w7) ?_
      rintro e w8 ⟨rfl, hb8⟩
      have HB8 : Hid (Below wr.heap.size wr w8) := trans2 HB7.out hb8
      clear hb8
      refine ⟨_, rfl, hK.out _ _ (tellH (range_below HX.out.1 HB8.out HX.out.2) (range_below HY.out.1 HB8.out HY.out.2)) (fun hHeld => ?_)⟩
      clear hK K
      try simp only [List.getElem_toArray, List.getElem_cons_succ, List.getElem_cons_zero, Act.put, List.setIfInBounds_toArray, List.set_cons_zero, List.set_cons_succ]
      refine wpAnyH_ready (rs := [15]) (by kernel_rfl) (by simp) ?_
      refine AllReadyH.cons rfl (fun K hK => ?_) AllReadyH.nil
      go_simp
      refine hK.out _ _ hHeld (fun hHeld => ?_)
      clear hK K
      try simp only [List.getElem_toArray, List.getElem_cons_succ, List.getElem_cons_zero, Act.put, List.setIfInBounds_toArray, List.set_cons_zero, List.set_cons_succ]
      refine wpAnyH_done (by kernel_rfl) ?_ _
      go_wp2_with fail
      go_roundw
      case rel => exact ⟨1, by go_num, Nat.le_refl _, (fun h => by cases h), HB8⟩
      case measure => simp [intOf]
    · obtain rfl : q = 1 := by omega
      clear hw0
      go_wp2_with fail
      go_ret
      exact ⟨rfl, HB.out⟩
end Go.Proofs.Ytlbhnlpdijhmlaa
