/-
  heraldref9: Add.
-/
import Derived.Test.YtbblckcjedjbcaaGreatDoorJOfs
namespace Go.Proofs.YtbblckcjedjbcaaGreatDoor.J
open Go.RowKit Go.Maps
set_option linter.unusedVariables false
set_option linter.unusedSimpArgs false

abbrev onV (o : On) : Value := .agg #[.int .i64 o.s, .int .i64 o.i, .string o.p, .int .i64 o.k, .int .i64 o.f]
set_option maxHeartbeats 6400000 in
set_option maxRecDepth 100000 in
theorem before9 (x y : On) (w : World) : Calls Tryz.prog 77 #[onV x, onV y] w fun e w' => e = .returned (.bool (befO x y)) ∧ Below w.heap.size w w' := by
  obtain ⟨w0, hw0⟩ : ∃ w0, (w.alloc (.cells #[.int .i64 x.s, .int .i64 x.i, .string x.p, .int .i64 x.k, .int .i64 x.f] 139)).alloc (.cells #[.int .i64 y.s, .int .i64 y.i, .string y.p, .int .i64 y.k, .int .i64 y.f] 139) = w0 := ⟨_, rfl⟩
  have HB : Hid (Below w.heap.size w w0) := by rw [← hw0]; exact ((Below.refl _ _).alloc (Nat.le_refl _) _).alloc (by simp) _
  obtain ⟨a0, a1, a2, a3, a4⟩ := cells_5 (show w0.heap[w.heap.size]? = some (.cells #[.int .i64 x.s, .int .i64 x.i, .string x.p, .int .i64 x.k, .int .i64 x.f] 139 (0, 0)) by rw [← hw0]; exact new_old (heap_alloc_new _ _) _)
  obtain ⟨b0, b1, b2, b3, b4⟩ := cells_5 (show w0.heap[w.heap.size + 1]? = some (.cells #[.int .i64 y.s, .int .i64 y.i, .string y.p, .int .i64 y.k, .int .i64 y.f] 139 (0, 0)) by rw [← hw0]; exact heap_new' (by simp))
  have HW : Hid (_ = w0) := hw0
  have hbe : befO x y = befB x.s x.i y.s y.i := rfl
  rw [hbe]
  unfold befB
  clear hbe
  by_cases h1 : x.s < y.s
  · go_enter Tryz.func77, Tryz.ntmps77
    rw [← hw0] at a0 a1 a2 a3 a4 b0 b1 b2 b3 b4
    clear hw0
    go_wp2_with fail
    go_ret
    exact ⟨by simp [h1], ((Below.refl _ _).alloc (Nat.le_refl _) _).alloc (by simp) _⟩
  by_cases h2 : x.s = y.s
  · go_enter Tryz.func77, Tryz.ntmps77
    rw [← hw0] at a0 a1 a2 a3 a4 b0 b1 b2 b3 b4
    clear hw0
    go_wp2_with fail
    go_ret
    exact ⟨by simp [h1, h2], ((Below.refl _ _).alloc (Nat.le_refl _) _).alloc (by simp) _⟩
  · go_enter Tryz.func77, Tryz.ntmps77
    rw [← hw0] at a0 a1 a2 a3 a4 b0 b1 b2 b3 b4
    clear hw0
    go_wp2_with fail
    go_ret
    exact ⟨by simp [h1, h2], ((Below.refl _ _).alloc (Nat.le_refl _) _).alloc (by simp) _⟩
def anyD (o : On) (M : List On) : Bool := M.any (fun x => befO o x)
def insD (o : On) (M : List On) : List On := if anyD o M = true then insO o M else M
theorem take_snoc {α : Type} {l : List α} {q : Nat} {x : α} (h : l[q]? = some x) : l.take (q + 1) = l.take q ++ [x] := by rw [List.take_add_one, h]; rfl
theorem any_snoc (o x : On) (M : List On) : anyD o (M ++ [x]) = (anyD o M || befO o x) := by simp [anyD]
theorem no_any {o : On} {M : List On} (h : anyD o M = false) {x : On} (hx : x ∈ M) : befO o x = false := by
  unfold anyD at h
  have := List.any_eq_false.1 h x hx
  simpa using this
theorem bef_other {o x : On} (h : befO o x = false) (hne : ¬ (x.s = o.s ∧ x.i = o.i)) : befO x o = true := bef_total h (fun e => hne ⟨e.1.symm, e.2.symm⟩)
theorem ins_all {o : On} {M : List On} (hall : ∀ x ∈ M, befO x o = true) (R : List On) (hR : ∀ x ∈ R, befO x o = false) : insO o (M ++ R) = M ++ o :: R := by
  have e1 : M.filter (fun x => befO x o) = M := List.filter_eq_self.2 hall
  have e2 : R.filter (fun x => befO x o) = [] := List.filter_eq_nil_iff.2 (fun x hx => by rw [hR x hx]; decide)
  have e3 : M.filter (fun x => !befO x o) = [] := List.filter_eq_nil_iff.2 (fun x hx => by rw [hall x hx]; decide)
  have e4 : R.filter (fun x => !befO x o) = R := List.filter_eq_self.2 (fun x hx => by rw [hR x hx]; rfl)
  unfold insO
  rw [List.filter_append, List.filter_append, e1, e2, e3, e4]
  simp
theorem insD_first {o x : On} {M : List On} (hno : ∀ y ∈ M, ¬ (y.s = o.s ∧ y.i = o.i)) (ha : anyD o M = false) (hx : befO o x = true) : insD o (M ++ [x]) = M ++ [o] ++ [x] ∧ anyD o (M ++ [x]) = true := by
  have h1 : anyD o (M ++ [x]) = true := by rw [any_snoc, ha, hx]; rfl
  refine ⟨?_, h1⟩
  unfold insD
  rw [if_pos h1, ins_all (fun y hy => bef_other (no_any ha hy) (hno y hy)) [x] (fun y hy => ?_)]
  · simp
  · have : y = x := by simpa using hy
    subst this
    exact bef_asymm hx
theorem insD_not {o x : On} {M : List On} (ha : anyD o M = false) (hx : befO o x = false) : insD o (M ++ [x]) = M ++ [x] ∧ insD o M = M ∧ anyD o (M ++ [x]) = false := by
  have h1 : anyD o (M ++ [x]) = false := by rw [any_snoc, ha, hx]; rfl
  unfold insD
  rw [h1, ha]
  exact ⟨rfl, rfl, rfl⟩
theorem insD_done {o x : On} {M : List On} (hO : OrdO (M ++ [x])) (ha : anyD o M = true) : insD o (M ++ [x]) = insD o M ++ [x] ∧ anyD o (M ++ [x]) = true := by
  have h1 : anyD o (M ++ [x]) = true := by rw [any_snoc, ha]; rfl
  refine ⟨?_, h1⟩
  have hx : befO x o = false := by
    unfold anyD at ha
    obtain ⟨y, hy, hb⟩ := List.any_eq_true.1 ha
    have h2 : befO y x = true := (List.pairwise_append.1 hO).2.2 y hy x (by simp)
    exact bef_asymm (bef_trans hb h2)
  unfold insD
  rw [h1, ha, if_pos rfl, if_pos rfl]
  unfold insO
  rw [List.filter_append, List.filter_append]
  have e1 : [x].filter (fun x => befO x o) = [] := by simp [hx]
  have e2 : [x].filter (fun x => !befO x o) = [x] := by simp [hx]
  rw [e1, e2]
  simp
theorem insD_end {o : On} {M : List On} (hno : ∀ y ∈ M, ¬ (y.s = o.s ∧ y.i = o.i)) (ha : anyD o M = false) : insO o M = M ++ [o] := by
  have h1 := ins_all (o := o) (M := M) (fun y hy => bef_other (no_any ha hy) (hno y hy)) [] (fun y hy => (by cases hy))
  rw [List.append_nil] at h1
  exact h1
theorem hasO_no {L : List On} {s i : Int} (h : hasO L s i = false) : ∀ y ∈ L, ¬ (y.s = s ∧ y.i = i) := by
  intro y hy e
  unfold hasO at h
  have := List.any_eq_false.1 h y hy
  simp [e.1, e.2] at this
set_option maxHeartbeats 16000000 in
set_option maxRecDepth 100000 in
theorem add9 (a : Option Addr) (c n : Nat) (L : List On) (o : On) (w : World) (hO : OrdO L) (hL : Ns w (.slice a n c) L) (hn : L.length = n) (hl : n ≤ 100000) :
    Calls Tryz.prog 49 #[xVal (.slice a n c), .int .i64 o.s, watV o.i o.p o.k o.f] w fun e w' => ∃ v, e = .returned (.tuple #[xVal v, .int .i64 (addC L o)]) ∧ Ns w' v (if addC L o = 0 then insO o L else L) ∧ (∀ k, v.ownBlock = some k → (Value.slice a n c).ownBlock = some k ∨ w.heap.size ≤ k) ∧ Below w.heap.size w w' := by
  obtain ⟨wb, hwb⟩ : ∃ wb, ((w.alloc (.cells #[.bool false, .slice a n c] 69)).alloc (.cells #[.int .i64 o.i, .string o.p, .int .i64 o.k, .int .i64 o.f] 40)).alloc (.cells #[.bool false, .slice none 0 0] 69) = wb := ⟨_, rfl⟩
  have HB : Hid (Below w.heap.size w wb) := by rw [← hwb]; exact (((Below.refl _ _).alloc (Nat.le_refl _) _).alloc (by simp) _).alloc (by simp; omega) _
  have HB0 : Hid (wb.heap[w.heap.size]? = some (.cells #[.bool false, .slice a n c] 69 (0, 0))) := by show _ = _; rw [← hwb]; exact new_old (new_old (heap_alloc_new _ _) _) _
  have HB1 : Hid (wb.heap[w.heap.size + 1]? = some (.cells #[.int .i64 o.i, .string o.p, .int .i64 o.k, .int .i64 o.f] 40 (0, 0))) := by show _ = _; rw [← hwb]; exact new_old (heap_new' (by simp)) _
  have HB2 : Hid (wb.heap[w.heap.size + 2]? = some (.cells #[.bool false, .slice none 0 0] 69 (0, 0))) := by show _ = _; rw [← hwb]; exact heap_new' (by simp)
  have HSZ : Hid (wb.heap.size = w.heap.size + 3) := by show _ = _; rw [← hwb]; simp
  obtain ⟨c0, c1⟩ := cells_2 HB0.out
  obtain ⟨b0, b1, b2, b3⟩ := cells_4 HB1.out
  obtain ⟨d0, d1⟩ := cells_2 HB2.out
  have fd := free_of HB2.out
  have HLw : Hid (Ns w (.slice a n c) L) := hL
  have HN : Hid (L.length = n) := hn
  have HOR : Hid (OrdO L) := hO
  have HW : Hid (((w.alloc (.cells #[.bool false, .slice a n c] 69)).alloc (.cells #[.int .i64 o.i, .string o.p, .int .i64 o.k, .int .i64 o.f] 40)).alloc (.cells #[.bool false, .slice none 0 0] 69) = wb) := hwb
  have HFI : Hid (∀ W, Below w.heap.size w W → _) := fun W hb => find9 a c n L o.s o.i W (HLw.out.below hb) hn hl
  have HOF : Hid (∀ W, Below w.heap.size w W → _) := fun W hb => of9 a c n L o.s W (HLw.out.below hb) hn hl
  clear hL hn hO
  obtain ⟨r, hr⟩ : ∃ r, addC L o = r := ⟨_, rfl⟩
  have HAC : Hid (addC L o = r) := hr
  rw [hr]
  unfold addC at hr
  cases hnb : numsB o.s o.i o.f with
  | true =>
    rw [hnb, if_pos rfl] at hr
    subst hr
    unfold numsB at hnb
    simp only [Bool.or_eq_true, decide_eq_true_eq] at hnb
    by_cases h1 : o.s < 1
    · go_enter Tryz.func49, Tryz.ntmps49
      rw [← hwb] at c0 c1 b0 b1 b2 b3 d0 d1 fd
      clear hwb
      go_wp2_with fail
      exact bodyPost_ret (results_cell_tmp rfl _ _ (w.heap.size + 1 + 1) 69 _ (0, 0) _ _ rfl rfl (heap_new' (by simp)) Tryz.underlying69 rfl (by kernel_rfl)) rfl ⟨_, rfl, HLw.out.below ((((Below.refl _ _).alloc (Nat.le_refl _) _).alloc (by simp) _).alloc (by simp; omega) _), fun k hk => .inl hk, (((Below.refl _ _).alloc (Nat.le_refl _) _).alloc (by simp) _).alloc (by simp; omega) _⟩
    by_cases h2 : (2147483647 : Int) < o.s
    · go_enter Tryz.func49, Tryz.ntmps49
      rw [← hwb] at c0 c1 b0 b1 b2 b3 d0 d1 fd
      clear hwb
      go_wp2_with fail
      exact bodyPost_ret (results_cell_tmp rfl _ _ (w.heap.size + 1 + 1) 69 _ (0, 0) _ _ rfl rfl (heap_new' (by simp)) Tryz.underlying69 rfl (by kernel_rfl)) rfl ⟨_, rfl, HLw.out.below ((((Below.refl _ _).alloc (Nat.le_refl _) _).alloc (by simp) _).alloc (by simp; omega) _), fun k hk => .inl hk, (((Below.refl _ _).alloc (Nat.le_refl _) _).alloc (by simp) _).alloc (by simp; omega) _⟩
    by_cases h3 : o.i < 1
    · go_enter Tryz.func49, Tryz.ntmps49
      rw [← hwb] at c0 c1 b0 b1 b2 b3 d0 d1 fd
      clear hwb
      go_wp2_with fail
      exact bodyPost_ret (results_cell_tmp rfl _ _ (w.heap.size + 1 + 1) 69 _ (0, 0) _ _ rfl rfl (heap_new' (by simp)) Tryz.underlying69 rfl (by kernel_rfl)) rfl ⟨_, rfl, HLw.out.below ((((Below.refl _ _).alloc (Nat.le_refl _) _).alloc (by simp) _).alloc (by simp; omega) _), fun k hk => .inl hk, (((Below.refl _ _).alloc (Nat.le_refl _) _).alloc (by simp) _).alloc (by simp; omega) _⟩
    by_cases h4 : (2147483647 : Int) < o.i
    · go_enter Tryz.func49, Tryz.ntmps49
      rw [← hwb] at c0 c1 b0 b1 b2 b3 d0 d1 fd
      clear hwb
      go_wp2_with fail
      exact bodyPost_ret (results_cell_tmp rfl _ _ (w.heap.size + 1 + 1) 69 _ (0, 0) _ _ rfl rfl (heap_new' (by simp)) Tryz.underlying69 rfl (by kernel_rfl)) rfl ⟨_, rfl, HLw.out.below ((((Below.refl _ _).alloc (Nat.le_refl _) _).alloc (by simp) _).alloc (by simp; omega) _), fun k hk => .inl hk, (((Below.refl _ _).alloc (Nat.le_refl _) _).alloc (by simp) _).alloc (by simp; omega) _⟩
    by_cases h5 : o.f < 0
    · go_enter Tryz.func49, Tryz.ntmps49
      rw [← hwb] at c0 c1 b0 b1 b2 b3 d0 d1 fd
      clear hwb
      go_wp2_with fail
      exact bodyPost_ret (results_cell_tmp rfl _ _ (w.heap.size + 1 + 1) 69 _ (0, 0) _ _ rfl rfl (heap_new' (by simp)) Tryz.underlying69 rfl (by kernel_rfl)) rfl ⟨_, rfl, HLw.out.below ((((Below.refl _ _).alloc (Nat.le_refl _) _).alloc (by simp) _).alloc (by simp; omega) _), fun k hk => .inl hk, (((Below.refl _ _).alloc (Nat.le_refl _) _).alloc (by simp) _).alloc (by simp; omega) _⟩
    have h6 : (2147483647 : Int) < o.f := by omega
    go_enter Tryz.func49, Tryz.ntmps49
    rw [← hwb] at c0 c1 b0 b1 b2 b3 d0 d1 fd
    clear hwb
    go_wp2_with fail
    exact bodyPost_ret (results_cell_tmp rfl _ _ (w.heap.size + 1 + 1) 69 _ (0, 0) _ _ rfl rfl (heap_new' (by simp)) Tryz.underlying69 rfl (by kernel_rfl)) rfl ⟨_, rfl, HLw.out.below ((((Below.refl _ _).alloc (Nat.le_refl _) _).alloc (by simp) _).alloc (by simp; omega) _), fun k hk => .inl hk, (((Below.refl _ _).alloc (Nat.le_refl _) _).alloc (by simp) _).alloc (by simp; omega) _⟩
  | false =>
    rw [hnb, if_neg (by decide)] at hr
    obtain ⟨n1, n2, n3, n4, n5, n6⟩ := nums_no hnb
    clear hnb
    obtain ⟨pc, hpc⟩ : ∃ pc, (parse o.p).1 = pc := ⟨_, rfl⟩
    have HPA : Hid (∀ W, Calls Tryz.prog 75 #[.string o.p] W fun e w' => ∃ v, e = .returned (.tuple #[v, .int .i64 pc]) ∧ Below W.heap.size W w') := by
      intro W
      refine Calls.mono (refParse_any o.p W) ?_
      rintro e w' ⟨a, c, he, _, _, hb⟩
      exact ⟨_, by rw [he, hpc], hb⟩
    rw [hpc] at hr
    clear hpc
    by_cases h0 : pc = 0
    · subst h0
      rw [if_neg (by simp)] at hr
      by_cases hk1 : o.k < 1
      · rw [if_pos (.inl hk1)] at hr
        subst hr
        go_enter Tryz.func49, Tryz.ntmps49
        rw [← hwb] at c0 c1 b0 b1 b2 b3 d0 d1 fd
        clear hwb
        go_wp2_with (first
            | (go_at_call 75; rw [HW.out]; refine Calls.mono (HPA.out _) ?_; rintro e w1 ⟨v1, rfl, hb1⟩
               have H1 : Hid (Below w.heap.size w w1) := xtrans2 HB.out hb1
               have A0 : Hid (w1.heap[w.heap.size]? = some (.cells #[.bool false, .slice a n c] 69 (0, 0))) := kept_block hb1 HB0.out
               have A1 : Hid (w1.heap[w.heap.size + 1]? = some (.cells #[.int .i64 o.i, .string o.p, .int .i64 o.k, .int .i64 o.f] 40 (0, 0))) := kept_block hb1 HB1.out
               have A2 : Hid (w1.heap[w.heap.size + 2]? = some (.cells #[.bool false, .slice none 0 0] 69 (0, 0))) := kept_block hb1 HB2.out
               clear c0 c1 b0 b1 b2 b3 d0 d1 fd hb1
               obtain ⟨c0, c1⟩ := cells_2 A0.out
               obtain ⟨b0, b1, b2, b3⟩ := cells_4 A1.out
               obtain ⟨d0, d1⟩ := cells_2 A2.out
               have fd := free_of A2.out)
            | (go_at_call 76; refine Calls.mono (HFI.out _ H1.out) ?_; rintro e w2 ⟨r2, rfl, hr2, hb1⟩
               have HR2 : Hid (FndC L o.s o.i r2) := hr2
               have H2 : Hid (Below w.heap.size w w2) := xtrans2 H1.out hb1
               clear hr2
               have E0 : Hid (w2.heap[w.heap.size]? = some (.cells #[.bool false, .slice a n c] 69 (0, 0))) := kept_block hb1 A0.out
               have E1 : Hid (w2.heap[w.heap.size + 1]? = some (.cells #[.int .i64 o.i, .string o.p, .int .i64 o.k, .int .i64 o.f] 40 (0, 0))) := kept_block hb1 A1.out
               have E2 : Hid (w2.heap[w.heap.size + 2]? = some (.cells #[.bool false, .slice none 0 0] 69 (0, 0))) := kept_block hb1 A2.out
               clear c0 c1 b0 b1 b2 b3 d0 d1 fd hb1
               obtain ⟨c0, c1⟩ := cells_2 E0.out
               obtain ⟨b0, b1, b2, b3⟩ := cells_4 E1.out
               obtain ⟨d0, d1⟩ := cells_2 E2.out
               have fd := free_of E2.out)
            | fail)
        exact bodyPost_ret (results_cell_tmp rfl _ _ (w.heap.size + 2) 69 _ (0, 0) _ _ rfl rfl (fill2 E2.out) Tryz.underlying69 rfl (by kernel_rfl)) rfl ⟨_, rfl, HLw.out.below ((H2.out.setCell (Nat.le_add_right _ 2) _).setCell (Nat.le_add_right _ 2) _), fun k hk => .inl hk, (H2.out.setCell (Nat.le_add_right _ 2) _).setCell (Nat.le_add_right _ 2) _⟩
      by_cases hk2 : (3 : Int) < o.k
      · rw [if_pos (.inr (.inl hk2))] at hr
        subst hr
        go_enter Tryz.func49, Tryz.ntmps49
        rw [← hwb] at c0 c1 b0 b1 b2 b3 d0 d1 fd
        clear hwb
        go_wp2_with (first
            | (go_at_call 75; rw [HW.out]; refine Calls.mono (HPA.out _) ?_; rintro e w1 ⟨v1, rfl, hb1⟩
               have H1 : Hid (Below w.heap.size w w1) := xtrans2 HB.out hb1
               have A0 : Hid (w1.heap[w.heap.size]? = some (.cells #[.bool false, .slice a n c] 69 (0, 0))) := kept_block hb1 HB0.out
               have A1 : Hid (w1.heap[w.heap.size + 1]? = some (.cells #[.int .i64 o.i, .string o.p, .int .i64 o.k, .int .i64 o.f] 40 (0, 0))) := kept_block hb1 HB1.out
               have A2 : Hid (w1.heap[w.heap.size + 2]? = some (.cells #[.bool false, .slice none 0 0] 69 (0, 0))) := kept_block hb1 HB2.out
               clear c0 c1 b0 b1 b2 b3 d0 d1 fd hb1
               obtain ⟨c0, c1⟩ := cells_2 A0.out
               obtain ⟨b0, b1, b2, b3⟩ := cells_4 A1.out
               obtain ⟨d0, d1⟩ := cells_2 A2.out
               have fd := free_of A2.out)
            | (go_at_call 76; refine Calls.mono (HFI.out _ H1.out) ?_; rintro e w2 ⟨r2, rfl, hr2, hb1⟩
               have HR2 : Hid (FndC L o.s o.i r2) := hr2
               have H2 : Hid (Below w.heap.size w w2) := xtrans2 H1.out hb1
               clear hr2
               have E0 : Hid (w2.heap[w.heap.size]? = some (.cells #[.bool false, .slice a n c] 69 (0, 0))) := kept_block hb1 A0.out
               have E1 : Hid (w2.heap[w.heap.size + 1]? = some (.cells #[.int .i64 o.i, .string o.p, .int .i64 o.k, .int .i64 o.f] 40 (0, 0))) := kept_block hb1 A1.out
               have E2 : Hid (w2.heap[w.heap.size + 2]? = some (.cells #[.bool false, .slice none 0 0] 69 (0, 0))) := kept_block hb1 A2.out
               clear c0 c1 b0 b1 b2 b3 d0 d1 fd hb1
               obtain ⟨c0, c1⟩ := cells_2 E0.out
               obtain ⟨b0, b1, b2, b3⟩ := cells_4 E1.out
               obtain ⟨d0, d1⟩ := cells_2 E2.out
               have fd := free_of E2.out)
            | fail)
        exact bodyPost_ret (results_cell_tmp rfl _ _ (w.heap.size + 2) 69 _ (0, 0) _ _ rfl rfl (fill2 E2.out) Tryz.underlying69 rfl (by kernel_rfl)) rfl ⟨_, rfl, HLw.out.below ((H2.out.setCell (Nat.le_add_right _ 2) _).setCell (Nat.le_add_right _ 2) _), fun k hk => .inl hk, (H2.out.setCell (Nat.le_add_right _ 2) _).setCell (Nat.le_add_right _ 2) _⟩
      go_enter Tryz.func49, Tryz.ntmps49
      rw [← hwb] at c0 c1 b0 b1 b2 b3 d0 d1 fd
      clear hwb
      go_upto_region 7 with (first
          | (go_at_call 75; rw [HW.out]; refine Calls.mono (HPA.out _) ?_; rintro e w1 ⟨v1, rfl, hb1⟩
             have H1 : Hid (Below w.heap.size w w1) := xtrans2 HB.out hb1
             have A0 : Hid (w1.heap[w.heap.size]? = some (.cells #[.bool false, .slice a n c] 69 (0, 0))) := kept_block hb1 HB0.out
             have A1 : Hid (w1.heap[w.heap.size + 1]? = some (.cells #[.int .i64 o.i, .string o.p, .int .i64 o.k, .int .i64 o.f] 40 (0, 0))) := kept_block hb1 HB1.out
             have A2 : Hid (w1.heap[w.heap.size + 2]? = some (.cells #[.bool false, .slice none 0 0] 69 (0, 0))) := kept_block hb1 HB2.out
             clear c0 c1 b0 b1 b2 b3 d0 d1 fd hb1
             obtain ⟨c0, c1⟩ := cells_2 A0.out
             obtain ⟨b0, b1, b2, b3⟩ := cells_4 A1.out
             obtain ⟨d0, d1⟩ := cells_2 A2.out
             have fd := free_of A2.out)
          | (go_at_call 76; refine Calls.mono (HFI.out _ H1.out) ?_; rintro e w2 ⟨r2, rfl, hr2, hb1⟩
             have HR2 : Hid (FndC L o.s o.i r2) := hr2
             have H2 : Hid (Below w.heap.size w w2) := xtrans2 H1.out hb1
             clear hr2
             have E0 : Hid (w2.heap[w.heap.size]? = some (.cells #[.bool false, .slice a n c] 69 (0, 0))) := kept_block hb1 A0.out
             have E1 : Hid (w2.heap[w.heap.size + 1]? = some (.cells #[.int .i64 o.i, .string o.p, .int .i64 o.k, .int .i64 o.f] 40 (0, 0))) := kept_block hb1 A1.out
             have E2 : Hid (w2.heap[w.heap.size + 2]? = some (.cells #[.bool false, .slice none 0 0] 69 (0, 0))) := kept_block hb1 A2.out
             clear c0 c1 b0 b1 b2 b3 d0 d1 fd hb1
             obtain ⟨c0, c1⟩ := cells_2 E0.out
             obtain ⟨b0, b1, b2, b3⟩ := cells_4 E1.out
             obtain ⟨d0, d1⟩ := cells_2 E2.out
             have fd := free_of E2.out)
          | fail)
      rcases HR2.out with ⟨hno, hr2⟩ | ⟨q0, x0, hr2, hx0, hs0, hi0⟩
      · subst hr2
        rw [if_neg (by rintro (h | h | h); omega; omega; rw [hno] at h; cases h)] at hr
        have HNO : Hid (hasO L o.s o.i = false) := hno
        clear hno
        have hwl : (wasO L o.s).length = (ofO L o.s).length := by unfold wasO; rw [List.length_map]
        by_cases h4 : 4 ≤ (ofO L o.s).length
        · rw [if_pos h4] at hr
          subst hr
          have h4i : (4 : Int) ≤ ((wasO L o.s).length : Int) := by omega
          clear hwl
          go_wp2_with (first
              | (go_at_call 53; refine Calls.mono (HOF.out _ H2.out) ?_; rintro e w3 ⟨v3, rfl, ho3, hb1⟩
                 obtain ⟨a3, c3, rfl⟩ := owns_shape ho3
                 have H3 : Hid (Below w.heap.size w w3) := xtrans2 H2.out hb1
                 clear ho3
                 have G0 : Hid (w3.heap[w.heap.size]? = some (.cells #[.bool false, .slice a n c] 69 (0, 0))) := kept_block hb1 E0.out
                 have G1 : Hid (w3.heap[w.heap.size + 1]? = some (.cells #[.int .i64 o.i, .string o.p, .int .i64 o.k, .int .i64 o.f] 40 (0, 0))) := kept_block hb1 E1.out
                 have G2 : Hid (w3.heap[w.heap.size + 2]? = some (.cells #[.bool false, .slice none 0 0] 69 (0, 0))) := kept_block hb1 E2.out
                 clear c0 c1 b0 b1 b2 b3 d0 d1 fd hb1
                 obtain ⟨c0, c1⟩ := cells_2 G0.out
                 obtain ⟨b0, b1, b2, b3⟩ := cells_4 G1.out
                 obtain ⟨d0, d1⟩ := cells_2 G2.out
                 have fd := free_of G2.out)
              | fail)
          exact bodyPost_ret (results_cell_tmp rfl _ _ (w.heap.size + 2) 69 _ (0, 0) _ _ rfl rfl (fill2 G2.out) Tryz.underlying69 rfl (by kernel_rfl)) rfl ⟨_, rfl, HLw.out.below ((H3.out.setCell (Nat.le_add_right _ 2) _).setCell (Nat.le_add_right _ 2) _), fun k hk => .inl hk, (H3.out.setCell (Nat.le_add_right _ 2) _).setCell (Nat.le_add_right _ 2) _⟩
        · rw [if_neg h4] at hr
          subst hr
          have h4i : ¬ (4 : Int) ≤ ((wasO L o.s).length : Int) := by omega
          clear hwl
          go_wp2_with (first
              | (go_at_call 53; refine Calls.mono (HOF.out _ H2.out) ?_; rintro e w3 ⟨v3, rfl, ho3, hb1⟩
                 obtain ⟨a3, c3, rfl⟩ := owns_shape ho3
                 have H3 : Hid (Below w.heap.size w w3) := xtrans2 H2.out hb1
                 clear ho3
                 have G0 : Hid (w3.heap[w.heap.size]? = some (.cells #[.bool false, .slice a n c] 69 (0, 0))) := kept_block hb1 E0.out
                 have G1 : Hid (w3.heap[w.heap.size + 1]? = some (.cells #[.int .i64 o.i, .string o.p, .int .i64 o.k, .int .i64 o.f] 40 (0, 0))) := kept_block hb1 E1.out
                 have G2 : Hid (w3.heap[w.heap.size + 2]? = some (.cells #[.bool false, .slice none 0 0] 69 (0, 0))) := kept_block hb1 E2.out
                 clear c0 c1 b0 b1 b2 b3 d0 d1 fd hb1
                 obtain ⟨c0, c1⟩ := cells_2 G0.out
                 obtain ⟨b0, b1, b2, b3⟩ := cells_4 G1.out
                 obtain ⟨d0, d1⟩ := cells_2 G2.out
                 have fd := free_of G2.out)
              | fail)
          obtain ⟨w4, hw4⟩ : ∃ w4, w3.alloc (.cells #[.int .i64 o.s, .int .i64 o.i, .string o.p, .int .i64 o.k, .int .i64 o.f] 139) = w4 := ⟨_, rfl⟩
          obtain ⟨g3, hg3⟩ : ∃ g3, w3.heap.size = g3 := ⟨_, rfl⟩
          have HBX : Hid (w4.heap[g3]? = some (.cells #[.int .i64 o.s, .int .i64 o.i, .string o.p, .int .i64 o.k, .int .i64 o.f] 139 (0, 0))) := by show _ = _; rw [← hw4, ← hg3]; exact heap_alloc_new _ _
          have HG3 : Hid (w.heap.size + 3 ≤ w4.heap.size) := by show _ ≤ _; have h7 := lt_of_blk G2.out; rw [← hw4]; simp; omega
          have hb43 : Below w3.heap.size w3 w4 := by rw [← hw4]; exact (Below.refl _ _).alloc (Nat.le_refl _) _
          have H4 : Hid (Below w.heap.size w w4) := xtrans2 H3.out hb43
          have K0 : Hid (w4.heap[w.heap.size]? = some (.cells #[.bool false, .slice a n c] 69 (0, 0))) := kept_block hb43 G0.out
          have K2 : Hid (w4.heap[w.heap.size + 2]? = some (.cells #[.bool false, .slice none 0 0] 69 (0, 0))) := kept_block hb43 G2.out
          have HL : Hid (Ns w4 (.slice a n c) L) := HLw.out.below H4.out
          rw [hw4, hg3]
          clear c0 c1 b0 b1 b2 b3 d0 d1 fd hw4 hg3 hb43
          go_loopw [12, 14, 15] (fun lv dv iv wr => ∃ q : Nat, iv = .int .i64 q ∧ q ≤ n ∧ dv = .bool (anyD o (L.take q)) ∧ Hid (Below w4.heap.size w4 wr) ∧ Hid (wr.ownsRow w4.heap.size 139 5 lv (insD o (L.take q)).length (onCs (insD o (L.take q))))) (fun _ _ iv _ => n - (intOf iv).toNat)
          case atStart => exact ⟨0, rfl, Nat.zero_le _, rfl, Below.refl _ _, World.ownsRow_nil _ _ _ _⟩
          case round =>
            obtain ⟨q, rfl, hq, rfl, HBr, HO⟩ := hrel
            obtain ⟨c0, c1⟩ := cells_2 (kept_block HBr.out K0.out)
            obtain ⟨x0, x1, x2, x3, x4⟩ := cells_5 (kept_block HBr.out HBX.out)
            by_cases hlt : q < n
            · have hlt' : (q : Int) < (n : Int) := by omega
              obtain ⟨x, hx⟩ : ∃ x, L[q]? = some x := ⟨L[q]'(by rw [HN.out]; exact hlt), List.getElem?_eq_getElem _⟩
              obtain ⟨g, rfl, n0, n1, n2, n3, n4⟩ := (HL.out.below HBr.out).at HN.out hx
              have hT := take_snoc hx
              have HX : Hid (L[q]? = some x) := hx
              have HOT : Hid (OrdO (L.take q ++ [x])) := by rw [← hT]; exact (show OrdO (L.take (q + 1)) from List.Pairwise.sublist (List.take_sublist _ _) HOR.out)
              have HNM : Hid (∀ y ∈ L.take q, ¬ (y.s = o.s ∧ y.i = o.i)) := fun y hy => hasO_no HNO.out y (List.mem_of_mem_take hy)
              have HT : Hid (L.take (q + 1) = L.take q ++ [x]) := hT
              have HLQ : Hid ((L.take q).length ≤ 100000) := by show _ ≤ _; rw [List.length_take]; omega
              obtain ⟨M, hM⟩ : ∃ M, L.take q = M := ⟨_, rfl⟩
              rw [hM] at HOT HNM HT HO HLQ
              have HMM : Hid (L.take q = M) := hM
              rw [hM]
              clear hx hT hM
              cases hd : anyD o M with
              | true =>
                obtain ⟨e1, e2⟩ := insD_done HOT.out hd
                have E1 : Hid (insD o (M ++ [x]) = insD o M ++ [x]) := e1
                have E2 : Hid (anyD o (M ++ [x]) = true) := e2
                have HLI : Hid ((insD o M).length ≤ 200000) := by
                  have e3 : insD o M = insO o M := by unfold insD; rw [hd]; rfl
                  have h5 : (insO o M).length = M.length + 1 := by
                    unfold insO
                    rw [List.length_append, List.length_cons]
                    have := parts_len M (fun x => befO x o)
                    omega
                  show _ ≤ _
                  rw [e3, h5]
                  have := HLQ.out
                  omega
                clear e1 e2 hd
                go_wp2_with fail
                go_quiet (fail)
                go_wp2_with (first
                  | (at_builtin; refine wpList_appN rfl _ _ rfl w4.heap.size u12 (insD o M) rfl (owns_below HO.out ((below_drewN (Below.refl _ _) _).alloc (Nat.le_refl _) _)) wr.heap.size x rfl (heap_alloc_new (wr.drewN _) _) (by have := HLI.out; omega) (by have := HBr.out.size; simp; omega) ?_
                     intro v7 w7 ho7 hb7
                     have HO7 : Hid _ := ho7
                     have HB7 : Hid (Below w4.heap.size w4 w7) := ((below_drewN HBr.out _).alloc HBr.out.size _).trans hb7
                     clear ho7 hb7 n0 n1 n2 n3 n4 c0 c1 x0 x1 x2 x3 x4)
                  | fail)
                go_roundw
                case rel =>
                  refine ⟨q + 1, by go_num, by omega, by rw [HT.out, E2.out], HB7, ?_⟩
                  show World.ownsRow _ _ _ _ _ _ _
                  rw [HT.out, E1.out]
                  exact HO7.out
                case measure => simp [intOf]; omega
              | false =>
                have HIM : Hid (insD o M = M) := by show _ = _; unfold insD; rw [hd]; rfl
                have HOM : Hid (wr.ownsRow w4.heap.size 139 5 u12 M.length (onCs M)) := by have h7 := HO.out; rw [HIM.out] at h7; exact h7
                cases hb : befO o x with
                | true =>
                  obtain ⟨e1, e2⟩ := insD_first HNM.out hd hb
                  have E1 : Hid (insD o (M ++ [x]) = M ++ [o] ++ [x]) := e1
                  have E2 : Hid (anyD o (M ++ [x]) = true) := e2
                  have HBE : Hid (∀ W, Calls Tryz.prog 77 #[onV o, onV x] W fun e w' => e = .returned (.bool true) ∧ Below W.heap.size W w') := fun W => by
                    have h7 := before9 o x W
                    rw [hb] at h7
                    exact h7
                  have HSW : Hid (∀ w', Below wr.heap.size wr w' → w'.cell? ⟨w.heap.size, 0, none⟩ = some (.bool false) ∧ w'.cell? ⟨w.heap.size, 1, none⟩ = some (.slice (some ⟨g, 0, none⟩) n c) ∧ w'.cell? ⟨g3, 0, none⟩ = some (.int .i64 o.s) ∧ w'.cell? ⟨g3, 1, none⟩ = some (.int .i64 o.i) ∧ w'.cell? ⟨g3, 2, none⟩ = some (.string o.p) ∧ w'.cell? ⟨g3, 3, none⟩ = some (.int .i64 o.k) ∧ w'.cell? ⟨g3, 4, none⟩ = some (.int .i64 o.f) ∧ w'.cell? ⟨g, q * 5, none⟩ = some (.int .i64 x.s) ∧ w'.cell? ⟨g, q * 5 + 1, none⟩ = some (.int .i64 x.i) ∧ w'.cell? ⟨g, q * 5 + 2, none⟩ = some (.string x.p) ∧ w'.cell? ⟨g, q * 5 + 3, none⟩ = some (.int .i64 x.k) ∧ w'.cell? ⟨g, q * 5 + 4, none⟩ = some (.int .i64 x.f)) := fun w' hb' => by
                    obtain ⟨c0, c1⟩ := cells_2 (kept_block hb' (kept_block HBr.out K0.out))
                    obtain ⟨x0, x1, x2, x3, x4⟩ := cells_5 (kept_block hb' (kept_block HBr.out HBX.out))
                    obtain ⟨g', he, n0, n1, n2, n3, n4⟩ := ((HL.out.below HBr.out).below hb').at HN.out HX.out
                    simp only [Option.some.injEq, Addr.mk.injEq, and_true] at he
                    subst he
                    exact ⟨c0, c1, x0, x1, x2, x3, x4, n0, n1, n2, n3, n4⟩
                  have HB5 : Hid (Below wr.heap.size wr wr) := Below.refl _ _
                  go_wp2_with fail
                  go_region_held3 (fun w' => w'.cell? ⟨w.heap.size, 0, none⟩ = some (.bool false) ∧ w'.cell? ⟨w.heap.size, 1, none⟩ = some (.slice (some ⟨g, 0, none⟩) n c) ∧ w'.cell? ⟨g3, 0, none⟩ = some (.int .i64 o.s) ∧ w'.cell? ⟨g3, 1, none⟩ = some (.int .i64 o.i) ∧ w'.cell? ⟨g3, 2, none⟩ = some (.string o.p) ∧ w'.cell? ⟨g3, 3, none⟩ = some (.int .i64 o.k) ∧ w'.cell? ⟨g3, 4, none⟩ = some (.int .i64 o.f) ∧ w'.cell? ⟨g, q * 5, none⟩ = some (.int .i64 x.s) ∧ w'.cell? ⟨g, q * 5 + 1, none⟩ = some (.int .i64 x.i) ∧ w'.cell? ⟨g, q * 5 + 2, none⟩ = some (.string x.p) ∧ w'.cell? ⟨g, q * 5 + 3, none⟩ = some (.int .i64 x.k) ∧ w'.cell? ⟨g, q * 5 + 4, none⟩ = some (.int .i64 x.f))
                    (first
                    | (refine HSW.out _ ?_; repeat (first | exact Below.refl _ _ | exact HB5.out | refine below_drewN ?_ _ | refine below_drew ?_))
                    | go_keep)
                    (first
                    | (go_at_call 77; refine Calls.mono (HBE.out _) ?_; rintro e w5 ⟨rfl, hb5⟩
                       clear HB5
                       have HB5 : Hid (Below wr.heap.size wr w5) := (by first | exact of_drew hb5 | exact hb5)
                       clear hb5))
                  clear n0 n1 n2 n3 n4 c0 c1 x0 x1 x2 x3 x4
                  obtain ⟨c0, c1, x0, x1, x2, x3, x4, n0, n1, n2, n3, n4⟩ := HSW.out w5 HB5.out
                  have HBQ : Hid (Below w4.heap.size w4 w5) := xtrans2 HBr.out HB5.out
                  clear e1 e2 hd hb
                  go_wp2_with (first
                    | (at_builtin; refine wpList_appN rfl _ _ rfl w4.heap.size u12 M rfl (owns_below (owns_below HOM.out HB5.out) ((Below.refl _ _).alloc (Nat.le_refl _) _)) w5.heap.size o rfl (heap_alloc_new _ _) (by have := HLQ.out; omega) (by have := HBQ.out.size; simp; omega) ?_
                       intro v7 w7 ho7 hb7
                       have HO7 : Hid _ := ho7
                       have HB7 : Hid (Below w4.heap.size w4 w7) := (HBQ.out.alloc HBQ.out.size _).trans hb7
                       clear ho7 hb7 n0 n1 n2 n3 n4 c0 c1 x0 x1 x2 x3 x4
                       obtain ⟨c0, c1⟩ := cells_2 (kept_block HB7.out K0.out)
                       obtain ⟨g', he, n0, n1, n2, n3, n4⟩ := (HL.out.below HB7.out).at HN.out HX.out
                       simp only [Option.some.injEq, Addr.mk.injEq, and_true] at he
                       subst he)
                    | (at_builtin; refine wpList_appN rfl _ _ rfl w4.heap.size v7 (M ++ [o]) rfl (owns_below HO7.out ((Below.refl _ _).alloc (Nat.le_refl _) _)) w7.heap.size x rfl (heap_alloc_new _ _) (by have := HLQ.out; simp; omega) (by have := HB7.out.size; simp; omega) ?_
                       intro v8 w8 ho8 hb8
                       have HO8 : Hid _ := ho8
                       have HB8 : Hid (Below w4.heap.size w4 w8) := (HB7.out.alloc HB7.out.size _).trans hb8
                       clear ho8 hb8 n0 n1 n2 n3 n4 c0 c1)
                    | fail)
                  go_roundw
                  case rel =>
                    refine ⟨q + 1, by go_num, by omega, by rw [HT.out, E2.out], HB8, ?_⟩
                    show World.ownsRow _ _ _ _ _ _ _
                    rw [HT.out, E1.out]
                    exact HO8.out
                  case measure => simp [intOf]; omega
                | false =>
                  obtain ⟨e1, _, e2⟩ := insD_not hd hb
                  have E1 : Hid (insD o (M ++ [x]) = M ++ [x]) := e1
                  have E2 : Hid (anyD o (M ++ [x]) = false) := e2
                  have HBE : Hid (∀ W, Calls Tryz.prog 77 #[onV o, onV x] W fun e w' => e = .returned (.bool false) ∧ Below W.heap.size W w') := fun W => by
                    have h7 := before9 o x W
                    rw [hb] at h7
                    exact h7
                  have HSW : Hid (∀ w', Below wr.heap.size wr w' → w'.cell? ⟨w.heap.size, 0, none⟩ = some (.bool false) ∧ w'.cell? ⟨w.heap.size, 1, none⟩ = some (.slice (some ⟨g, 0, none⟩) n c) ∧ w'.cell? ⟨g3, 0, none⟩ = some (.int .i64 o.s) ∧ w'.cell? ⟨g3, 1, none⟩ = some (.int .i64 o.i) ∧ w'.cell? ⟨g3, 2, none⟩ = some (.string o.p) ∧ w'.cell? ⟨g3, 3, none⟩ = some (.int .i64 o.k) ∧ w'.cell? ⟨g3, 4, none⟩ = some (.int .i64 o.f) ∧ w'.cell? ⟨g, q * 5, none⟩ = some (.int .i64 x.s) ∧ w'.cell? ⟨g, q * 5 + 1, none⟩ = some (.int .i64 x.i) ∧ w'.cell? ⟨g, q * 5 + 2, none⟩ = some (.string x.p) ∧ w'.cell? ⟨g, q * 5 + 3, none⟩ = some (.int .i64 x.k) ∧ w'.cell? ⟨g, q * 5 + 4, none⟩ = some (.int .i64 x.f)) := fun w' hb' => by
                    obtain ⟨c0, c1⟩ := cells_2 (kept_block hb' (kept_block HBr.out K0.out))
                    obtain ⟨x0, x1, x2, x3, x4⟩ := cells_5 (kept_block hb' (kept_block HBr.out HBX.out))
                    obtain ⟨g', he, n0, n1, n2, n3, n4⟩ := ((HL.out.below HBr.out).below hb').at HN.out HX.out
                    simp only [Option.some.injEq, Addr.mk.injEq, and_true] at he
                    subst he
                    exact ⟨c0, c1, x0, x1, x2, x3, x4, n0, n1, n2, n3, n4⟩
                  have HB5 : Hid (Below wr.heap.size wr wr) := Below.refl _ _
                  go_wp2_with fail
                  go_region_held3 (fun w' => w'.cell? ⟨w.heap.size, 0, none⟩ = some (.bool false) ∧ w'.cell? ⟨w.heap.size, 1, none⟩ = some (.slice (some ⟨g, 0, none⟩) n c) ∧ w'.cell? ⟨g3, 0, none⟩ = some (.int .i64 o.s) ∧ w'.cell? ⟨g3, 1, none⟩ = some (.int .i64 o.i) ∧ w'.cell? ⟨g3, 2, none⟩ = some (.string o.p) ∧ w'.cell? ⟨g3, 3, none⟩ = some (.int .i64 o.k) ∧ w'.cell? ⟨g3, 4, none⟩ = some (.int .i64 o.f) ∧ w'.cell? ⟨g, q * 5, none⟩ = some (.int .i64 x.s) ∧ w'.cell? ⟨g, q * 5 + 1, none⟩ = some (.int .i64 x.i) ∧ w'.cell? ⟨g, q * 5 + 2, none⟩ = some (.string x.p) ∧ w'.cell? ⟨g, q * 5 + 3, none⟩ = some (.int .i64 x.k) ∧ w'.cell? ⟨g, q * 5 + 4, none⟩ = some (.int .i64 x.f))
                    (first
                    | (refine HSW.out _ ?_; repeat (first | exact Below.refl _ _ | exact HB5.out | refine below_drewN ?_ _ | refine below_drew ?_))
                    | go_keep)
                    (first
                    | (go_at_call 77; refine Calls.mono (HBE.out _) ?_; rintro e w5 ⟨rfl, hb5⟩
                       clear HB5
                       have HB5 : Hid (Below wr.heap.size wr w5) := (by first | exact of_drew hb5 | exact hb5)
                       clear hb5))
                  clear n0 n1 n2 n3 n4 c0 c1 x0 x1 x2 x3 x4
                  obtain ⟨c0, c1, x0, x1, x2, x3, x4, n0, n1, n2, n3, n4⟩ := HSW.out w5 HB5.out
                  have HBQ : Hid (Below w4.heap.size w4 w5) := xtrans2 HBr.out HB5.out
                  clear e1 e2 hd hb
                  go_wp2_with (first
                    | (at_builtin; refine wpList_appN rfl _ _ rfl w4.heap.size u12 M rfl (owns_below (owns_below HOM.out HB5.out) ((Below.refl _ _).alloc (Nat.le_refl _) _)) w5.heap.size x rfl (heap_alloc_new _ _) (by have := HLQ.out; omega) (by have := HBQ.out.size; simp; omega) ?_
                       intro v7 w7 ho7 hb7
                       have HO7 : Hid _ := ho7
                       have HB7 : Hid (Below w4.heap.size w4 w7) := (HBQ.out.alloc HBQ.out.size _).trans hb7
                       clear ho7 hb7 n0 n1 n2 n3 n4 c0 c1 x0 x1 x2 x3 x4)
                    | fail)
                  go_roundw
                  case rel =>
                    refine ⟨q + 1, by go_num, by omega, by rw [HT.out, E2.out], HB7, ?_⟩
                    show World.ownsRow _ _ _ _ _ _ _
                    rw [HT.out, E1.out]
                    exact HO7.out
                  case measure => simp [intOf]; omega
            · have hge : ¬ (q : Int) < (n : Int) := by omega
              have HTK : Hid (L.take q = L) := List.take_of_length_le (by rw [HN.out]; omega)
              have HLL : Hid (L.length ≤ 100000) := by show _ ≤ _; rw [HN.out]; exact hl
              rw [HTK.out] at HO ⊢
              have hR := kept_block HBr.out K2.out
              have HRr : Hid (wr.heap[w.heap.size + 2]? = some (.cells #[.bool false, .slice none 0 0] 69 (0, 0))) := hR
              cases hd : anyD o L with
              | true =>
                obtain ⟨d0, d1⟩ := cells_2 hR
                have fd := free_of hR
                have he : insD o L = insO o L := by unfold insD; rw [hd]; rfl
                have ho := HO.out
                rw [he] at ho
                obtain ⟨a6, c6, rfl⟩ := owns_shape ho
                have HO6 : Hid (wr.ownsRow w4.heap.size 139 5 (.slice a6 (insO o L).length c6) (insO o L).length (onCs (insO o L))) := ho
                clear ho hR he hd
                go_wp2_with fail
                exact bodyPost_ret (results_cell_tmp rfl _ _ (w.heap.size + 2) 69 _ (0, 0) _ _ rfl rfl (fill2 HRr.out) Tryz.underlying69 rfl (by kernel_rfl)) rfl ⟨_, rfl, owns_lo (owns_fill HO6.out (by have := HG3.out; omega)) (Nat.zero_le _), fun k hk => .inr (by have h1 := (row_block HO6.out k hk).1; have := HG3.out; omega), ((xtrans2 H4.out HBr.out).setCell (Nat.le_add_right _ 2) _).setCell (Nat.le_add_right _ 2) _⟩
              | false =>
                have he : insD o L = L := by unfold insD; rw [hd]; rfl
                have HEN : Hid (insO o L = L ++ [o]) := insD_end (hasO_no HNO.out) hd
                have ho := HO.out
                rw [he] at ho
                have HOL : Hid (wr.ownsRow w4.heap.size 139 5 u12 L.length (onCs L)) := ho
                clear ho hR he hd
                go_wp2_with (first
                  | (at_builtin; refine wpList_appN rfl _ _ rfl w4.heap.size u12 L rfl (owns_below HOL.out ((Below.refl _ _).alloc (Nat.le_refl _) _)) wr.heap.size o rfl (heap_alloc_new _ _) (by have := HLL.out; omega) (by have := HBr.out.size; simp; omega) ?_
                     intro v7 w7 ho7 hb7
                     rw [← HEN.out] at ho7
                     have HB7 : Hid (Below w4.heap.size w4 w7) := (HBr.out.alloc HBr.out.size _).trans hb7
                     obtain ⟨a6, c6, rfl⟩ := owns_shape ho7
                     have HO6 : Hid (w7.ownsRow w4.heap.size 139 5 (.slice a6 (insO o L).length c6) (insO o L).length (onCs (insO o L))) := ho7
                     clear ho7 hb7 c0 c1 x0 x1 x2 x3 x4
                     have hR := kept_block HB7.out K2.out
                     have HR7 : Hid (w7.heap[w.heap.size + 2]? = some (.cells #[.bool false, .slice none 0 0] 69 (0, 0))) := hR
                     obtain ⟨d0, d1⟩ := cells_2 hR
                     have fd := free_of hR
                     clear hR)
                  | fail)
                exact bodyPost_ret (results_cell_tmp rfl _ _ (w.heap.size + 2) 69 _ (0, 0) _ _ rfl rfl (fill2 HR7.out) Tryz.underlying69 rfl (by kernel_rfl)) rfl ⟨_, rfl, owns_lo (owns_fill HO6.out (by have := HG3.out; omega)) (Nat.zero_le _), fun k hk => .inr (by have h1 := (row_block HO6.out k hk).1; have := HG3.out; omega), ((xtrans2 H4.out HB7.out).setCell (Nat.le_add_right _ 2) _).setCell (Nat.le_add_right _ 2) _⟩
      · subst hr2
        rw [if_pos (.inr (.inr (by unfold hasO; rw [List.any_eq_true]; exact ⟨x0, List.mem_of_getElem? hx0, by simp [hs0, hi0]⟩)))] at hr
        subst hr
        have hq0 : (0 : Int) ≤ (q0 : Int) := by omega
        clear hx0 hs0 hi0
        go_wp2_with fail
        exact bodyPost_ret (results_cell_tmp rfl _ _ (w.heap.size + 2) 69 _ (0, 0) _ _ rfl rfl (fill2 E2.out) Tryz.underlying69 rfl (by kernel_rfl)) rfl ⟨_, rfl, HLw.out.below ((H2.out.setCell (Nat.le_add_right _ 2) _).setCell (Nat.le_add_right _ 2) _), fun k hk => .inl hk, (H2.out.setCell (Nat.le_add_right _ 2) _).setCell (Nat.le_add_right _ 2) _⟩
    · rw [if_pos h0] at hr
      subst hr
      go_enter Tryz.func49, Tryz.ntmps49
      rw [← hwb] at c0 c1 b0 b1 b2 b3 d0 d1 fd
      clear hwb
      go_wp2_with (first
          | (go_at_call 75; rw [HW.out]; refine Calls.mono (HPA.out _) ?_; rintro e w1 ⟨v1, rfl, hb1⟩
             have H1 : Hid (Below w.heap.size w w1) := xtrans2 HB.out hb1
             have A0 : Hid (w1.heap[w.heap.size]? = some (.cells #[.bool false, .slice a n c] 69 (0, 0))) := kept_block hb1 HB0.out
             have A1 : Hid (w1.heap[w.heap.size + 1]? = some (.cells #[.int .i64 o.i, .string o.p, .int .i64 o.k, .int .i64 o.f] 40 (0, 0))) := kept_block hb1 HB1.out
             have A2 : Hid (w1.heap[w.heap.size + 2]? = some (.cells #[.bool false, .slice none 0 0] 69 (0, 0))) := kept_block hb1 HB2.out
             clear c0 c1 b0 b1 b2 b3 d0 d1 fd hb1
             obtain ⟨c0, c1⟩ := cells_2 A0.out
             obtain ⟨b0, b1, b2, b3⟩ := cells_4 A1.out
             obtain ⟨d0, d1⟩ := cells_2 A2.out
             have fd := free_of A2.out)
          | fail)
      exact bodyPost_ret (results_cell_tmp rfl _ _ (w.heap.size + 2) 69 _ (0, 0) _ _ rfl rfl (fill2 A2.out) Tryz.underlying69 rfl (by kernel_rfl)) rfl ⟨_, rfl, HLw.out.below ((H1.out.setCell (Nat.le_add_right _ 2) _).setCell (Nat.le_add_right _ 2) _), fun k hk => .inl hk, (H1.out.setCell (Nat.le_add_right _ 2) _).setCell (Nat.le_add_right _ 2) _⟩
end Go.Proofs.YtbblckcjedjbcaaGreatDoor.J
