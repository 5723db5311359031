/-
  heraldlaw16: what was sent: live, find, put.
-/
import Derived.Test.YtfcobhgjkibdgaaLNear
namespace Go.Proofs.Ytfcobhgjkibdgaa
open Go.RowKit
set_option linter.unusedVariables false
set_option linter.unusedSimpArgs false

abbrev SnX : Type := MsT × Bool
/-- What was sent, in memory. -/
structure SnAt (w : World) (S : Nat) (nv mv gv : Value) (xs : List SnX) : Prop where
  box : w.heap[S]? = some (.cells #[nv, mv, gv] 44 (0, 0))
  nums : w.ownsRow 0 3 1 nv xs.length ((List.range xs.length).map fun i : Nat => .int .i64 ((i : Int) + 1))
  msgs : w.ownsRow 0 23 3 mv xs.length (xs.flatMap fun x => x.1.cells)
  gone : w.ownsRow 0 4 1 gv xs.length (xs.map fun x => .bool x.2)
def SnK (S : Nat) (nv mv gv : Value) : Nat → Prop := fun j => j = S ∨ nv.ownBlock = some j ∨ mv.ownBlock = some j ∨ gv.ownBlock = some j
theorem SnAt.chg {w w' : World} {S : Nat} {nv mv gv : Value} {xs : List SnX} {T : Nat → Prop} (h : SnAt w S nv mv gv xs) (hc : Chg w w' T) (hT : ∀ j, SnK S nv mv gv j → ¬ T j) : SnAt w' S nv mv gv xs :=
  ⟨by rw [hc.block S (lt_of_blk h.box) (hT S (.inl rfl))]; exact h.box, row_chg h.nums hc (fun j hj => hT j (.inr (.inl hj))), row_chg h.msgs hc (fun j hj => hT j (.inr (.inr (.inl hj)))), row_chg h.gone hc (fun j hj => hT j (.inr (.inr (.inr hj))))⟩
theorem SnAt.below {w w' : World} {S : Nat} {nv mv gv : Value} {xs : List SnX} (h : SnAt w S nv mv gv xs) (hb : Below w.heap.size w w') : SnAt w' S nv mv gv xs :=
  h.chg (Chg.of_below hb (fun _ => False)) (fun _ _ h => h)
theorem SnAt.lt {w : World} {S : Nat} {nv mv gv : Value} {xs : List SnX} (h : SnAt w S nv mv gv xs) : ∀ j, SnK S nv mv gv j → j < w.heap.size := fun j hj => by
  rcases hj with rfl | hj | hj | hj
  · exact lt_of_blk h.box
  · exact (row_block h.nums j hj).2
  · exact (row_block h.msgs j hj).2
  · exact (row_block h.gone j hj).2
def liveN (xs : List SnX) : Nat := (xs.filter fun x => !x.2).length
def findN (k : Nat) (n : Int) : Int := if 1 ≤ n ∧ n ≤ (k : Int) then n - 1 else -1
set_option maxHeartbeats 1600000 in
set_option maxRecDepth 100000 in
theorem live_any (S : Nat) (nv mv gv : Value) (xs : List SnX) (w : World) (h : SnAt w S nv mv gv xs) (hl : xs.length ≤ 1000000) :
    Calls Try.prog 20 #[.pointer (some ⟨S, 0, none⟩)] w fun e w' => e = .returned (.int .i64 (liveN xs)) ∧ w' = w := by
  obtain ⟨n, hn⟩ : ∃ z, xs.length = z := ⟨_, rfl⟩
  obtain ⟨a, c, rfl, _⟩ := row_form h.gone
  have HS : Hid (SnAt w S nv mv (.slice a n c) xs) := by rw [← hn]; exact h
  have HN : Hid (xs.length = n) := hn
  rw [hn] at hl
  obtain ⟨c0, c1, c2⟩ := cells_3 HS.out.box
  clear h hn
  go_enter Try.func20, Try.ntmps20
  go_wp2_with fail
  go_loopw [3, 4] (fun k i wr => ∃ q j : Nat, i = .int .i64 q ∧ k = .int .i64 j ∧ q ≤ n ∧ j ≤ q ∧ Hid (j = liveN (xs.take q)) ∧ wr = w) (fun _ i _ => n - (intOf i).toNat)
  case atStart => exact ⟨0, 0, rfl, rfl, Nat.zero_le _, Nat.le_refl _, rfl, by trivial⟩
  case round =>
    obtain ⟨q, j, rfl, rfl, hq, hj, HJ, hw⟩ := hrel
    subst hw
    by_cases hlt : q < n
    · have hqi : (q : Int) < (n : Int) := by omega
      obtain ⟨x, hx⟩ : ∃ x, xs[q]? = some x := ⟨xs[q]'(by rw [HN.out]; exact hlt), List.getElem?_eq_getElem _⟩
      obtain ⟨g, cur, ha, _, hc⟩ := row_get1 (i := q) (x := .bool x.2) (by have h9 := HS.out.gone; rw [HN.out] at h9; exact h9) (by rw [List.getElem?_map, hx]; rfl)
      subst ha
      obtain ⟨xm, xb⟩ := x
      have hc : wr.cell? ⟨g, q, none⟩ = some (.bool xb) := hc
      have HT : Hid (liveN (xs.take (q + 1)) = liveN (xs.take q) + if xb then 0 else 1) := by
        show _ = _
        unfold liveN
        rw [take_at hx, List.filter_append, List.length_append]
        cases xb <;> rfl
      cases xb with
      | true =>
        clear hx
        go_wp2_with fail
        go_roundw
        case rel => exact ⟨q + 1, j, by go_num, rfl, by omega, by omega, (by show _ = _; rw [HT.out]; exact HJ.out), by trivial⟩
        case measure => simp [intOf]; omega
      | false =>
        clear hx
        go_wp2_with fail
        go_roundw
        case rel => exact ⟨q + 1, j + 1, by go_num, by go_num, by omega, by omega, (by show _ = _; rw [HT.out, HJ.out]; rfl), by trivial⟩
        case measure => simp [intOf]; omega
    · obtain rfl : q = n := by omega
      have hge : ¬ (q : Int) < (q : Int) := by omega
      have HE : Hid (liveN xs = j) := by show _ = _; rw [HJ.out, List.take_of_length_le (by rw [HN.out]; exact Nat.le_refl _)]
      go_wp2_with fail
      go_ret
      exact ⟨by rw [HE.out]; rfl, rfl⟩
set_option maxHeartbeats 1600000 in
set_option maxRecDepth 100000 in
theorem sfind_any (S : Nat) (nv mv gv : Value) (xs : List SnX) (m : Int) (w : World) (h : SnAt w S nv mv gv xs) (hl : xs.length ≤ 1000000) :
    Calls Try.prog 21 #[.pointer (some ⟨S, 0, none⟩), .int .i64 m] w fun e w' => e = .returned (.int .i64 (findN xs.length m)) ∧ w' = w := by
  obtain ⟨n, hn⟩ : ∃ z, xs.length = z := ⟨_, rfl⟩
  obtain ⟨a, c, rfl, _⟩ := row_form h.nums
  have HS : Hid (SnAt w S (.slice a n c) mv gv xs) := by rw [← hn]; exact h
  have HN : Hid (xs.length = n) := hn
  rw [hn] at hl ⊢
  obtain ⟨c0, c1, c2⟩ := cells_3 HS.out.box
  obtain ⟨F, hF⟩ : ∃ z, findN n m = z := ⟨_, rfl⟩
  have HF : Hid (findN n m = F) := hF
  rw [hF]
  clear h hn hF
  go_enter Try.func21, Try.ntmps21
  go_wp2_with fail
  go_loopw [5] (fun i wr => ∃ q : Nat, i = .int .i64 q ∧ q ≤ n ∧ Hid (∀ i : Nat, i < q → m ≠ (i : Int) + 1) ∧ wr = w) (fun i _ => n - (intOf i).toNat)
  case atStart => exact ⟨0, rfl, Nat.zero_le _, (fun i hi => by omega), by trivial⟩
  case round =>
    obtain ⟨q, rfl, hq, HJ, hw⟩ := hrel
    subst hw
    by_cases hlt : q < n
    · have hqi : (q : Int) < (n : Int) := by omega
      obtain ⟨g, cur, ha, _, hc⟩ := row_get1 (i := q) (x := .int .i64 ((q : Int) + 1)) (by have h9 := HS.out.nums; rw [HN.out] at h9; exact h9) (by rw [List.getElem?_map, List.getElem?_range hlt]; rfl)
      subst ha
      by_cases he : (q : Int) + 1 = m
      · have hee : ((q : Int) + 1 == m) = true := by simpa using he
        have HE : Hid (F = q) := by show _ = _; rw [← HF.out]; unfold findN; rw [if_pos (by omega)]; omega
        clear he
        go_wp2_with fail
        go_ret
        exact ⟨by rw [HE.out]; rfl, rfl⟩
      · have hee : ((q : Int) + 1 == m) = false := by simpa using he
        have HJ2 : Hid (∀ i : Nat, i < q + 1 → m ≠ (i : Int) + 1) := fun i hi e => by
          by_cases h9 : i = q
          · subst h9; exact he e.symm
          · exact HJ.out i (by omega) e
        clear he
        go_wp2_with fail
        go_roundw
        case rel => exact ⟨q + 1, by go_num, by omega, HJ2, by trivial⟩
        case measure => simp [intOf]; omega
    · obtain rfl : q = n := by omega
      have hge : ¬ (q : Int) < (q : Int) := by omega
      have HE : Hid (F = -1) := by
        show _ = _
        rw [← HF.out]
        unfold findN
        rw [if_neg (fun h => HJ.out (m.toNat - 1) (by omega) (by omega))]
      go_wp2_with fail
      go_ret
      exact ⟨by rw [HE.out]; rfl, rfl⟩
theorem Try.info_bool : (Try.prog.info? 4).map (fun i => (i.zero, i.size, i.bytes)) = some (some (.bool false), 1, 1) := by kernel_rfl
/-- What put leaves. -/
structure SnE (w w' : World) (S : Nat) (nv mv gv : Value) (xs : List SnX) (nv' mv' gv' : Value) : Prop where
  at' : SnAt w' S nv' mv' gv' xs
  chg : Chg w w' (SnK S nv mv gv)
  new : ∀ j, SnK S nv' mv' gv' j → SnK S nv mv gv j ∨ w.heap.size ≤ j
theorem range_snoc (n : Nat) : (List.range (n + 1)).map (fun i : Nat => Value.int .i64 ((i : Int) + 1)) = (List.range n).map (fun i : Nat => Value.int .i64 ((i : Int) + 1)) ++ [.int .i64 ((n : Int) + 1)] := by
  rw [List.range_succ, List.map_append]
  rfl
set_option maxHeartbeats 3200000 in
set_option maxRecDepth 100000 in
theorem sput_ok (S : Nat) (nv mv gv : Value) (xs : List SnX) (m : MsT) (w : World) (h : SnAt w S nv mv gv xs) (hl : xs.length ≤ 1000000) :
    Calls Try.prog 34 #[.pointer (some ⟨S, 0, none⟩), .int .i64 ((xs.length : Int) + 1), m.val] w fun e w' => ∃ nv' mv' gv', e = .returned (.bool true) ∧ SnE w w' S nv mv gv (xs ++ [(m, false)]) nv' mv' gv' := by
  obtain ⟨n, hn⟩ : ∃ z, xs.length = z := ⟨_, rfl⟩
  obtain ⟨na, nc, rfl, _⟩ := row_form h.nums
  obtain ⟨ma, mc, rfl, _⟩ := row_form h.msgs
  obtain ⟨ga, gc, rfl, _⟩ := row_form h.gone
  have HS : Hid (SnAt w S (.slice na n nc) (.slice ma n mc) (.slice ga n gc) xs) := by rw [← hn]; exact h
  have HN : Hid (xs.length = n) := hn
  rw [hn] at hl ⊢
  obtain ⟨W, hW⟩ : ∃ z, w.alloc (.cells #[.int .i64 m.f, .int .i64 m.t, .string m.b] 23) = z := ⟨_, rfl⟩
  obtain ⟨g, hg⟩ : ∃ z, w.heap.size = z := ⟨_, rfl⟩
  have hb : Below w.heap.size w W := by rw [← hW]; exact (Below.refl _ _).alloc (Nat.le_refl _) _
  have HX : Hid (W.heap[g]? = some (.cells #[.int .i64 m.f, .int .i64 m.t, .string m.b] 23 (0, 0))) := by show _ = _; rw [← hW, ← hg]; exact heap_alloc_new _ _
  have HB : Hid (Below w.heap.size w W) := hb
  have HSW : Hid (SnAt W S (.slice na n nc) (.slice ma n mc) (.slice ga n gc) xs) := HS.out.below hb
  have HW : Hid (_ = W) := hW
  have HG : Hid (w.heap.size = g) := hg
  obtain ⟨c0, c1, c2⟩ := cells_3 HSW.out.box
  have f0 := free_of HSW.out.box
  have HLT : Hid (∀ j, SnK S (.slice na n nc) (.slice ma n mc) (.slice ga n gc) j → j < g) := fun j hj => by rw [← hg]; exact HS.out.lt j hj
  clear h hn hb hW hg
  go_enter Try.func34, Try.ntmps34
  go_upto_region 1 with fail
  rw [HW.out, HG.out]
  go_upto_region 4 with fail
  go_upto_region 5 with (first
    | (at_builtin; refine wpList_row Try.underlying28 Try.info_int rfl (by decide) rfl _ _ rfl 0 (.slice na n nc) n _ rfl (by have h9 := HSW.out.nums; rw [HN.out] at h9; exact owns_below h9 ((Below.refl _ _).alloc (Nat.le_refl _) _)) W.heap.size 1 [.int .i64 ((n : Int) + 1)] rfl (heap_alloc_new _ _) rfl (by simp [Value.oneCell']) (by unfold maxLen; omega) (by omega) (Nat.zero_le _) ?_
       intro v5 w5 hd5 hg5 ho5
       obtain ⟨a5, k5, hv5, _⟩ := row_form hd5
       subst hv5
       have hal : Below W.heap.size W (W.alloc (.cells #[.int .i64 ((n : Int) + 1)] 3)) := (Below.refl _ _).alloc (Nat.le_refl _) _
       have hs := HSW.out.below hal
       have hkd := Kind.own (by have h9 := hs.nums; rw [HN.out] at h9; exact h9)
       have hbx := blk_other hs.box (Chg.grown hg5) hkd (by decide)
       obtain ⟨d0, d1, d2⟩ := cells_3 hbx
       have fd := free_of hbx
       have HM5 : Hid (w5.ownsRow 0 23 3 (.slice ma n mc) n (xs.flatMap fun x => x.1.cells) ∧ w5.ownsRow 0 4 1 (.slice ga n gc) n (xs.map fun x => .bool x.2) ∧ w5.heap[g]? = some (.cells #[.int .i64 m.f, .int .i64 m.t, .string m.b] 23 (0, 0)) ∧ w5.heap[S]? = some (.cells #[.slice na n nc, .slice ma n mc, .slice ga n gc] 44 (0, 0))) := by
         have h1 := row_other hs.msgs (Chg.grown hg5) hkd (by decide)
         have h2 := row_other hs.gone (Chg.grown hg5) hkd (by decide)
         rw [HN.out] at h1 h2
         exact ⟨h1, h2, blk_other (kept_block hal HX.out) (Chg.grown hg5) hkd (by decide), hbx⟩
       have HR5 : Hid (w5.ownsRow 0 3 1 (.slice a5 (n + 1) k5) (n + 1) ((List.range (n + 1)).map fun i : Nat => .int .i64 ((i : Int) + 1))) := by
         rw [range_snoc]
         exact hd5
       have HC5 : Hid (Chg w w5 (SnK S (.slice na n nc) (.slice ma n mc) (.slice ga n gc))) := chg_ext (Chg.of_below (trans2 HB.out hal) _) (Chg.grown hg5) (fun j e => .inl (.inr (.inl e)))
       have HO5 : Hid (∀ j, (Value.slice a5 (n + 1) k5).ownBlock = some j → SnK S (.slice na n nc) (.slice ma n mc) (.slice ga n gc) j ∨ w.heap.size ≤ j) := fun j hj => by
         rcases ho5 with e | e
         · rw [e] at hj; exact .inl (.inr (.inl hj))
         · rw [e] at hj; cases hj; exact .inr (Nat.le_trans HB.out.size hal.size)
       clear hd5 hg5 ho5 hal hs hkd hbx))
  obtain ⟨W6, hW6⟩ : ∃ z, w5.setCell ⟨S, 0, none⟩ (.slice a5 (n + 1) k5) = z := ⟨_, rfl⟩
  have hc6 : Chg w5 W6 (fun j => j = S) := by rw [← hW6]; exact Chg.set w5 ⟨S, 0, none⟩ _
  have hk6 : Kind w5 (fun j => j = S) 44 := Kind.one HM5.out.2.2.2
  have HM6 : Hid (W6.ownsRow 0 23 3 (.slice ma n mc) n (xs.flatMap fun x => x.1.cells) ∧ W6.ownsRow 0 4 1 (.slice ga n gc) n (xs.map fun x => .bool x.2) ∧ W6.heap[g]? = some (.cells #[.int .i64 m.f, .int .i64 m.t, .string m.b] 23 (0, 0)) ∧ W6.heap[S]? = some (.cells #[.slice a5 (n + 1) k5, .slice ma n mc, .slice ga n gc] 44 (0, 0)) ∧ W6.ownsRow 0 3 1 (.slice a5 (n + 1) k5) (n + 1) ((List.range (n + 1)).map fun i : Nat => .int .i64 ((i : Int) + 1)) ∧ Chg w W6 (SnK S (.slice na n nc) (.slice ma n mc) (.slice ga n gc))) :=
    ⟨row_other HM5.out.1 hc6 hk6 (by decide), row_other HM5.out.2.1 hc6 hk6 (by decide), blk_other HM5.out.2.2.1 hc6 hk6 (by decide), by rw [← hW6]; exact same_blk HM5.out.2.2.2 rfl, row_other HR5.out hc6 hk6 (by decide), chg_ext HC5.out hc6 (fun j e => .inl (.inl e))⟩
  rw [hW6]
  clear hW6 hc6 hk6 c0 c1 c2 f0 d0 d1 d2 fd
  obtain ⟨c0, c1, c2⟩ := cells_3 HM6.out.2.2.2.1
  have f0 := free_of HM6.out.2.2.2.1
  obtain ⟨x0, x1, x2⟩ := cells_3 HM6.out.2.2.1
  have hby : (n + 1) * 32 ≤ 140737488355328 := by omega
  have hold : ∀ ob o, (W6.alloc ob).cell? ⟨S, o, none⟩ = W6.cell? ⟨S, o, none⟩ := fun ob o => ((Below.refl W6.heap.size W6).alloc (Nat.le_refl _) ob).cell (p := ⟨S, o, none⟩) (lt_of_blk HM6.out.2.2.2.1)
  go_region_law
    (first
    | (refine step_row Try.underlying24 Try.info_ms rfl (by decide) rfl (.tmp 31) (.tmp 33) rfl 0 (.slice ma n mc) n (xs.flatMap fun x => x.1.cells) (by simp [Act.eval, Act.put]) (owns_below HM6.out.1 ((below_drew (Below.refl _ _)).alloc (Nat.le_refl _) _)) W6.heap.size 1 m.cells (by simp [Act.eval, Act.put]) (heap_alloc_new W6.drew _) rfl (by simp [Value.oneCell']) (by unfold maxLen; omega) hby (Nat.zero_le _) ?_
       intro v7 w7 hd7 hg7 ho7
       have hal : Below W6.heap.size W6 (W6.drew.alloc (.cells m.cells.toArray 23)) := (below_drew (Below.refl _ _)).alloc (Nat.le_refl _) _
       obtain ⟨a7, k7, hv7, _⟩ := row_form hd7
       subst hv7
       have hkd := Kind.own (owns_below HM6.out.1 hal)
       have hc7 := Chg.grown hg7
       have HM7 : Hid (w7.ownsRow 0 4 1 (.slice ga n gc) n (xs.map fun x => .bool x.2) ∧ w7.heap[S]? = some (.cells #[.slice a5 (n + 1) k5, .slice ma n mc, .slice ga n gc] 44 (0, 0)) ∧ w7.ownsRow 0 3 1 (.slice a5 (n + 1) k5) (n + 1) ((List.range (n + 1)).map fun i : Nat => .int .i64 ((i : Int) + 1)) ∧ Chg w w7 (SnK S (.slice na n nc) (.slice ma n mc) (.slice ga n gc)) ∧ w7.ownsRow 0 23 3 (.slice a7 (n + 1) k7) (n + 1) ((xs ++ [(m, false)]).flatMap fun x => x.1.cells)) :=
         ⟨row_other (owns_below HM6.out.2.1 hal) hc7 hkd (by decide), blk_other (kept_block hal HM6.out.2.2.2.1) hc7 hkd (by decide), row_other (owns_below HM6.out.2.2.2.2.1 hal) hc7 hkd (by decide), chg_ext (HM6.out.2.2.2.2.2.trans (Chg.of_below hal _)) hc7 (fun j e => .inl (.inr (.inr (.inl e)))), by rw [List.flatMap_append]; simpa using hd7⟩
       have HO7 : Hid (∀ j, (Value.slice a7 (n + 1) k7).ownBlock = some j → SnK S (.slice na n nc) (.slice ma n mc) (.slice ga n gc) j ∨ w.heap.size ≤ j) := fun j hj => by
         rcases ho7 with e | e
         · rw [e] at hj; exact .inl (.inr (.inr (.inl hj)))
         · rw [e] at hj; cases hj; exact .inr (Nat.le_trans HM6.out.2.2.2.2.2.size hal.size)
       obtain ⟨d0, d1, d2⟩ := cells_3 HM7.out.2.1
       have fd := free_of HM7.out.2.1
       clear hd7 hg7 ho7 hal hkd hc7)
    | fail)
  all_goals
    obtain ⟨W8, hW8⟩ : ∃ z, w7.setCell ⟨S, 1, none⟩ (.slice a7 (n + 1) k7) = z := ⟨_, rfl⟩
    have hc8 : Chg w7 W8 (fun j => j = S) := by rw [← hW8]; exact Chg.set w7 ⟨S, 1, none⟩ _
    have hk8 : Kind w7 (fun j => j = S) 44 := Kind.one HM7.out.2.1
    have HM8 : Hid (W8.ownsRow 0 4 1 (.slice ga n gc) n (xs.map fun x => .bool x.2) ∧ W8.heap[S]? = some (.cells #[.slice a5 (n + 1) k5, .slice a7 (n + 1) k7, .slice ga n gc] 44 (0, 0)) ∧ W8.ownsRow 0 3 1 (.slice a5 (n + 1) k5) (n + 1) ((List.range (n + 1)).map fun i : Nat => .int .i64 ((i : Int) + 1)) ∧ Chg w W8 (SnK S (.slice na n nc) (.slice ma n mc) (.slice ga n gc)) ∧ W8.ownsRow 0 23 3 (.slice a7 (n + 1) k7) (n + 1) ((xs ++ [(m, false)]).flatMap fun x => x.1.cells)) :=
      ⟨row_other HM7.out.1 hc8 hk8 (by decide), by rw [← hW8]; exact same_blk HM7.out.2.1 rfl, row_other HM7.out.2.2.1 hc8 hk8 (by decide), chg_ext HM7.out.2.2.2.1 hc8 (fun j e => .inl (.inl e)), row_other HM7.out.2.2.2.2 hc8 hk8 (by decide)⟩
    rw [hW8]
    clear hW8 hc8 hk8 c0 c1 c2 f0 d0 d1 d2 fd x0 x1 x2 hold
    obtain ⟨c0, c1, c2⟩ := cells_3 HM8.out.2.1
    have f0 := free_of HM8.out.2.1
    go_wp2_with (first
      | (at_builtin; refine wpList_row Try.underlying42 Try.info_bool rfl (by decide) rfl _ _ rfl 0 (.slice ga n gc) n _ rfl (owns_below HM8.out.1 ((Below.refl _ _).alloc (Nat.le_refl _) _)) W8.heap.size 1 [.bool false] rfl (heap_alloc_new _ _) rfl (by simp [Value.oneCell']) (by unfold maxLen; omega) (by omega) (Nat.zero_le _) ?_
         intro v9 w9 hd9 hg9 ho9
         obtain ⟨a9, k9, hv9, _⟩ := row_form hd9
         subst hv9
         have hal : Below W8.heap.size W8 (W8.alloc (.cells #[.bool false] 4)) := (Below.refl _ _).alloc (Nat.le_refl _) _
         have hkd := Kind.own (owns_below HM8.out.1 hal)
         have hc9 := Chg.grown hg9
         have hbx := blk_other (kept_block hal HM8.out.2.1) hc9 hkd (by decide)
         have hcz : Chg w9 (w9.setCell ⟨S, 2, none⟩ (.slice a9 (n + 1) k9)) (fun j => j = S) := Chg.set w9 ⟨S, 2, none⟩ _
         have hkz : Kind w9 (fun j => j = S) 44 := Kind.one hbx
         have HXL : Hid ((xs ++ [(m, false)]).length = n + 1) := by show _ = _; rw [List.length_append, HN.out]; rfl
         have HF : Hid (SnE w (w9.setCell ⟨S, 2, none⟩ (.slice a9 (n + 1) k9)) S (.slice na n nc) (.slice ma n mc) (.slice ga n gc) (xs ++ [(m, false)]) (.slice a5 (n + 1) k5) (.slice a7 (n + 1) k7) (.slice a9 (n + 1) k9)) := by
           refine ⟨⟨same_blk hbx rfl, ?_, ?_, ?_⟩, chg_ext (chg_ext (HM8.out.2.2.2.1.trans (Chg.of_below hal _)) hc9 (fun j e => .inl (.inr (.inr (.inr e))))) hcz (fun j e => .inl (.inl e)), fun j hj => ?_⟩
           · rw [HXL.out]
             exact row_other (row_other (owns_below HM8.out.2.2.1 hal) hc9 hkd (by decide)) hcz hkz (by decide)
           · rw [HXL.out]
             exact row_other (row_other (owns_below HM8.out.2.2.2.2 hal) hc9 hkd (by decide)) hcz hkz (by decide)
           · rw [HXL.out, List.map_append]
             exact row_other hd9 hcz hkz (by decide)
           · rcases hj with e | e | e | e
             · exact .inl (.inl e)
             · exact HO5.out j e
             · exact HO7.out j e
             · rcases ho9 with h | h
               · rw [h] at e; exact .inl (.inr (.inr (.inr e)))
               · rw [h] at e; cases e; exact .inr (Nat.le_trans HM8.out.2.2.2.1.size hal.size)
         obtain ⟨d0, d1, d2⟩ := cells_3 hbx
         have fd := free_of hbx
         clear hd9 hg9 ho9 hal hkd hc9 hbx hcz hkz))
    go_ret
    exact ⟨_, _, _, rfl, HF.out⟩
end Go.Proofs.Ytfcobhgjkibdgaa
