/-
  note: the law's own functions about ops and entries.
-/
import Derived.Test.YtdjfeomdiljaeaaGreatDoorNtRo
import Derived.Test.YtdjfeomdiljaeaaGreatDoorNtDf
namespace Go.Proofs.YtdjfeomdiljaeaaGreatDoor
open Go.RowKit
set_option linter.unusedVariables false
set_option linter.unusedSimpArgs false

set_option maxHeartbeats 3200000 in
theorem sameO_yes (a a' : Option Addr) (c c' : Nat) (L : List OpN) (w : World) (hs : RowC w a 5 (L.map OpN.cl)) (ht : RowC w a' 5 (L.map OpN.cl)) :
    Calls Tryz.prog 29 #[.slice a L.length c, .slice a' L.length c'] w fun e w' => e = .returned (.bool true) ∧ Below w.heap.size w w' := by
  have HS : Hid (RowC w a 5 (L.map OpN.cl)) := hs
  have HT : Hid (RowC w a' 5 (L.map OpN.cl)) := ht
  have hlen := hs.len
  obtain ⟨n, hn⟩ : ∃ n, L.length = n := ⟨_, rfl⟩
  have HN : Hid (L.length = n) := hn
  rw [hn] at hlen ⊢
  clear hs ht hn
  go_enter Tryz.func29, Tryz.ntmps29
  go_wp2_with fail
  go_loopw [5] (fun i wr => ∃ q : Nat, i = .int .i64 q ∧ q ≤ n ∧ Hid (Below w.heap.size w wr)) (fun i _ => n - (intOf i).toNat)
  case atStart => exact ⟨0, rfl, Nat.zero_le _, Below.refl _ _⟩
  case round =>
    obtain ⟨q, rfl, hq, HB⟩ := hrel
    by_cases hlt : q < n
    · obtain ⟨x, hx⟩ : ∃ x, L[q]? = some x := ⟨L[q]'(by rw [HN.out]; exact hlt), List.getElem?_eq_getElem _⟩
      obtain ⟨b, o, rfl, x0, x1, x2, x3, x4⟩ := (HS.out.below HB.out).at5 (map_at hx)
      obtain ⟨b', o', rfl, y0, y1, y2, y3, y4⟩ := (HT.out.below HB.out).at5 (map_at hx)
      have hlt' : (q : Int) < (n : Int) := by omega
      clear hx
      go_wp2_with fail
      go_region_held3 (fun w' => w'.cell? ⟨b, o + q * 5, none⟩ = some (.int .i64 x.K) ∧ w'.cell? ⟨b, o + q * 5 + 1, none⟩ = some (.string x.p) ∧ w'.cell? ⟨b, o + q * 5 + 2, none⟩ = some (.string x.d) ∧ w'.cell? ⟨b, o + q * 5 + 3, none⟩ = some (.int .i64 x.v) ∧ w'.cell? ⟨b, o + q * 5 + 4, none⟩ = some (.int .i64 x.fl) ∧ w'.cell? ⟨b', o' + q * 5, none⟩ = some (.int .i64 x.K) ∧ w'.cell? ⟨b', o' + q * 5 + 1, none⟩ = some (.string x.p) ∧ w'.cell? ⟨b', o' + q * 5 + 2, none⟩ = some (.string x.d) ∧ w'.cell? ⟨b', o' + q * 5 + 3, none⟩ = some (.int .i64 x.v) ∧ w'.cell? ⟨b', o' + q * 5 + 4, none⟩ = some (.int .i64 x.fl)) (first | exact ⟨x0, x1, x2, x3, x4, y0, y1, y2, y3, y4⟩ | go_keep) (fail)
      go_wp2_with fail
      go_roundw
      case rel => exact ⟨q + 1, by go_num, by omega, below_drew HB.out⟩
      case measure => simp [intOf]; omega
    · obtain rfl : q = n := by omega
      have hge : ¬ (q : Int) < (q : Int) := by omega
      go_wp2_with fail
      go_ret
      exact ⟨rfl, HB.out⟩
set_option maxHeartbeats 3200000 in
theorem sameE_core (st vw K se rq : Int) (a a' : Option Addr) (c c' : Nat) (L : List OpN) (w : World) (hs : RowC w a 5 (L.map OpN.cl)) (ht : RowC w a' 5 (L.map OpN.cl)) :
    Calls Tryz.prog 11 #[.agg #[.int .i64 st, .int .i64 vw, .int .i64 K, .int .i64 se, .int .i64 rq, .slice a L.length c], .agg #[.int .i64 st, .int .i64 vw, .int .i64 K, .int .i64 se, .int .i64 rq, .slice a' L.length c']] w fun e w' => e = .returned (.bool true) ∧ Below w.heap.size w w' := by
  obtain ⟨g, hg⟩ : ∃ g, w.heap.size = g := ⟨_, rfl⟩
  obtain ⟨w1, hw1⟩ : ∃ w1, w.alloc (.cells #[.int .i64 st, .int .i64 vw, .int .i64 K, .int .i64 se, .int .i64 rq, .slice a L.length c] 24) = w1 := ⟨_, rfl⟩
  have HW1 : Hid (w.alloc (.cells #[.int .i64 st, .int .i64 vw, .int .i64 K, .int .i64 se, .int .i64 rq, .slice a L.length c] 24) = w1) := hw1
  have hb1 : Below w.heap.size w w1 := by rw [← hw1]; exact (Below.refl _ _).alloc (Nat.le_refl _) _
  have hs1 : w1.heap.size = g + 1 := by rw [← hw1, ← hg]; simp
  have hx1 : w1.heap[g]? = some (.cells #[.int .i64 st, .int .i64 vw, .int .i64 K, .int .i64 se, .int .i64 rq, .slice a L.length c] 24 (0, 0)) := by rw [← hw1, ← hg]; exact heap_alloc_new _ _
  obtain ⟨w2, hw2⟩ : ∃ w2, w1.alloc (.cells #[.int .i64 st, .int .i64 vw, .int .i64 K, .int .i64 se, .int .i64 rq, .slice a' L.length c'] 24) = w2 := ⟨_, rfl⟩
  have HW2 : Hid (w1.alloc (.cells #[.int .i64 st, .int .i64 vw, .int .i64 K, .int .i64 se, .int .i64 rq, .slice a' L.length c'] 24) = w2) := hw2
  have hb2 : Below w1.heap.size w1 w2 := by rw [← hw2]; exact (Below.refl _ _).alloc (Nat.le_refl _) _
  have HB2 : Hid (Below w.heap.size w w2) := xtransN hb1 hb2
  obtain ⟨c0, c1, c2, c3, c4, c5⟩ := cells_6N (kept_block hb2 hx1)
  obtain ⟨d0, d1, d2, d3, d4, d5⟩ := cells_6N (show w2.heap[g + 1]? = some (.cells #[.int .i64 st, .int .i64 vw, .int .i64 K, .int .i64 se, .int .i64 rq, .slice a' L.length c'] 24 (0, 0)) by rw [← hw2]; exact heap_new' hs1)
  have HS1 : Hid (w1.heap.size = g + 1) := hs1
  have HGG : Hid (w.heap.size = g) := hg
  have HSO : Hid _ := sameO_yes a a' c c' L w2 (hs.below HB2.out) (ht.below HB2.out)
  clear hw1 hw2 hb1 hb2 hs1 hx1 hs ht hg
  go_enter Tryz.func11, Tryz.ntmps11
  go_upto_region 1 with fail
  rw [HW1.out, HW2.out, HGG.out]
  go_wp2_with (first
    | (go_at_call 29; refine Calls.mono HSO.out ?_; rintro e w3 ⟨rfl, hb3⟩)
    | fail)
  go_ret
  exact ⟨rfl, xtransN HB2.out hb3⟩
theorem sameE_yes (x y : EnN) (w : World) (h : EnN.Eq x y) (hx : x.At w) (hy : y.At w) : Calls Tryz.prog 11 #[x.val, y.val] w fun e w' => e = .returned (.bool true) ∧ Below w.heap.size w w' := by
  obtain ⟨st, vw, K, se, rq, opsA, opsC, ops⟩ := x
  obtain ⟨st', vw', K', se', rq', opsA', opsC', ops'⟩ := y
  obtain ⟨rfl, rfl, rfl, rfl, rfl, rfl⟩ := h
  exact sameE_core st vw K se rq opsA opsA' opsC opsC' ops w hx.ops hy.ops
theorem flat_idx {E : Type} {f : E → List Value} {k : Nat} (hk : ∀ x, (f x).length = k) (hk0 : 0 < k) : ∀ (L : List E) (j : Nat) (u : Value), (L.flatMap f)[j]? = some u → ∃ x, L[j / k]? = some x ∧ (f x)[j % k]? = some u
  | [], j, u, h => by simp at h
  | y :: L, j, u, h => by
    by_cases hj : j < k
    · rw [List.flatMap_cons, List.getElem?_append_left (by rw [hk]; exact hj)] at h
      exact ⟨y, by rw [Nat.div_eq_of_lt hj]; rfl, by rw [Nat.mod_eq_of_lt hj]; exact h⟩
    · rw [List.flatMap_cons, List.getElem?_append_right (by rw [hk]; omega), hk] at h
      obtain ⟨x, h1, h2⟩ := flat_idx hk hk0 L (j - k) u h
      have e1 : j / k = (j - k) / k + 1 := by
        have : j = (j - k) + k := by omega
        rw [this, Nat.add_div_right _ hk0]
        simp
      have e2 : j % k = (j - k) % k := by
        have : j = (j - k) + k := by omega
        rw [this, Nat.add_mod_right]
        simp
      exact ⟨x, by rw [e1, List.getElem?_cons_succ]; exact h1, by rw [e2]; exact h2⟩
theorem rowC_cells {w : World} {ad : Addr} {L : List OpN} (h : RowC w (some ad) 5 (L.map OpN.cl)) : ∀ j u, (opCs L)[j]? = some u → w.cell? (ad.add j) = some u := by
  intro j u hj
  obtain ⟨x, h1, h2⟩ := flat_idx (f := OpN.cl) (k := 5) (fun _ => rfl) (by decide) L j u hj
  rcases h.2 with h0 | ⟨b, o, e, hl, hc⟩
  · have h3 : L = [] := by simpa using h0
    rw [h3] at h1
    simp at h1
  · have hab : ad = ⟨b, o, none⟩ := Option.some.inj e
    subst hab
    rw [addr_add]
    have := hc (j / 5) (j % 5) x.cl u (map_at h1) h2
    rw [show o + (j / 5 * 5 + j % 5) = o + j by omega] at this
    exact this
abbrev mkOp : OpN := ⟨-77, ⟨#[]⟩, ⟨#[]⟩, 0, 0⟩
theorem opCs_one (L : List OpN) : ∀ v ∈ opCs L, v.oneCell' = true := by
  intro v hv
  obtain ⟨x, _, hx⟩ := List.mem_flatMap.1 hv
  exact op_one x v hx
theorem opCs_len (L : List OpN) : (opCs L).length = L.length * 5 := by
  induction L with
  | nil => rfl
  | cons x L ih => simp only [opCs, List.flatMap_cons, List.length_append, List.length_cons] at ih ⊢; simp at ih ⊢; omega
set_option maxHeartbeats 3200000 in
set_option maxRecDepth 100000 in
theorem room_any (a : Option Addr) (c : Nat) (L : List OpN) (w : World) (h : RowC w a 5 (L.map OpN.cl)) (hn : a = none → c = 0) (hL : (L.length + 1) * 56 ≤ 140737488355328) :
    Calls Tryz.prog 7 #[.slice a L.length c] w fun e w' => ∃ g cap, e = .returned (.slice (some ⟨g, 0, none⟩) L.length cap) ∧ L.length + 1 ≤ cap ∧ w'.ownsRow w.heap.size 60 5 (.slice (some ⟨g, 0, none⟩) (L.length + 1) cap) (L.length + 1) (opCs (L ++ [mkOp])) ∧ Below w.heap.size w w' := by
  obtain ⟨i0, hi, hz0, hz1, hz2⟩ := info_partsN Tryz.infoOp
  have HR : Hid (RowC w a 5 (L.map OpN.cl)) := h
  have HE : Hid ((w.alloc (.cells #[] 60)).ownsRow w.heap.size 60 5 (.slice (some ⟨w.heap.size, 0, none⟩) 0 0) 0 []) := ⟨by simp, .inr ⟨w.heap.size, 0, #[], rfl, Nat.le_refl _, heap_alloc_new _ _, Nat.le_refl _, by decide, rfl, rfl⟩⟩
  have HB0 : Hid (Below w.heap.size w (w.alloc (.cells #[] 60))) := (Below.refl _ _).alloc (Nat.le_refl _) _
  have hmax : L.length ≤ maxLen := by unfold maxLen; omega
  have hfin : ∀ (v1 : Value) (w1 : World) (g4 cap4 : Nat) (w4 : World), True := fun _ _ _ _ _ => trivial
  cases a with
  | none =>
    have hc0 := hn rfl
    subst hc0
    have hL0 : L = [] := by
      rcases h.2 with h0 | ⟨b, o, e, _⟩
      · simpa using h0
      · cases e
    subst hL0
    clear h
    go_enter Tryz.func7, Tryz.ntmps7
    go_wp2_with (first
      | (at_builtin; refine wpList_append_own_none rfl _ _ 22 rfl w.heap.size 60 i0 5 Tryz.underlying22 hi _ _ _ rfl HE.out rfl ?_)
      | (at_builtin; refine wpList_appOp rfl _ _ rfl w.heap.size (.slice (some ⟨w.heap.size, 0, none⟩) 0 0) [] rfl (owns_below HE.out ((Below.refl _ _).alloc (Nat.le_refl _) _)) (w.heap.size + 1) mkOp rfl (heap_new' (by simp)) (by decide) (by simp; omega) ?_
         intro v4 w4 ho4 hb4
         obtain ⟨a4, c4, rfl, hn4, hc4, hlo4⟩ := owns_sl ho4
         have HO4 : Hid (w4.ownsRow w.heap.size 60 5 (.slice a4 ([] ++ [mkOp]).length c4) ([] ++ [mkOp]).length (opCs ([] ++ [mkOp]))) := ho4
         have HB4 : Hid (Below w.heap.size w w4) := (HB0.out.alloc (by simp) _).trans hb4
         have HC4 : Hid (1 ≤ c4) := hc4
         obtain ⟨g4, hg4⟩ : ∃ g4, a4 = some ⟨g4, 0, none⟩ := by
           rcases ho4.2 with ⟨e, h0⟩ | ⟨g, cap, cur, e, _⟩
           · simp at h0
           · injection e with e1 e2 e3
             exact ⟨g, e1⟩
         subst hg4
         have hle4 : (0 : Int) ≤ (c4 : Int) := by omega
         clear ho4 hb4 hn4 hc4 hlo4)
      | fail)
    go_ret
    exact ⟨g4, c4, rfl, HC4.out, HO4.out, HB4.out⟩
  | some ad =>
    clear h
    go_enter Tryz.func7, Tryz.ntmps7
    go_wp2_with (first
      | (have hq := HO1; clear hq; at_builtin; refine wpList_appOp rfl _ _ rfl w.heap.size _ L rfl (owns_below HO1.out ((Below.refl _ _).alloc (Nat.le_refl _) _)) w1.heap.size mkOp rfl (heap_alloc_new _ _) (by omega) (by have := HB1.out.size; rw [World.size_alloc]; omega) ?_
         intro v4 w4 ho4 hb4
         obtain ⟨a4, c4, rfl, hn4, hc4, hlo4⟩ := owns_sl ho4
         have HO4 : Hid (w4.ownsRow w.heap.size 60 5 (.slice a4 (L ++ [mkOp]).length c4) (L ++ [mkOp]).length (opCs (L ++ [mkOp]))) := ho4
         have HB4 : Hid (Below w.heap.size w w4) := (HB1.out.alloc HB1.out.size _).trans hb4
         have HC4 : Hid (L.length + 1 ≤ c4) := by show _ ≤ _; rw [List.length_append] at hc4; exact hc4
         obtain ⟨g4, hg4⟩ : ∃ g4, a4 = some ⟨g4, 0, none⟩ := by
           rcases ho4.2 with ⟨e, h0⟩ | ⟨g, cap, cur, e, _⟩
           · simp at h0
           · injection e with e1 e2 e3
             exact ⟨g, e1⟩
         subst hg4
         have hle4 : (L.length : Int) ≤ (c4 : Int) := by have := HC4.out; omega
         clear ho4 hb4 hn4 hc4 hlo4)
      | (at_builtin; refine wpList_append_own_at _ rfl _ _ 22 rfl w.heap.size 60 i0 _ 5 56 Tryz.underlying22 hi hz0 hz1 hz2 rfl (by decide) (.slice (some ⟨w.heap.size, 0, none⟩) 0 0) 0 [] rfl HE.out ad L.length c (opCs L) rfl (opCs_len L) (rowC_cells (HR.out.below HB0.out)) (opCs_one L) (by omega) (by omega) (by simp) ?_
         intro v1 w1 ho1 hg1 _ hat1
         have HO1 : Hid (w1.ownsRow w.heap.size 60 5 v1 L.length (opCs L)) := by rw [Nat.zero_add, List.nil_append] at ho1; exact ho1
         have HB1 : Hid (Below w.heap.size w w1) := HB0.out.trans ((Chg.grown hg1).below (by simp) (fun k hk e => (HE.out.lt k e).1))
         obtain ⟨a1, k1, rfl, _⟩ := owns_sl HO1.out
         clear ho1 hg1 hat1)
      | fail)
    go_ret
    have ho := HO4.out
    rw [List.length_append] at ho
    exact ⟨g4, c4, rfl, HC4.out, ho, HB4.out⟩
set_option maxHeartbeats 3200000 in
theorem marked_any (g cap : Nat) (L : List OpN) (B : Nat) (w : World) (hc : L.length + 1 ≤ cap) (hn : (L.length + 1) * 56 ≤ 140737488355328) (h : w.ownsRow B 60 5 (.slice (some ⟨g, 0, none⟩) (L.length + 1) cap) (L.length + 1) (opCs (L ++ [mkOp]))) :
    Calls Tryz.prog 12 #[.slice (some ⟨g, 0, none⟩) L.length cap] w fun e w' => e = .returned (.bool true) ∧ w' = w := by
  have hf : ∀ t u, mkOp.cl[t]? = some u → w.cell? ⟨g, L.length * 5 + t, none⟩ = some u := fun t u hu => cell_n h (flat_at (f := OpN.cl) (k := 5) (fun _ => rfl) (L ++ [mkOp]) L.length t mkOp u (by rw [List.getElem?_append_right (Nat.le_refl _), Nat.sub_self]; rfl) hu)
  have k0 := hf 0 _ rfl
  have k1 := hf 1 _ rfl
  have k2 := hf 2 _ rfl
  have k3 := hf 3 _ rfl
  have k4 := hf 4 _ rfl
  rw [Nat.add_zero] at k0
  have hle : (L.length : Int) + 1 ≤ (cap : Int) := by omega
  have hlt : (L.length : Int) < (L.length : Int) + 1 := by omega
  clear h hf
  go_enter Tryz.func12, Tryz.ntmps12
  go_wp2_with fail
  go_ret
  exact ⟨rfl, rfl⟩
end Go.Proofs.YtdjfeomdiljaeaaGreatDoor
