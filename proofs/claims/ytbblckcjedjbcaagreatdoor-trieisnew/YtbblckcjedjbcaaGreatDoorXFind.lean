/-
  trie: find, by slices.BinarySearchFunc.
-/
import Derived.Test.YtbblckcjedjbcaaGreatDoorXTag
namespace Go.Proofs.YtbblckcjedjbcaaGreatDoor
open Go.RowKit Go.Maps Go.Sort
set_option linter.unusedVariables false
set_option linter.unusedSimpArgs false

set_option maxHeartbeats 16000000 in
set_option maxRecDepth 100000 in
theorem cmpH (h : He) (s i : Int) (w : World) (hh : HdAt w h) :
    Calls Tryz.prog 71 #[h.ptr, tagV s i] w fun e w' => e = .returned (.int .i64 (ctI h.s h.i s i)) ∧ Below w.heap.size w w' := by
  have hy : (w.alloc (.cells #[.int .i64 s, .int .i64 i] 34)).heap[w.heap.size]? = some (.cells #[.int .i64 s, .int .i64 i] 34 (0, 0)) := heap_alloc_new _ _
  obtain ⟨y0, y1⟩ := cells_2 hy
  have HY : Hid _ := hy
  have HH : Hid (HdAt w h) := hh
  clear hh hy
  go_enter Tryz.func71, Tryz.ntmps71
  go_wp2
  go_region_held3 (fun w' => w'.cell? ⟨w.heap.size, 0, none⟩ = some (.int .i64 s) ∧ w'.cell? ⟨w.heap.size, 1, none⟩ = some (.int .i64 i)) (first | go_keep | exact ⟨y0, y1⟩)
    (first
      | (go_at_call 33; refine (tag_any h _ (HH.out.below (below_drew ((Below.refl _ _).alloc (Nat.le_refl _) _)))).mono ?_; rintro e w1 ⟨rfl, hb1⟩
         have HB1 : Hid (Below w.heap.size w w1) := xtrans2 (below_drew ((Below.refl _ _).alloc (Nat.le_refl _) _)) hb1
         clear y0 y1
         have HY1 : Hid _ := kept_block hb1 HY.out
         obtain ⟨y0, y1⟩ := cells_2 HY1.out
         clear hb1)
      | (go_at_call 35; refine (order_tags _ _ _ _ _).mono ?_; rintro e w2 ⟨rfl, hg2⟩
         have HB2 : Hid (Below w.heap.size w w2) := xtrans2 HB1.out hg2.below
         clear y0 y1
         obtain ⟨y0, y1⟩ := cells_2 (kept_block hg2.below HY1.out)))
  go_wp2_with fail
  go_ret
  exact ⟨rfl, HB2.out⟩
/-- A list of pointers to helds in memory. -/
def Hl (w : World) (a : Option Addr) (c : Nat) (l : List He) : Prop := w.ownsRow 0 91 1 (.slice a l.length c) l.length (ptrs l) ∧ ∀ h ∈ l, HdAt w h
theorem Hl.below {w w' : World} {a : Option Addr} {c : Nat} {l : List He} (h : Hl w a c l) (hb : Below w.heap.size w w') : Hl w' a c l := ⟨owns_below h.1 hb, fun x hx => (h.2 x hx).below hb⟩
theorem Hl.at {w : World} {a : Option Addr} {c : Nat} {l : List He} (h : Hl w a c l) {i : Nat} {x : He} (hx : l[i]? = some x) : ∃ g, a = some ⟨g, 0, none⟩ ∧ w.cell? ⟨g, i, none⟩ = some x.ptr ∧ HdAt w x := by
  rcases h.1.2 with ⟨h0, h1⟩ | ⟨g, cap, cur, hv, _⟩
  · have : l = [] := by simpa using h1
    subst this
    simp at hx
  · have hv' := hv
    simp only [Value.slice.injEq] at hv'
    obtain ⟨rfl, _, rfl⟩ := hv'
    exact ⟨g, rfl, cell_n h.1 (ptrs_at hx), h.2 x (List.mem_of_getElem? hx)⟩
theorem Hl.cap {w : World} {a : Option Addr} {c : Nat} {l : List He} (h : Hl w a c l) : l.length ≤ c ∧ c ≤ maxLen := by
  rcases h.1.2 with ⟨h0, h1⟩ | ⟨g, cap, cur, hv, _, _, hn, hc, _⟩
  · simp only [Value.slice.injEq] at h0
    exact ⟨by omega, by rw [h0.2.2]; exact Nat.zero_le _⟩
  · simp only [Value.slice.injEq] at hv
    rw [hv.2.2]
    exact ⟨hn, hc⟩
def hasH (l : List He) (s i : Int) : Bool := l.any (fun h => decide (h.s = s) && decide (h.i = i))
theorem hasH_iff {l : List He} {s i : Int} : hasH l s i = true ↔ ∃ h ∈ l, h.s = s ∧ h.i = i := by
  unfold hasH
  rw [List.any_eq_true]
  simp
theorem hasH_none {l : List He} {s i : Int} (h : ∀ (q : Nat) (x : He), q < l.length → l[q]? = some x → befB x.s x.i s i = true) : hasH l s i = false := by
  rw [Bool.eq_false_iff]
  intro hp
  obtain ⟨x, hx, h1, h2⟩ := hasH_iff.1 hp
  obtain ⟨j, hj⟩ := List.getElem?_of_mem hx
  have := h j x (List.getElem?_eq_some_iff.1 hj).1 hj
  rw [h1, h2, bef_irr] at this
  cases this
theorem hasH_at {l : List He} {s i : Int} {n : Nat} {x : He} (ho : Ord l) (hx : l[n]? = some x) (h1 : ∀ (q : Nat) (x : He), q < n → l[q]? = some x → befB x.s x.i s i = true) (h2 : ∀ (q : Nat) (x : He), n ≤ q → l[q]? = some x → befB x.s x.i s i = false) : hasH l s i = (ctI x.s x.i s i == 0) := by
  by_cases h0 : ctI x.s x.i s i = 0
  · rw [h0]
    obtain ⟨e1, e2⟩ := (ct_zero _ _ _ _).1 h0
    exact hasH_iff.2 ⟨x, List.mem_of_getElem? hx, e1, e2⟩
  · have : (ctI x.s x.i s i == 0) = false := by simpa using h0
    rw [this, Bool.eq_false_iff]
    intro hp
    obtain ⟨y, hy, e1, e2⟩ := hasH_iff.1 hp
    obtain ⟨j, hj⟩ := List.getElem?_of_mem hy
    rcases Nat.lt_trichotomy j n with h | h | h
    · have := h1 j y h hj
      rw [e1, e2, bef_irr] at this
      cases this
    · subst h
      rw [hx] at hj
      cases hj
      exact h0 ((ct_zero _ _ _ _).2 ⟨e1, e2⟩)
    · have h3 := List.pairwise_iff_getElem.1 ho n j (List.getElem?_eq_some_iff.1 hx).1 (List.getElem?_eq_some_iff.1 hj).1 h
      rw [(List.getElem?_eq_some_iff.1 hx).2, (List.getElem?_eq_some_iff.1 hj).2] at h3
      have h4 := h2 n x (Nat.le_refl _) hx
      rw [befH, e1, e2, h4] at h3
      cases h3
/-- Where a watch stands, or would stand. -/
structure Stood (l : List He) (s i : Int) (n : Nat) : Prop where
  le : n ≤ l.length
  lo : ∀ (q : Nat) (x : He), q < n → l[q]? = some x → befB x.s x.i s i = true
  hi : ∀ (q : Nat) (x : He), n ≤ q → l[q]? = some x → befB x.s x.i s i = false
abbrev cmpHV : Value := .func (.func 71) #[] #[]
set_option maxHeartbeats 3200000 in
set_option maxRecDepth 100000 in
theorem searchH (a : Option Addr) (c : Nat) (l : List He) (s i : Int) (w : World) (hs : Hl w a c l) (hl : l.length ≤ 100000) (ho : Ord l) :
    Calls Tryz.prog 70 #[.slice a l.length c, tagV s i, cmpHV] w fun e w' => ∃ n : Nat, e = .returned (.tuple #[.int .i64 n, .bool (hasH l s i)]) ∧ Stood l s i n ∧ Below w.heap.size w w' := by
  have hy : (w.alloc (.cells #[.int .i64 s, .int .i64 i] 34)).heap[w.heap.size]? = some (.cells #[.int .i64 s, .int .i64 i] 34 (0, 0)) := heap_alloc_new _ _
  have HW : Hid (Below w.heap.size w (w.alloc (.cells #[.int .i64 s, .int .i64 i] 34))) := (Below.refl _ _).alloc (Nat.le_refl _) _
  have HS : Hid (Hl (w.alloc (.cells #[.int .i64 s, .int .i64 i] 34)) a c l) := hs.below ((Below.refl _ _).alloc (Nat.le_refl _) _)
  have HY : Hid _ := hy
  have HO : Hid (Ord l) := ho
  clear hs ho hy
  go_enter Tryz.func70, Tryz.ntmps70
  go_wp2_with fail
  obtain ⟨W, hW⟩ : ∃ W, W = w.alloc (.cells #[.int .i64 s, .int .i64 i] 34) := ⟨_, rfl⟩
  rw [← hW] at HS HY HW ⊢
  have HWE : Hid (W = w.alloc (.cells #[.int .i64 s, .int .i64 i] 34)) := hW
  clear hW
  go_loopw [9, 10] (fun vi vj wr => ∃ q j : Nat, vi = .int .i64 q ∧ vj = .int .i64 j ∧ q ≤ j ∧ j ≤ l.length ∧ Hid (∀ (t : Nat) (x : He), t < q → l[t]? = some x → befB x.s x.i s i = true) ∧ Hid (∀ (t : Nat) (x : He), j ≤ t → l[t]? = some x → befB x.s x.i s i = false) ∧ Hid (Below W.heap.size W wr)) (fun vi vj _ => (intOf vj).toNat - (intOf vi).toNat)
  case atStart => exact ⟨0, l.length, rfl, rfl, Nat.zero_le _, Nat.le_refl _, fun q x h _ => absurd h (Nat.not_lt_zero _), fun q x h hx => (by rw [List.getElem?_eq_none h] at hx; cases hx), Below.refl _ _⟩
  case round =>
    obtain ⟨q, j, rfl, rfl, hij, hj, HI, HJ, HB⟩ := hrel
    have hyr := kept_block HB.out HY.out
    obtain ⟨y0, y1⟩ := cells_2 hyr
    clear hyr
    by_cases hlt : q < j
    · have hlt' : (q : Int) < (j : Int) := by omega
      have hhl : (q + j) / 2 < l.length := by omega
      obtain ⟨x, hx⟩ : ∃ x, l[(q + j) / 2]? = some x := ⟨l[(q + j) / 2], List.getElem?_eq_getElem hhl⟩
      obtain ⟨g, rfl, x0, hh⟩ := (HS.out.below HB.out).at hx
      have HCM : Hid _ := fun m => cmpH x s i (wr.drewN m) hh
      have HX : Hid (l[(q + j) / 2]? = some x) := hx
      clear hx hh
      obtain ⟨r, hr⟩ : ∃ r, ctI x.s x.i s i = r := ⟨_, rfl⟩
      have HR : Hid (ctI x.s x.i s i = r) := hr
      rw [hr] at HCM
      clear hr
      have hm1 : (0 : Int) ≤ ((q : Int) + (j : Int)) / 2 := by omega
      have hm2 : ((q : Int) + (j : Int)) / 2 < (l.length : Int) := by omega
      have hm3 : (((q : Int) + (j : Int)) / 2).toNat = (q + j) / 2 := by omega
      have hm4 : (((q + j) / 2 : Nat) : Int) < (l.length : Int) := by omega
      go_wp2_with fail
      go_region_held3 (fun w' => w'.cell? ⟨g, (q + j) / 2, none⟩ = some x.ptr ∧ w'.cell? ⟨w.heap.size, 0, none⟩ = some (.int .i64 s) ∧ w'.cell? ⟨w.heap.size, 1, none⟩ = some (.int .i64 i)) (first | go_keep | exact ⟨x0, y0, y1⟩)
        (first
          | (go_at_call 71; refine (HCM.out _).mono ?_; rintro e w1 ⟨rfl, hb1⟩
             clear y0 y1 x0
             have HB1 : Hid (Below W.heap.size W w1) := xtrans2 HB.out (of_drew hb1)
             obtain ⟨y0, y1⟩ := cells_2 (kept_block HB1.out HY.out)
             have x0 : w1.cell? ⟨g, (q + j) / 2, none⟩ = some x.ptr := by
               obtain ⟨g', e, x0, _⟩ := (HS.out.below HB1.out).at HX.out
               cases e
               exact x0))
      by_cases hneg : r < 0
      · have h1 : befB x.s x.i s i = true := (ct_neg _ _ _ _).1 (by rw [HR.out]; exact hneg)
        have H1 : Hid (befB x.s x.i s i = true) := h1
        clear h1
        go_wp2_with fail
        go_roundw
        case rel =>
          refine ⟨(q + j) / 2 + 1, j, by go_num, rfl, by omega, hj, fun t y ht hy => ?_, HJ.out, HB1.out⟩
          by_cases he : t = (q + j) / 2
          · subst he
            rw [HX.out] at hy
            cases hy
            exact H1.out
          · have h3 := List.pairwise_iff_getElem.1 HO.out t ((q + j) / 2) (List.getElem?_eq_some_iff.1 hy).1 hhl (by omega)
            rw [(List.getElem?_eq_some_iff.1 hy).2, (List.getElem?_eq_some_iff.1 HX.out).2] at h3
            exact bef_trans h3 H1.out
        case measure => simp [intOf]; omega
      · have h1 : befB x.s x.i s i = false := by
          rw [Bool.eq_false_iff]
          intro h
          have := (ct_neg _ _ _ _).2 h
          rw [HR.out] at this
          exact hneg this
        have H1 : Hid (befB x.s x.i s i = false) := h1
        clear h1
        go_wp2_with fail
        go_roundw
        case rel =>
          refine ⟨q, (q + j) / 2, rfl, by go_num, by omega, by omega, HI.out, fun t y ht hy => ?_, HB1.out⟩
          by_cases he : t = (q + j) / 2
          · subst he
            rw [HX.out] at hy
            cases hy
            exact H1.out
          · have h3 := List.pairwise_iff_getElem.1 HO.out ((q + j) / 2) t hhl (List.getElem?_eq_some_iff.1 hy).1 (by omega)
            rw [(List.getElem?_eq_some_iff.1 hy).2, (List.getElem?_eq_some_iff.1 HX.out).2] at h3
            rw [Bool.eq_false_iff]
            intro h4
            have h5 := bef_trans h3 h4
            rw [H1.out] at h5
            cases h5
        case measure => simp [intOf]; omega
    · obtain rfl : q = j := by omega
      have hge : ¬ (q : Int) < (q : Int) := by omega
      have HST : Hid (Stood l s i q) := ⟨hj, HI.out, HJ.out⟩
      by_cases hn : q < l.length
      · have hn' : (q : Int) < (l.length : Int) := by omega
        obtain ⟨x, hx⟩ : ∃ x, l[q]? = some x := ⟨l[q], List.getElem?_eq_getElem hn⟩
        obtain ⟨g, rfl, x0, hh⟩ := (HS.out.below HB.out).at hx
        have HCM : Hid _ := fun m => cmpH x s i (wr.drewN m) hh
        have HX : Hid (l[q]? = some x) := hx
        have HEQ : Hid (hasH l s i = (ctI x.s x.i s i == 0)) := hasH_at HO.out hx HI.out HJ.out
        clear hx hh
        obtain ⟨r, hr⟩ : ∃ r, ctI x.s x.i s i = r := ⟨_, rfl⟩
        rw [hr] at HCM HEQ
        clear hr
        have hdn : decide ((q : Int) < (l.length : Int)) = true := by simpa using hn'
        go_wp2_with fail
        go_region_held3 (fun w' => w'.cell? ⟨g, q, none⟩ = some x.ptr ∧ w'.cell? ⟨w.heap.size, 0, none⟩ = some (.int .i64 s) ∧ w'.cell? ⟨w.heap.size, 1, none⟩ = some (.int .i64 i)) (first | go_keep | exact ⟨x0, y0, y1⟩)
          (first
            | (go_at_call 71; refine (HCM.out _).mono ?_; rintro e w1 ⟨rfl, hb1⟩
               clear y0 y1 x0
               have HB1 : Hid (Below W.heap.size W w1) := xtrans2 HB.out (of_drew hb1)
               obtain ⟨y0, y1⟩ := cells_2 (kept_block HB1.out HY.out)
               have x0 : w1.cell? ⟨g, q, none⟩ = some x.ptr := by
                 obtain ⟨g', e, x0, _⟩ := (HS.out.below HB1.out).at HX.out
                 cases e
                 exact x0))
        go_wp2_with fail
        go_ret2
        exact ⟨q, by rw [HEQ.out]; rfl, HST.out, xtrans2 HW.out HB1.out⟩
      · have hn' : ¬ (q : Int) < (l.length : Int) := by omega
        have HEQ : Hid (hasH l s i = false) := hasH_none (fun t x hq hx => HI.out t x (by omega) hx)
        have hdn : decide ((q : Int) < (l.length : Int)) = false := by simpa using hn'
        go_wp2_with fail
        go_quiet (fail)
        go_wp2_with fail
        go_ret2
        exact ⟨q, by rw [HEQ.out]; rfl, HST.out, xtrans2 HW.out (below_drewN HB.out _)⟩
end Go.Proofs.YtbblckcjedjbcaaGreatDoor
