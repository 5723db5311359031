import Derived.Test.YtbblckcjedjbcaaGreatDoorXBase
import Derived.Sort.Grow
namespace Go.Proofs.YtbblckcjedjbcaaGreatDoor
open Go.RowKit Go.Maps
set_option linter.unusedVariables false
set_option linter.unusedSimpArgs false

/-- A watch that is held: where it lies, its session, and the watch. -/
structure He where
  b : Nat
  s : Int
  i : Int
  p : ByteArray
  k : Int
  f : Int
abbrev He.ptr (h : He) : Value := .pointer (some ⟨h.b, 0, none⟩)
abbrev He.cs (h : He) : List Value := [.int .i64 h.s, .int .i64 h.i, .string h.p, .int .i64 h.k, .int .i64 h.f]
def ptrs (l : List He) : List Value := l.map He.ptr
theorem ptrs_len (l : List He) : (ptrs l).length = l.length := by simp [ptrs]
theorem ptrs_at {l : List He} {i : Nat} {h : He} (hi : l[i]? = some h) : (ptrs l)[i]? = some h.ptr := by simp [ptrs, hi]
theorem ptrs_append (l m : List He) : ptrs (l ++ m) = ptrs l ++ ptrs m := by simp [ptrs]
theorem ptrs_one (l : List He) (v : Value) (h : v ∈ ptrs l) : v.oneCell' = true := by
  obtain ⟨x, _, rfl⟩ := List.mem_map.1 h
  rfl
/-- What cmp.Compare says. -/
def cmpI (x y : Int) : Int := if x < y then -1 else if y < x then 1 else 0
/-- What the order of tags says. -/
def ctI (s i s' i' : Int) : Int := if cmpI s s' = 0 then cmpI i i' else cmpI s s'
def befB (s i s' i' : Int) : Bool := decide (s < s') || (decide (s = s') && decide (i < i'))
theorem ct_neg (s i s' i' : Int) : ctI s i s' i' < 0 ↔ befB s i s' i' = true := by
  unfold ctI cmpI befB
  simp only [Bool.or_eq_true, Bool.and_eq_true, decide_eq_true_eq]
  repeat' split
  all_goals omega
theorem ct_zero (s i s' i' : Int) : ctI s i s' i' = 0 ↔ (s = s' ∧ i = i') := by
  unfold ctI cmpI
  repeat' split
  all_goals omega
theorem ct_range (s i s' i' : Int) : ctI s i s' i' = -1 ∨ ctI s i s' i' = 0 ∨ ctI s i s' i' = 1 := by
  unfold ctI cmpI
  repeat' split
  all_goals omega
theorem bef_trans {a b c d e f : Int} (h : befB a b c d = true) (g : befB c d e f = true) : befB a b e f = true := by
  unfold befB at *
  simp only [Bool.or_eq_true, Bool.and_eq_true, decide_eq_true_eq] at *
  omega
theorem bef_irr (a b : Int) : befB a b a b = false := by
  unfold befB
  simp
theorem bef_asymm {a b c d : Int} (h : befB a b c d = true) : befB c d a b = false := by
  cases g : befB c d a b with
  | false => rfl
  | true =>
    have e := bef_trans h g
    rw [bef_irr] at e
    cases e
theorem bef_total {a b c d : Int} (h : befB a b c d = false) (hne : ¬ (a = c ∧ b = d)) : befB c d a b = true := by
  unfold befB at *
  simp only [Bool.or_eq_false_iff, Bool.and_eq_false_iff, decide_eq_false_iff_not, Bool.or_eq_true, Bool.and_eq_true, decide_eq_true_eq] at *
  omega
abbrev befH (a b : He) : Bool := befB a.s a.i b.s b.i
/-- By sessions, then ids; each once. -/
def Ord (l : List He) : Prop := l.Pairwise (fun a b => befH a b = true)
theorem Ord.filter {l : List He} (h : Ord l) (f : He → Bool) : Ord (l.filter f) := List.Pairwise.filter _ h
theorem Ord.key {l : List He} (h : Ord l) {x y : He} (hx : x ∈ l) (hy : y ∈ l) (hs : x.s = y.s) (hi : x.i = y.i) : x = y := by
  induction l with
  | nil => cases hx
  | cons a r ih =>
    have h1 := List.pairwise_cons.1 h
    rcases List.mem_cons.1 hx with rfl | hx'
    · rcases List.mem_cons.1 hy with rfl | hy'
      · rfl
      · have := h1.1 y hy'
        rw [befH, hs, hi, bef_irr] at this
        cases this
    · rcases List.mem_cons.1 hy with rfl | hy'
      · have := h1.1 x hx'
        rw [befH, hs, hi, bef_irr] at this
        cases this
      · exact ih h1.2 hx' hy'
/-- A list that says true first and false then. -/
theorem split_filter {α : Type} (P : α → Bool) : ∀ (l : List α) (n : Nat), (∀ q x, q < n → l[q]? = some x → P x = true) → (∀ q x, n ≤ q → l[q]? = some x → P x = false) → l.take n = l.filter P ∧ l.drop n = l.filter (fun x => !P x)
  | [], n, _, _ => by simp
  | a :: r, 0, h1, h2 => by
    have hf : ∀ x ∈ a :: r, P x = false := fun x hx => by
      obtain ⟨q, hq⟩ := List.getElem?_of_mem hx
      exact h2 q x (Nat.zero_le _) hq
    refine ⟨?_, ?_⟩
    · rw [List.take_zero, eq_comm, List.filter_eq_nil_iff]
      intro x hx
      rw [hf x hx]
      simp
    · rw [List.drop_zero, eq_comm, List.filter_eq_self]
      intro x hx
      rw [hf x hx]
      rfl
  | a :: r, n + 1, h1, h2 => by
    have ha := h1 0 a (Nat.succ_pos _) rfl
    obtain ⟨e1, e2⟩ := split_filter P r n (fun q x hq hx => h1 (q + 1) x (by omega) hx) (fun q x hq hx => h2 (q + 1) x (by omega) hx)
    refine ⟨?_, ?_⟩
    · rw [List.take_succ_cons, e1, List.filter_cons, if_pos ha]
    · rw [List.drop_succ_cons, e2, List.filter_cons, ha]
      rfl
/-- One more, at its place. -/
def insH (h : He) (l : List He) : List He := l.filter (fun x => befH x h) ++ h :: l.filter (fun x => !befH x h)
theorem ins_at {l : List He} {h : He} {n : Nat} (h1 : ∀ q x, q < n → l[q]? = some x → befH x h = true) (h2 : ∀ q x, n ≤ q → l[q]? = some x → befH x h = false) : l.take n ++ h :: l.drop n = insH h l := by
  obtain ⟨e1, e2⟩ := split_filter (fun x => befH x h) l n h1 h2
  rw [e1, e2]
  rfl
theorem ins_len (h : He) (l : List He) : (insH h l).length = l.length + 1 := by
  have h1 : (l.filter (fun x => befH x h)).length + (l.filter (fun x => !befH x h)).length = l.length := by
    induction l with
    | nil => rfl
    | cons a r ih =>
      cases e : befH a h
      · simp only [List.filter_cons, e]; simp; omega
      · simp only [List.filter_cons, e]; simp; omega
  unfold insH
  rw [List.length_append, List.length_cons]
  omega
theorem ins_mem {h x : He} {l : List He} : x ∈ insH h l ↔ x = h ∨ x ∈ l := by
  unfold insH
  rw [List.mem_append, List.mem_cons, List.mem_filter, List.mem_filter]
  cases befH x h
  · simp
  · simp
    exact Or.comm
theorem parts_all {l : List He} (ho : Ord l) (h : He) : l.filter (fun x => befH x h) ++ l.filter (fun x => !befH x h) = l := by
  induction l with
  | nil => rfl
  | cons a r ih =>
    have h1 := List.pairwise_cons.1 ho
    cases e : befH a h
    · have hn : r.filter (fun x => befH x h) = [] := by
        rw [List.filter_eq_nil_iff]
        intro x hx hb
        have e2 : befH a h = true := bef_trans (h1.1 x hx) hb
        rw [e2] at e
        cases e
      have := ih h1.2
      rw [hn, List.nil_append] at this
      simp only [List.filter_cons, e, hn, this]
      simp
    · have := ih h1.2
      simp only [List.filter_cons, e]
      simp only [Bool.not_true]
      simp
      simpa using this
theorem ins_filter (f : He → Bool) (h : He) {l : List He} (ho : Ord l) : (insH h l).filter f = if f h then insH h (l.filter f) else l.filter f := by
  have e : ∀ g : He → Bool, (l.filter g).filter f = (l.filter f).filter g := fun g => by
    rw [List.filter_filter, List.filter_filter]
    congr 1
    funext x
    exact Bool.and_comm _ _
  unfold insH
  rw [List.filter_append, List.filter_cons, e, e]
  split
  · rfl
  · exact parts_all (ho.filter f) h
theorem ins_ord {h : He} {l : List He} (ho : Ord l) (hn : ∀ x ∈ l, ¬ (x.s = h.s ∧ x.i = h.i)) : Ord (insH h l) := by
  unfold insH Ord
  rw [List.pairwise_append, List.pairwise_cons]
  refine ⟨ho.filter _, ⟨fun x hx => ?_, ho.filter _⟩, fun x hx y hy => ?_⟩
  · obtain ⟨h1, h2⟩ := List.mem_filter.1 hx
    exact bef_total (by simpa using h2) (hn x h1)
  · have h1 := (List.mem_filter.1 hx).2
    rcases List.mem_cons.1 hy with rfl | hy
    · exact h1
    · obtain ⟨h3, h2⟩ := List.mem_filter.1 hy
      exact bef_trans h1 (bef_total (by simpa using h2) (hn y h3))
theorem ins_new {h : He} {l : List He} (hl : l = []) : insH h l = [h] := by subst hl; rfl
/-- One less. -/
def delH (s i : Int) (l : List He) : List He := l.filter (fun x => !(decide (x.s = s) && decide (x.i = i)))
theorem del_mem {s i : Int} {l : List He} {x : He} : x ∈ delH s i l ↔ x ∈ l ∧ ¬ (x.s = s ∧ x.i = i) := by
  unfold delH
  rw [List.mem_filter]
  simp
  intro _
  omega
theorem del_filter (s i : Int) (f : He → Bool) (l : List He) : (delH s i l).filter f = delH s i (l.filter f) := by
  unfold delH
  rw [List.filter_filter, List.filter_filter]
  congr 1
  funext x
  exact Bool.and_comm _ _
theorem del_ord {s i : Int} {l : List He} (h : Ord l) : Ord (delH s i l) := h.filter _
theorem del_none {s i : Int} {l : List He} (h : ∀ x ∈ l, ¬ (x.s = s ∧ x.i = i)) : delH s i l = l := by
  unfold delH
  rw [List.filter_eq_self]
  intro x hx
  have := h x hx
  simp
  omega
theorem del_at : ∀ {l : List He} {h : He} {n : Nat}, Ord l → l[n]? = some h → l.take n ++ l.drop (n + 1) = delH h.s h.i l
  | [], _, _, _, hn => by simp at hn
  | a :: r, h, 0, ho, hn => by
    have h1 := List.pairwise_cons.1 ho
    obtain rfl : a = h := by simpa using hn
    have h2 : delH a.s a.i r = r := del_none (fun x hx hc => by
      have := h1.1 x hx
      rw [befH, hc.1, hc.2, bef_irr] at this
      cases this)
    have e : delH a.s a.i (a :: r) = delH a.s a.i r := by simp [delH]
    rw [e, h2]
    rfl
  | a :: r, h, n + 1, ho, hn => by
    have h1 := List.pairwise_cons.1 ho
    have hr : r[n]? = some h := by simpa using hn
    have h2 := del_at h1.2 hr
    have h3 := h1.1 h (List.mem_of_getElem? hr)
    have e : delH h.s h.i (a :: r) = a :: delH h.s h.i r := by
      unfold delH
      rw [List.filter_cons, if_pos]
      have h4 : ¬ (a.s = h.s ∧ a.i = h.i) := fun hc => by
        rw [befH, hc.1, hc.2, bef_irr] at h3
        cases h3
      simp
      omega
    rw [e, ← h2]
    rfl
theorem del_len {l : List He} {h : He} (ho : Ord l) (hm : h ∈ l) : (delH h.s h.i l).length + 1 = l.length := by
  obtain ⟨n, hn⟩ := List.getElem?_of_mem hm
  have hl := (List.getElem?_eq_some_iff.1 hn).1
  rw [← del_at ho hn]
  simp
  omega
end Go.Proofs.YtbblckcjedjbcaaGreatDoor
namespace Go.Proofs.YtbblckcjedjbcaaGreatDoor
open Go.RowKit Go.Maps Go.Sort
set_option linter.unusedVariables false
set_option linter.unusedSimpArgs false

theorem xtrans2 {w w1 w2 : World} (h1 : Below w.heap.size w w1) (h2 : Below w1.heap.size w1 w2) : Below w.heap.size w w2 := h1.trans (h2.mono h1.size)
theorem nanX (x : Int) (w : World) :
    Calls Tryz.prog 57 #[.int .i64 x] w fun e w' => e = .returned (.bool false) ∧ w' = w := by
  go_enter Tryz.func57, Tryz.ntmps57
  go_wp2
  go_ret
  exact ⟨rfl, rfl⟩
theorem compX (x y : Int) (w : World) :
    Calls Tryz.prog 28 #[.int .i64 x, .int .i64 y] w fun e w' => e = .returned (.int .i64 (cmpI x y)) ∧ w' = w := by
  unfold cmpI
  by_cases h : x < y
  · rw [if_pos h]
    go_enter Tryz.func28, Tryz.ntmps28
    go_wp2
    go_ret
    exact ⟨rfl, rfl⟩
  · rw [if_neg h]
    by_cases h' : y < x
    · rw [if_pos h']
      go_enter Tryz.func28, Tryz.ntmps28
      go_wp2
      go_ret
      exact ⟨rfl, rfl⟩
    · rw [if_neg h']
      go_enter Tryz.func28, Tryz.ntmps28
      go_wp2
      go_ret
      exact ⟨rfl, rfl⟩
/-- The first that is not 0. -/
def orI (x y : Int) : Int := if x = 0 then y else x
set_option maxHeartbeats 4000000 in
theorem orX (b : Nat) (x y : Int) (w : World) (hb : w.heap[b]? = some (.cells #[.int .i64 x, .int .i64 y] 3 (0, 0))) :
    Calls Tryz.prog 64 #[.slice (some ⟨b, 0, none⟩) 2 2] w fun e w' => e = .returned (.int .i64 (orI x y)) ∧ w' = w := by
  unfold orI
  obtain ⟨x0, x1⟩ := cells_2 hb
  clear hb
  go_enter Tryz.func64, Tryz.ntmps64
  go_wp2
  go_loopw [8] (fun vi wr => ∃ k : Nat, vi = .int .i64 k ∧ k ≤ 2 ∧ (1 ≤ k → x = 0) ∧ (2 ≤ k → y = 0) ∧ wr = w) (fun vi _ => 2 - (intOf vi).toNat)
  case atStart => exact ⟨0, rfl, by omega, fun h => by omega, fun h => by omega, rfl⟩
  case round =>
    obtain ⟨k, rfl, hk, h1, h2, rfl⟩ := hrel
    rcases Nat.lt_or_ge k 2 with hlt | hge
    · rcases (show k = 0 ∨ k = 1 by omega) with rfl | rfl
      · by_cases hx : x = 0
        · subst hx
          go_wp2
          go_roundw
          case rel => exact ⟨1, rfl, by omega, by simp, by simp, by simp⟩
          case measure => simp [intOf]
        · go_wp2
          go_ret
          exact ⟨rfl, rfl⟩
      · have hx := h1 (by omega)
        subst hx
        by_cases hy : y = 0
        · subst hy
          go_wp2
          go_roundw
          case rel => exact ⟨2, rfl, by omega, by simp, by simp, by simp⟩
          case measure => simp [intOf]
        · go_wp2
          go_ret
          exact ⟨rfl, rfl⟩
    · obtain rfl : k = 2 := by omega
      have hx := h1 (by omega)
      have hy := h2 (by omega)
      subst hx
      subst hy
      go_wp2
      go_ret
      exact ⟨rfl, rfl⟩
abbrev tagV (s i : Int) : Value := .agg #[.int .i64 s, .int .i64 i]
/-- A held watch in memory. -/
def HdAt (w : World) (h : He) : Prop := w.heap[h.b]? = some (.cells #[.int .i64 h.s, .int .i64 h.i, .string h.p, .int .i64 h.k, .int .i64 h.f] 98 (0, 0))
theorem HdAt.below {w w' : World} {h : He} (hh : HdAt w h) (hb : Below w.heap.size w w') : HdAt w' h := kept_block hb hh
theorem HdAt.chg {w w' : World} {h : He} {S : Nat → Prop} (hh : HdAt w h) (hc : Chg w w' S) (hs : ¬ S h.b) : HdAt w' h := by
  unfold HdAt
  rw [hc.block _ (lt_of_blk hh) hs]
  exact hh
theorem fill2 {w : World} {g : Nat} {t : TypeId} {x0 x1 y0 y1 : Value} (h : w.heap[g]? = some (.cells #[y0, y1] t (0, 0))) : ((w.setCell ⟨g, 0, none⟩ x0).setCell ⟨g, 1, none⟩ x1).heap[g]? = some (.cells #[x0, x1] t (0, 0)) := by
  have h0 := same_blk (i := 0) (v := x0) (cs' := #[x0, y1]) h rfl
  have h1 := same_blk (i := 1) (v := x1) (cs' := #[x0, x1]) h0 rfl
  exact h1
set_option maxHeartbeats 4000000 in
theorem tag_any (h : He) (w : World) (hh : HdAt w h) :
    Calls Tryz.prog 33 #[h.ptr] w fun e w' => e = .returned (tagV h.s h.i) ∧ Below w.heap.size w w' := by
  have hh' := new_old hh (.cells #[.int .i64 0, .int .i64 0] 34)
  obtain ⟨x0, x1, x2, x3, x4⟩ := cells_5 hh'
  have hy : (w.alloc (.cells #[.int .i64 0, .int .i64 0] 34)).heap[w.heap.size]? = some (.cells #[.int .i64 0, .int .i64 0] 34 (0, 0)) := heap_alloc_new _ _
  obtain ⟨y0, y1⟩ := cells_2 hy
  have hf := free_2 hy
  have HB : Hid (Below w.heap.size w (w.alloc (.cells #[.int .i64 0, .int .i64 0] 34))) := (Below.refl _ _).alloc (Nat.le_refl _) _
  have HY : Hid _ := hy
  clear hh hh' hy
  go_enter Tryz.func33, Tryz.ntmps33
  go_wp2
  go_region
  go_wp2_with fail
  exact bodyPost_ret (results_cell_row rfl _ _ w.heap.size 34 _ (0, 0) _ rfl (heap_alloc_new _ _) Tryz.underlying34 rfl (by kernel_rfl)) rfl ⟨rfl, below_drew ((Below.refl _ _).alloc (Nat.le_refl _) _)⟩
theorem box2 {w : World} {a b a' b' : Value} : (((w.alloc (.cells #[a, b] 34)).alloc (.cells #[a', b'] 34)).cell? ⟨w.heap.size, 0, none⟩ = some a ∧ ((w.alloc (.cells #[a, b] 34)).alloc (.cells #[a', b'] 34)).cell? ⟨w.heap.size, 1, none⟩ = some b) ∧ (((w.alloc (.cells #[a, b] 34)).alloc (.cells #[a', b'] 34)).cell? ⟨w.heap.size + 1, 0, none⟩ = some a' ∧ ((w.alloc (.cells #[a, b] 34)).alloc (.cells #[a', b'] 34)).cell? ⟨w.heap.size + 1, 1, none⟩ = some b') :=
  ⟨cells_2 (heap_alloc2_old _ _ _), cells_2 (heap_alloc2_new _ _ _)⟩
theorem box3 {w : World} {A B C : Obj} : ((((w.alloc A).alloc B).alloc C).drew).heap[w.heap.size + 1 + 1]? = some C := heap_new' (w := (w.alloc A).alloc B) (by simp)
/-- Some draws, and new blocks. -/
def Gw (w w' : World) : Prop := ∃ (n : Nat) (os : Array Obj), w' = grow (w.drewN n) os
theorem Gw.refl (w : World) : Gw w w := ⟨0, #[], by rw [grow_empty]; rfl⟩
theorem Gw.alloc {w w' : World} (h : Gw w w') (o : Obj) : Gw w (w'.alloc o) := by
  obtain ⟨n, os, rfl⟩ := h
  exact ⟨n, os.push o, by simp [grow, World.alloc, World.drewN]⟩
theorem Gw.drew {w w' : World} (h : Gw w w') : Gw w w'.drew := by
  obtain ⟨n, os, rfl⟩ := h
  exact ⟨n + 1, os, rfl⟩
theorem Gw.below {w w' : World} (h : Gw w w') : Below w.heap.size w w' := by
  obtain ⟨n, os, rfl⟩ := h
  refine ⟨rfl, rfl, rfl, by simp [grow, World.drewN], fun k hk => ?_⟩
  show (w.heap ++ os)[k]? = w.heap[k]?
  rw [Array.getElem?_append_left hk]
set_option maxHeartbeats 16000000 in
set_option maxRecDepth 100000 in
theorem order_tags (s i s' i' : Int) (w : World) :
    Calls Tryz.prog 35 #[tagV s i, tagV s' i'] w fun e w' => e = .returned (.int .i64 (ctI s i s' i')) ∧ Gw w w' := by
  obtain ⟨⟨a0, a1⟩, b0, b1⟩ := box2 (w := w) (a := .int .i64 s) (b := .int .i64 i) (a' := .int .i64 s') (b' := .int .i64 i')
  go_enter Tryz.func35, Tryz.ntmps35
  go_wp2
  go_region_held3 (fun w' => w'.cell? ⟨w.heap.size, 0, none⟩ = some (.int .i64 s) ∧ w'.cell? ⟨w.heap.size, 1, none⟩ = some (.int .i64 i) ∧ w'.cell? ⟨w.heap.size + 1, 0, none⟩ = some (.int .i64 s') ∧ w'.cell? ⟨w.heap.size + 1, 1, none⟩ = some (.int .i64 i')) (first | go_keep | exact ⟨a0, a1, b0, b1⟩)
    (first
      | (go_at_call 28; refine (compX _ _ _).mono ?_; rintro e w1 ⟨rfl, rfl⟩)
      | (go_at_call 64; refine (orX _ _ _ _ box3).mono ?_; rintro e w1 ⟨rfl, rfl⟩))
  all_goals go_wp2_with fail
  all_goals go_ret
  all_goals refine ⟨rfl, ?_⟩
  all_goals exact ((((Gw.refl w).alloc _).alloc _).alloc _).drew
end Go.Proofs.YtbblckcjedjbcaaGreatDoor
