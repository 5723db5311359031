import Derived.Test.YtbblckcjedjbcaaGreatDoorXBase
import Derived.Sort.Grow
namespace Go.Proofs.YtbblckcjedjbcaaGreatDoor
open Go.RowKit Go.Maps
set_option linter.unusedVariables false
set_option linter.unusedSimpArgs false

/-- A watch that is held: where it lies, its session, and the watch. -/
structure He where
  b : Nat
  s : Int
  i : Int
  p : ByteArray
  k : Int
  f : Int
abbrev He.ptr (h : He) : Value := .pointer (some ⟨h.b, 0, none⟩)
abbrev He.cs (h : He) : List Value := [.int .i64 h.s, .int .i64 h.i, .string h.p, .int .i64 h.k, .int .i64 h.f]
def ptrs (l : List He) : List Value := l.map He.ptr
theorem ptrs_len (l : List He) : (ptrs l).length = l.length := by simp [ptrs]
theorem ptrs_at {l : List He} {i : Nat} {h : He} (hi : l[i]? = some h) : (ptrs l)[i]? = some h.ptr := by simp [ptrs, hi]
theorem ptrs_append (l m : List He) : ptrs (l ++ m) = ptrs l ++ ptrs m := by simp [ptrs]
theorem ptrs_one (l : List He) (v : Value) (h : v ∈ ptrs l) : v.oneCell' = true := by
  obtain ⟨x, _, rfl⟩ := List.mem_map.1 h
  rfl
/-- What cmp.Compare says. -/
def cmpI (x y : Int) : Int := if x < y then -1 else if y < x then 1 else 0
/-- What the order of tags says. -/
def ctI (s i s' i' : Int) : Int := if cmpI s s' = 0 then cmpI i i' else cmpI s s'
def befB (s i s' i' : Int) : Bool := decide (s < s') || (decide (s = s') && decide (i < i'))
theorem ct_neg (s i s' i' : Int) : ctI s i s' i' < 0 ↔ befB s i s' i' = true := by
  unfold ctI cmpI befB
  simp only [Bool.or_eq_true, Bool.and_eq_true, decide_eq_true_eq]
  repeat' split
  all_goals omega
theorem ct_zero (s i s' i' : Int) : ctI s i s' i' = 0 ↔ (s = s' ∧ i = i') := by
  unfold ctI cmpI
  repeat' split
  all_goals omega
theorem ct_range (s i s' i' : Int) : ctI s i s' i' = -1 ∨ ctI s i s' i' = 0 ∨ ctI s i s' i' = 1 := by
  unfold ctI cmpI
  repeat' split
  all_goals omega
theorem bef_trans {a b c d e f : Int} (h : befB a b c d = true) (g : befB c d e f = true) : befB a b e f = true := by
  unfold befB at *
  simp only [Bool.or_eq_true, Bool.and_eq_true, decide_eq_true_eq] at *
  omega
theorem bef_irr (a b : Int) : befB a b a b = false := by
  unfold befB
  simp
theorem bef_asymm {a b c d : Int} (h : befB a b c d = true) : befB c d a b = false := by
  cases g : befB c d a b with
  | false => rfl
  | true =>
    have e := bef_trans h g
    rw [bef_irr] at e
    cases e
theorem bef_total {a b c d : Int} (h : befB a b c d = false) (hne : ¬ (a = c ∧ b = d)) : befB c d a b = true := by
  unfold befB at *
  simp only [Bool.or_eq_false_iff, Bool.and_eq_false_iff, decide_eq_false_iff_not, Bool.or_eq_true, Bool.and_eq_true, decide_eq_true_eq] at *
  omega
abbrev befH (a b : He) : Bool := befB a.s a.i b.s b.i
/-- By sessions, then ids; each once. -/
def Ord (l : List He) : Prop := l.Pairwise (fun a b => befH a b = true)
theorem Ord.filter {l : List He} (h : Ord l) (f : He → Bool) : Ord (l.filter f) := List.Pairwise.filter _ h
theorem Ord.key {l : List He} (h : Ord l) {x y : He} (hx : x ∈ l) (hy : y ∈ l) (hs : x.s = y.s) (hi : x.i = y.i) : x = y := by
  induction l with
  | nil => cases hx
  | cons a r ih =>
    have h1 := List.pairwise_cons.1 h
    rcases List.mem_cons.1 hx with rfl | hx'
    · rcases List.mem_cons.1 hy with rfl | hy'
      · rfl
      · have := h1.1 y hy'
        rw [befH, hs, hi, bef_irr] at this
        cases this
    · rcases List.mem_cons.1 hy with rfl | hy'
      · have := h1.1 x hx'
        rw [befH, hs, hi, bef_irr] at this
        cases this
      · exact ih h1.2 hx' hy'
/-- A list that says true first and false then. -/
theorem split_filter {α : Type} (P : α → Bool) : ∀ (l : List α) (n : Nat), (∀ q x, q < n → l[q]? = some x → P x = true) → (∀ q x, n ≤ q → l[q]? = some x → P x = false) → l.take n = l.filter P ∧ l.drop n = l.filter (fun x => !P x)
  | [], n, _, _ => by simp
  | a :: r, 0, h1, h2 => by
    have hf : ∀ x ∈ a :: r, P x = false := fun x hx => by
      obtain ⟨q, hq⟩ := List.getElem?_of_mem hx
      exact h2 q x (Nat.zero_le _) hq
    refine ⟨?_, ?_⟩
    · rw [List.take_zero, eq_comm, List.filter_eq_nil_iff]
      intro x hx
      rw [hf x hx]
      simp
    · rw [List.drop_zero, eq_comm, List.filter_eq_self]
      intro x hx
      rw [hf x hx]
      rfl
  | a :: r, n + 1, h1, h2 => by
    have ha := h1 0 a (Nat.succ_pos _) rfl
    obtain ⟨e1, e2⟩ := split_filter P r n (fun q x hq hx => h1 (q + 1) x (by omega) hx) (fun q x hq hx => h2 (q + 1) x (by omega) hx)
    refine ⟨?_, ?_⟩
    · rw [List.take_succ_cons, e1, List.filter_cons, if_pos ha]
    · rw [List.drop_succ_cons, e2, List.filter_cons, ha]
      rfl
/-- One more, at its place. -/
def insH (h : He) (l : List He) : List He := l.filter (fun x => befH x h) ++ h :: l.filter (fun x => !befH x h)
theorem ins_at {l : List He} {h : He} {n : Nat} (h1 : ∀ q x, q < n → l[q]? = some x → befH x h = true) (h2 : ∀ q x, n ≤ q → l[q]? = some x → befH x h = false) : l.take n ++ h :: l.drop n = insH h l := by
  obtain ⟨e1, e2⟩ := split_filter (fun x => befH x h) l n h1 h2
  rw [e1, e2]
  rfl
theorem ins_len (h : He) (l : List He) : (insH h l).length = l.length + 1 := by
  have h1 : (l.filter (fun x => befH x h)).length + (l.filter (fun x => !befH x h)).length = l.length := by
    induction l with
    | nil => rfl
    | cons a r ih =>
      cases e : befH a h
      · simp only [List.filter_cons, e]; simp; omega
      · simp only [List.filter_cons, e]; simp; omega
  unfold insH
  rw [List.length_append, List.length_cons]
  omega
theorem ins_mem {h x : He} {l : List He} : x ∈ insH h l ↔ x = h ∨ x ∈ l := by
  unfold insH
  rw [List.mem_append, List.mem_cons, List.mem_filter, List.mem_filter]
  cases befH x h
  · simp
  · simp
    exact Or.comm
theorem parts_all {l : List He} (ho : Ord l) (h : He) : l.filter (fun x => befH x h) ++ l.filter (fun x => !befH x h) = l := by
  induction l with
  | nil => rfl
  | cons a r ih =>
    have h1 := List.pairwise_cons.1 ho
    cases e : befH a h
    · have hn : r.filter (fun x => befH x h) = [] := by
        rw [List.filter_eq_nil_iff]
        intro x hx hb
        have e2 : befH a h = true := bef_trans (h1.1 x hx) hb
        rw [e2] at e
        cases e
      have := ih h1.2
      rw [hn, List.nil_append] at this
      simp only [List.filter_cons, e, hn, this]
      simp
    · have := ih h1.2
      simp only [List.filter_cons, e]
      simp only [Bool.not_true]
      simp
      simpa using this
theorem ins_filter (f : He → Bool) (h : He) {l : List He} (ho : Ord l) : (insH h l).filter f = if f h then insH h (l.filter f) else l.filter f := by
  have e : ∀ g : He → Bool, (l.filter g).filter f = (l.filter f).filter g := fun g => by
    rw [List.filter_filter, List.filter_filter]
    congr 1
    funext x
    exact Bool.and_comm _ _
  unfold insH
  rw [List.filter_append, List.filter_cons, e, e]
  split
  · rfl
  · exact parts_all (ho.filter f) h
theorem ins_ord {h : He} {l : List He} (ho : Ord l) (hn : ∀ x ∈ l, ¬ (x.s = h.s ∧ x.i = h.i)) : Ord (insH h l) := by
  unfold insH Ord
  rw [List.pairwise_append, List.pairwise_cons]
  refine ⟨ho.filter _, ⟨fun x hx => ?_, ho.filter _⟩, fun x hx y hy => ?_⟩
  · obtain ⟨h1, h2⟩ := List.mem_filter.1 hx
    exact bef_total (by simpa using h2) (hn x h1)
  · have h1 := (List.mem_filter.1 hx).2
    rcases List.mem_cons.1 hy with rfl | hy
    · exact h1
    · obtain ⟨h3, h2⟩ := List.mem_filter.1 hy
      exact bef_trans h1 (bef_total (by simpa using h2) (hn y h3))
theorem ins_new {h : He} {l : List He} (hl : l = []) : insH h l = [h] := by subst hl; rfl
/-- One less. -/
def delH (s i : Int) (l : List He) : List He := l.filter (fun x => !(decide (x.s = s) && decide (x.i = i)))
theorem del_mem {s i : Int} {l : List He} {x : He} : x ∈ delH s i l ↔ x ∈ l ∧ ¬ (x.s = s ∧ x.i = i) := by
  unfold delH
  rw [List.mem_filter]
  simp
  intro _
  omega
theorem del_filter (s i : Int) (f : He → Bool) (l : List He) : (delH s i l).filter f = delH s i (l.filter f) := by
  unfold delH
  rw [List.filter_filter, List.filter_filter]
  congr 1
  funext x
  exact Bool.and_comm _ _
theorem del_ord {s i : Int} {l : List He} (h : Ord l) : Ord (delH s i l) := h.filter _
theorem del_none {s i : Int} {l : List He} (h : ∀ x ∈ l, ¬ (x.s = s ∧ x.i = i)) : delH s i l = l := by
  unfold delH
  rw [List.filter_eq_self]
  intro x hx
  have := h x hx
  simp
  omega
theorem del_at : ∀ {l : List He} {h : He} {n : Nat}, Ord l → l[n]? = some h → l.take n ++ l.drop (n + 1) = delH h.s h.i l
  | [], _, _, _, hn => by simp at hn
  | a :: r, h, 0, ho, hn => by
    have h1 := List.pairwise_cons.1 ho
    obtain rfl : a = h := by simpa using hn
    have h2 : delH a.s a.i r = r := del_none (fun x hx hc => by
      have := h1.1 x hx
      rw [befH, hc.1, hc.2, bef_irr] at this
      cases this)
    have e : delH a.s a.i (a :: r) = delH a.s a.i r := by simp [delH]
    rw [e, h2]
    rfl
  | a :: r, h, n + 1, ho, hn => by
    have h1 := List.pairwise_cons.1 ho
    have hr : r[n]? = some h := by simpa using hn
    have h2 := del_at h1.2 hr
    have h3 := h1.1 h (List.mem_of_getElem? hr)
    have e : delH h.s h.i (a :: r) = a :: delH h.s h.i r := by
      unfold delH
      rw [List.filter_cons, if_pos]
      have h4 : ¬ (a.s = h.s ∧ a.i = h.i) := fun hc => by
        rw [befH, hc.1, hc.2, bef_irr] at h3
        cases h3
      simp
      omega
    rw [e, ← h2]
    rfl
theorem del_len {l : List He} {h : He} (ho : Ord l) (hm : h ∈ l) : (delH h.s h.i l).length + 1 = l.length := by
  obtain ⟨n, hn⟩ := List.getElem?_of_mem hm
  have hl := (List.getElem?_eq_some_iff.1 hn).1
  rw [← del_at ho hn]
  simp
  omega
end Go.Proofs.YtbblckcjedjbcaaGreatDoor
namespace Go.Proofs.YtbblckcjedjbcaaGreatDoor
open Go.RowKit Go.Maps Go.Sort
set_option linter.unusedVariables false
set_option linter.unusedSimpArgs false

theorem xtrans2 {w w1 w2 : World} (h1 : Below w.heap.size w w1) (h2 : Below w1.heap.size w1 w2) : Below w.heap.size w w2 := h1.trans (h2.mono h1.size)
theorem nanX (x : Int) (w : World) :
    Calls Tryz.prog 57 #[.int .i64 x] w fun e w' => e = .returned (.bool false) ∧ w' = w := by
  go_enter Tryz.func57, Tryz.ntmps57
  go_wp2
  go_ret
  exact ⟨rfl, rfl⟩
theorem compX (x y : Int) (w : World) :
    Calls Tryz.prog 28 #[.int .i64 x, .int .i64 y] w fun e w' => e = .returned (.int .i64 (cmpI x y)) ∧ w' = w := by
  unfold cmpI
  by_cases h : x < y
  · rw [if_pos h]
    go_enter Tryz.func28, Tryz.ntmps28
    go_wp2
    go_ret
    exact ⟨rfl, rfl⟩
  · rw [if_neg h]
    by_cases h' : y < x
    · rw [if_pos h']
      go_enter Tryz.func28, Tryz.ntmps28
      go_wp2
      go_ret
      exact ⟨rfl, rfl⟩
    · rw [if_neg h']
      go_enter Tryz.func28, Tryz.ntmps28
      go_wp2
      go_ret
      exact ⟨rfl, rfl⟩
/-- The first that is not 0. -/
def orI (x y : Int) : Int := if x = 0 then y else x
set_option maxHeartbeats 4000000 in
theorem orX (b : Nat) (x y : Int) (w : World) (hb : w.heap[b]? = some (.cells #[.int .i64 x, .int .i64 y] 3 (0, 0))) :
    Calls Tryz.prog 64 #[.slice (some ⟨b, 0, none⟩) 2 2] w fun e w' => e = .returned (.int .i64 (orI x y)) ∧ w' = w := by
  unfold orI
  obtain ⟨x0, x1⟩ := cells_2 hb
  clear hb
  go_enter Tryz.func64, Tryz.ntmps64
  go_wp2
  go_loopw [8] (fun vi wr => ∃ k : Nat, vi = .int .i64 k ∧ k ≤ 2 ∧ (1 ≤ k → x = 0) ∧ (2 ≤ k → y = 0) ∧ wr = w) (fun vi _ => 2 - (intOf vi).toNat)
  case atStart => exact ⟨0, rfl, by omega, fun h => by omega, fun h => by omega, rfl⟩
  case round =>
    obtain ⟨k, rfl, hk, h1, h2, rfl⟩ := hrel
    rcases Nat.lt_or_ge k 2 with hlt | hge
    · rcases (show k = 0 ∨ k = 1 by omega) with rfl | rfl
      · by_cases hx : x = 0
        · subst hx
          go_wp2
          go_roundw
          case rel => exact ⟨1, rfl, by omega, by simp, by simp, by simp⟩
          case measure => simp [intOf]
        · go_wp2
          go_ret
          exact ⟨rfl, rfl⟩
      · have hx := h1 (by omega)
        subst hx
        by_cases hy : y = 0
        · subst hy
          go_wp2
          go_roundw
          case rel => exact ⟨2, rfl, by omega, by simp, by simp, by simp⟩
          case measure => simp [intOf]
        · go_wp2
          go_ret
          exact ⟨rfl, rfl⟩
    · obtain rfl : k = 2 := by omega
      have hx := h1 (by omega)
      have hy := h2 (by omega)
      subst hx
      subst hy
      go_wp2
      go_ret
      exact ⟨rfl, rfl⟩
abbrev tagV (s i : Int) : Value := .agg #[.int .i64 s, .int .i64 i]
/-- A held watch in memory. -/
def HdAt (w : World) (h : He) : Prop := w.heap[h.b]? = some (.cells #[.int .i64 h.s, .int .i64 h.i, .string h.p, .int .i64 h.k, .int .i64 h.f] 98 (0, 0))
theorem HdAt.below {w w' : World} {h : He} (hh : HdAt w h) (hb : Below w.heap.size w w') : HdAt w' h := kept_block hb hh
theorem HdAt.chg {w w' : World} {h : He} {S : Nat → Prop} (hh : HdAt w h) (hc : Chg w w' S) (hs : ¬ S h.b) : HdAt w' h := by
  unfold HdAt
  rw [hc.block _ (lt_of_blk hh) hs]
  exact hh
theorem fill2 {w : World} {g : Nat} {t : TypeId} {x0 x1 y0 y1 : Value} (h : w.heap[g]? = some (.cells #[y0, y1] t (0, 0))) : ((w.setCell ⟨g, 0, none⟩ x0).setCell ⟨g, 1, none⟩ x1).heap[g]? = some (.cells #[x0, x1] t (0, 0)) := by
  have h0 := same_blk (i := 0) (v := x0) (cs' := #[x0, y1]) h rfl
  have h1 := same_blk (i := 1) (v := x1) (cs' := #[x0, x1]) h0 rfl
  exact h1
set_option maxHeartbeats 4000000 in
theorem tag_any (h : He) (w : World) (hh : HdAt w h) :
    Calls Tryz.prog 33 #[h.ptr] w fun e w' => e = .returned (tagV h.s h.i) ∧ Below w.heap.size w w' := by
  have hh' := new_old hh (.cells #[.int .i64 0, .int .i64 0] 34)
  obtain ⟨x0, x1, x2, x3, x4⟩ := cells_5 hh'
  have hy : (w.alloc (.cells #[.int .i64 0, .int .i64 0] 34)).heap[w.heap.size]? = some (.cells #[.int .i64 0, .int .i64 0] 34 (0, 0)) := heap_alloc_new _ _
  obtain ⟨y0, y1⟩ := cells_2 hy
  have hf := free_2 hy
  have HB : Hid (Below w.heap.size w (w.alloc (.cells #[.int .i64 0, .int .i64 0] 34))) := (Below.refl _ _).alloc (Nat.le_refl _) _
  have HY : Hid _ := hy
  clear hh hh' hy
  go_enter Tryz.func33, Tryz.ntmps33
  go_wp2
  go_region
  go_wp2_with fail
  exact bodyPost_ret (results_cell_row rfl _ _ w.heap.size 34 _ (0, 0) _ rfl (heap_alloc_new _ _) Tryz.underlying34 rfl (by kernel_rfl)) rfl ⟨rfl, below_drew ((Below.refl _ _).alloc (Nat.le_refl _) _)⟩
theorem box2 {w : World} {a b a' b' : Value} : (((w.alloc (.cells #[a, b] 34)).alloc (.cells #[a', b'] 34)).cell? ⟨w.heap.size, 0, none⟩ = some a ∧ ((w.alloc (.cells #[a, b] 34)).alloc (.cells #[a', b'] 34)).cell? ⟨w.heap.size, 1, none⟩ = some b) ∧ (((w.alloc (.cells #[a, b] 34)).alloc (.cells #[a', b'] 34)).cell? ⟨w.heap.size + 1, 0, none⟩ = some a' ∧ ((w.alloc (.cells #[a, b] 34)).alloc (.cells #[a', b'] 34)).cell? ⟨w.heap.size + 1, 1, none⟩ = some b') :=
  ⟨cells_2 (heap_alloc2_old _ _ _), cells_2 (heap_alloc2_new _ _ _)⟩
theorem box3 {w : World} {A B C : Obj} : ((((w.alloc A).alloc B).alloc C).drew).heap[w.heap.size + 1 + 1]? = some C := heap_new' (w := (w.alloc A).alloc B) (by simp)
/-- Some draws, and new blocks. -/
def Gw (w w' : World) : Prop := ∃ (n : Nat) (os : Array Obj), w' = grow (w.drewN n) os
theorem Gw.refl (w : World) : Gw w w := ⟨0, #[], by rw [grow_empty]; rfl⟩
theorem Gw.alloc {w w' : World} (h : Gw w w') (o : Obj) : Gw w (w'.alloc o) := by
  obtain ⟨n, os, rfl⟩ := h
  exact ⟨n, os.push o, by simp [grow, World.alloc, World.drewN]⟩
theorem Gw.drew {w w' : World} (h : Gw w w') : Gw w w'.drew := by
  obtain ⟨n, os, rfl⟩ := h
  exact ⟨n + 1, os, rfl⟩
theorem Gw.below {w w' : World} (h : Gw w w') : Below w.heap.size w w' := by
  obtain ⟨n, os, rfl⟩ := h
  refine ⟨rfl, rfl, rfl, by simp [grow, World.drewN], fun k hk => ?_⟩
  show (w.heap ++ os)[k]? = w.heap[k]?
  rw [Array.getElem?_append_left hk]
set_option maxHeartbeats 16000000 in
set_option maxRecDepth 100000 in
theorem order_tags (s i s' i' : Int) (w : World) :
    Calls Tryz.prog 35 #[tagV s i, tagV s' i'] w fun e w' => e = .returned (.int .i64 (ctI s i s' i')) ∧ Gw w w' := by
  obtain ⟨⟨a0, a1⟩, b0, b1⟩ := box2 (w := w) (a := .int .i64 s) (b := .int .i64 i) (a' := .int .i64 s') (b' := .int .i64 i')
  go_enter Tryz.func35, Tryz.ntmps35
  go_wp2
  go_region_held3 (fun w' => w'.cell? ⟨w.heap.size, 0, none⟩ = some (.int .i64 s) ∧ w'.cell? ⟨w.heap.size, 1, none⟩ = some (.int .i64 i) ∧ w'.cell? ⟨w.heap.size + 1, 0, none⟩ = some (.int .i64 s') ∧ w'.cell? ⟨w.heap.size + 1, 1, none⟩ = some (.int .i64 i')) (first | go_keep | exact ⟨a0, a1, b0, b1⟩)
    (first
      | (go_at_call 28; refine (compX _ _ _).mono ?_; rintro e w1 ⟨rfl, rfl⟩)
      | (go_at_call 64; refine (orX _ _ _ _ box3).mono ?_; rintro e w1 ⟨rfl, rfl⟩))
  all_goals go_wp2_with fail
  all_goals go_ret
  all_goals refine ⟨rfl, ?_⟩
  all_goals exact ((((Gw.refl w).alloc _).alloc _).alloc _).drew
end Go.Proofs.YtbblckcjedjbcaaGreatDoor
namespace Go.Proofs.YtbblckcjedjbcaaGreatDoor
open Go.RowKit Go.Maps Go.Sort
set_option linter.unusedVariables false
set_option linter.unusedSimpArgs false

set_option maxHeartbeats 16000000 in
set_option maxRecDepth 100000 in
theorem cmpH (h : He) (s i : Int) (w : World) (hh : HdAt w h) :
    Calls Tryz.prog 71 #[h.ptr, tagV s i] w fun e w' => e = .returned (.int .i64 (ctI h.s h.i s i)) ∧ Below w.heap.size w w' := by
  have hy : (w.alloc (.cells #[.int .i64 s, .int .i64 i] 34)).heap[w.heap.size]? = some (.cells #[.int .i64 s, .int .i64 i] 34 (0, 0)) := heap_alloc_new _ _
  obtain ⟨y0, y1⟩ := cells_2 hy
  have HY : Hid _ := hy
  have HH : Hid (HdAt w h) := hh
  clear hh hy
  go_enter Tryz.func71, Tryz.ntmps71
  go_wp2
  go_region_held3 (fun w' => w'.cell? ⟨w.heap.size, 0, none⟩ = some (.int .i64 s) ∧ w'.cell? ⟨w.heap.size, 1, none⟩ = some (.int .i64 i)) (first | go_keep | exact ⟨y0, y1⟩)
    (first
      | (go_at_call 33; refine (tag_any h _ (HH.out.below (below_drew ((Below.refl _ _).alloc (Nat.le_refl _) _)))).mono ?_; rintro e w1 ⟨rfl, hb1⟩
         have HB1 : Hid (Below w.heap.size w w1) := xtrans2 (below_drew ((Below.refl _ _).alloc (Nat.le_refl _) _)) hb1
         clear y0 y1
         have HY1 : Hid _ := kept_block hb1 HY.out
         obtain ⟨y0, y1⟩ := cells_2 HY1.out
         clear hb1)
      | (go_at_call 35; refine (order_tags _ _ _ _ _).mono ?_; rintro e w2 ⟨rfl, hg2⟩
         have HB2 : Hid (Below w.heap.size w w2) := xtrans2 HB1.out hg2.below
         clear y0 y1
         obtain ⟨y0, y1⟩ := cells_2 (kept_block hg2.below HY1.out)))
  go_wp2_with fail
  go_ret
  exact ⟨rfl, HB2.out⟩
/-- A list of pointers to helds in memory. -/
def Hl (w : World) (a : Option Addr) (c : Nat) (l : List He) : Prop := w.ownsRow 0 91 1 (.slice a l.length c) l.length (ptrs l) ∧ ∀ h ∈ l, HdAt w h
theorem Hl.below {w w' : World} {a : Option Addr} {c : Nat} {l : List He} (h : Hl w a c l) (hb : Below w.heap.size w w') : Hl w' a c l := ⟨owns_below h.1 hb, fun x hx => (h.2 x hx).below hb⟩
theorem Hl.at {w : World} {a : Option Addr} {c : Nat} {l : List He} (h : Hl w a c l) {i : Nat} {x : He} (hx : l[i]? = some x) : ∃ g, a = some ⟨g, 0, none⟩ ∧ w.cell? ⟨g, i, none⟩ = some x.ptr ∧ HdAt w x := by
  rcases h.1.2 with ⟨h0, h1⟩ | ⟨g, cap, cur, hv, _⟩
  · have : l = [] := by simpa using h1
    subst this
    simp at hx
  · have hv' := hv
    simp only [Value.slice.injEq] at hv'
    obtain ⟨rfl, _, rfl⟩ := hv'
    exact ⟨g, rfl, cell_n h.1 (ptrs_at hx), h.2 x (List.mem_of_getElem? hx)⟩
theorem Hl.cap {w : World} {a : Option Addr} {c : Nat} {l : List He} (h : Hl w a c l) : l.length ≤ c ∧ c ≤ maxLen := by
  rcases h.1.2 with ⟨h0, h1⟩ | ⟨g, cap, cur, hv, _, _, hn, hc, _⟩
  · simp only [Value.slice.injEq] at h0
    exact ⟨by omega, by rw [h0.2.2]; exact Nat.zero_le _⟩
  · simp only [Value.slice.injEq] at hv
    rw [hv.2.2]
    exact ⟨hn, hc⟩
def hasH (l : List He) (s i : Int) : Bool := l.any (fun h => decide (h.s = s) && decide (h.i = i))
theorem hasH_iff {l : List He} {s i : Int} : hasH l s i = true ↔ ∃ h ∈ l, h.s = s ∧ h.i = i := by
  unfold hasH
  rw [List.any_eq_true]
  simp
theorem hasH_none {l : List He} {s i : Int} (h : ∀ (q : Nat) (x : He), q < l.length → l[q]? = some x → befB x.s x.i s i = true) : hasH l s i = false := by
  rw [Bool.eq_false_iff]
  intro hp
  obtain ⟨x, hx, h1, h2⟩ := hasH_iff.1 hp
  obtain ⟨j, hj⟩ := List.getElem?_of_mem hx
  have := h j x (List.getElem?_eq_some_iff.1 hj).1 hj
  rw [h1, h2, bef_irr] at this
  cases this
theorem hasH_at {l : List He} {s i : Int} {n : Nat} {x : He} (ho : Ord l) (hx : l[n]? = some x) (h1 : ∀ (q : Nat) (x : He), q < n → l[q]? = some x → befB x.s x.i s i = true) (h2 : ∀ (q : Nat) (x : He), n ≤ q → l[q]? = some x → befB x.s x.i s i = false) : hasH l s i = (ctI x.s x.i s i == 0) := by
  by_cases h0 : ctI x.s x.i s i = 0
  · rw [h0]
    obtain ⟨e1, e2⟩ := (ct_zero _ _ _ _).1 h0
    exact hasH_iff.2 ⟨x, List.mem_of_getElem? hx, e1, e2⟩
  · have : (ctI x.s x.i s i == 0) = false := by simpa using h0
    rw [this, Bool.eq_false_iff]
    intro hp
    obtain ⟨y, hy, e1, e2⟩ := hasH_iff.1 hp
    obtain ⟨j, hj⟩ := List.getElem?_of_mem hy
    rcases Nat.lt_trichotomy j n with h | h | h
    · have := h1 j y h hj
      rw [e1, e2, bef_irr] at this
      cases this
    · subst h
      rw [hx] at hj
      cases hj
      exact h0 ((ct_zero _ _ _ _).2 ⟨e1, e2⟩)
    · have h3 := List.pairwise_iff_getElem.1 ho n j (List.getElem?_eq_some_iff.1 hx).1 (List.getElem?_eq_some_iff.1 hj).1 h
      rw [(List.getElem?_eq_some_iff.1 hx).2, (List.getElem?_eq_some_iff.1 hj).2] at h3
      have h4 := h2 n x (Nat.le_refl _) hx
      rw [befH, e1, e2, h4] at h3
      cases h3
/-- Where a watch stands, or would stand. -/
structure Stood (l : List He) (s i : Int) (n : Nat) : Prop where
  le : n ≤ l.length
  lo : ∀ (q : Nat) (x : He), q < n → l[q]? = some x → befB x.s x.i s i = true
  hi : ∀ (q : Nat) (x : He), n ≤ q → l[q]? = some x → befB x.s x.i s i = false
abbrev cmpHV : Value := .func (.func 71) #[] #[]
set_option maxHeartbeats 3200000 in
set_option maxRecDepth 100000 in
theorem searchH (a : Option Addr) (c : Nat) (l : List He) (s i : Int) (w : World) (hs : Hl w a c l) (hl : l.length ≤ 100000) (ho : Ord l) :
    Calls Tryz.prog 70 #[.slice a l.length c, tagV s i, cmpHV] w fun e w' => ∃ n : Nat, e = .returned (.tuple #[.int .i64 n, .bool (hasH l s i)]) ∧ Stood l s i n ∧ Below w.heap.size w w' := by
  have hy : (w.alloc (.cells #[.int .i64 s, .int .i64 i] 34)).heap[w.heap.size]? = some (.cells #[.int .i64 s, .int .i64 i] 34 (0, 0)) := heap_alloc_new _ _
  have HW : Hid (Below w.heap.size w (w.alloc (.cells #[.int .i64 s, .int .i64 i] 34))) := (Below.refl _ _).alloc (Nat.le_refl _) _
  have HS : Hid (Hl (w.alloc (.cells #[.int .i64 s, .int .i64 i] 34)) a c l) := hs.below ((Below.refl _ _).alloc (Nat.le_refl _) _)
  have HY : Hid _ := hy
  have HO : Hid (Ord l) := ho
  clear hs ho hy
  go_enter Tryz.func70, Tryz.ntmps70
  go_wp2_with fail
  obtain ⟨W, hW⟩ : ∃ W, W = w.alloc (.cells #[.int .i64 s, .int .i64 i] 34) := ⟨_, rfl⟩
  rw [← hW] at HS HY HW ⊢
  have HWE : Hid (W = w.alloc (.cells #[.int .i64 s, .int .i64 i] 34)) := hW
  clear hW
  go_loopw [9, 10] (fun vi vj wr => ∃ q j : Nat, vi = .int .i64 q ∧ vj = .int .i64 j ∧ q ≤ j ∧ j ≤ l.length ∧ Hid (∀ (t : Nat) (x : He), t < q → l[t]? = some x → befB x.s x.i s i = true) ∧ Hid (∀ (t : Nat) (x : He), j ≤ t → l[t]? = some x → befB x.s x.i s i = false) ∧ Hid (Below W.heap.size W wr)) (fun vi vj _ => (intOf vj).toNat - (intOf vi).toNat)
  case atStart => exact ⟨0, l.length, rfl, rfl, Nat.zero_le _, Nat.le_refl _, fun q x h _ => absurd h (Nat.not_lt_zero _), fun q x h hx => (by rw [List.getElem?_eq_none h] at hx; cases hx), Below.refl _ _⟩
  case round =>
    obtain ⟨q, j, rfl, rfl, hij, hj, HI, HJ, HB⟩ := hrel
    have hyr := kept_block HB.out HY.out
    obtain ⟨y0, y1⟩ := cells_2 hyr
    clear hyr
    by_cases hlt : q < j
    · have hlt' : (q : Int) < (j : Int) := by omega
      have hhl : (q + j) / 2 < l.length := by omega
      obtain ⟨x, hx⟩ : ∃ x, l[(q + j) / 2]? = some x := ⟨l[(q + j) / 2], List.getElem?_eq_getElem hhl⟩
      obtain ⟨g, rfl, x0, hh⟩ := (HS.out.below HB.out).at hx
      have HCM : Hid _ := fun m => cmpH x s i (wr.drewN m) hh
      have HX : Hid (l[(q + j) / 2]? = some x) := hx
      clear hx hh
      obtain ⟨r, hr⟩ : ∃ r, ctI x.s x.i s i = r := ⟨_, rfl⟩
      have HR : Hid (ctI x.s x.i s i = r) := hr
      rw [hr] at HCM
      clear hr
      have hm1 : (0 : Int) ≤ ((q : Int) + (j : Int)) / 2 := by omega
      have hm2 : ((q : Int) + (j : Int)) / 2 < (l.length : Int) := by omega
      have hm3 : (((q : Int) + (j : Int)) / 2).toNat = (q + j) / 2 := by omega
      have hm4 : (((q + j) / 2 : Nat) : Int) < (l.length : Int) := by omega
      go_wp2_with fail
      go_region_held3 (fun w' => w'.cell? ⟨g, (q + j) / 2, none⟩ = some x.ptr ∧ w'.cell? ⟨w.heap.size, 0, none⟩ = some (.int .i64 s) ∧ w'.cell? ⟨w.heap.size, 1, none⟩ = some (.int .i64 i)) (first | go_keep | exact ⟨x0, y0, y1⟩)
        (first
          | (go_at_call 71; refine (HCM.out _).mono ?_; rintro e w1 ⟨rfl, hb1⟩
             clear y0 y1 x0
             have HB1 : Hid (Below W.heap.size W w1) := xtrans2 HB.out (of_drew hb1)
             obtain ⟨y0, y1⟩ := cells_2 (kept_block HB1.out HY.out)
             have x0 : w1.cell? ⟨g, (q + j) / 2, none⟩ = some x.ptr := by
               obtain ⟨g', e, x0, _⟩ := (HS.out.below HB1.out).at HX.out
               cases e
               exact x0))
      by_cases hneg : r < 0
      · have h1 : befB x.s x.i s i = true := (ct_neg _ _ _ _).1 (by rw [HR.out]; exact hneg)
        have H1 : Hid (befB x.s x.i s i = true) := h1
        clear h1
        go_wp2_with fail
        go_roundw
        case rel =>
          refine ⟨(q + j) / 2 + 1, j, by go_num, rfl, by omega, hj, fun t y ht hy => ?_, HJ.out, HB1.out⟩
          by_cases he : t = (q + j) / 2
          · subst he
            rw [HX.out] at hy
            cases hy
            exact H1.out
          · have h3 := List.pairwise_iff_getElem.1 HO.out t ((q + j) / 2) (List.getElem?_eq_some_iff.1 hy).1 hhl (by omega)
            rw [(List.getElem?_eq_some_iff.1 hy).2, (List.getElem?_eq_some_iff.1 HX.out).2] at h3
            exact bef_trans h3 H1.out
        case measure => simp [intOf]; omega
      · have h1 : befB x.s x.i s i = false := by
          rw [Bool.eq_false_iff]
          intro h
          have := (ct_neg _ _ _ _).2 h
          rw [HR.out] at this
          exact hneg this
        have H1 : Hid (befB x.s x.i s i = false) := h1
        clear h1
        go_wp2_with fail
        go_roundw
        case rel =>
          refine ⟨q, (q + j) / 2, rfl, by go_num, by omega, by omega, HI.out, fun t y ht hy => ?_, HB1.out⟩
          by_cases he : t = (q + j) / 2
          · subst he
            rw [HX.out] at hy
            cases hy
            exact H1.out
          · have h3 := List.pairwise_iff_getElem.1 HO.out ((q + j) / 2) t hhl (List.getElem?_eq_some_iff.1 hy).1 (by omega)
            rw [(List.getElem?_eq_some_iff.1 hy).2, (List.getElem?_eq_some_iff.1 HX.out).2] at h3
            rw [Bool.eq_false_iff]
            intro h4
            have h5 := bef_trans h3 h4
            rw [H1.out] at h5
            cases h5
        case measure => simp [intOf]; omega
    · obtain rfl : q = j := by omega
      have hge : ¬ (q : Int) < (q : Int) := by omega
      have HST : Hid (Stood l s i q) := ⟨hj, HI.out, HJ.out⟩
      by_cases hn : q < l.length
      · have hn' : (q : Int) < (l.length : Int) := by omega
        obtain ⟨x, hx⟩ : ∃ x, l[q]? = some x := ⟨l[q], List.getElem?_eq_getElem hn⟩
        obtain ⟨g, rfl, x0, hh⟩ := (HS.out.below HB.out).at hx
        have HCM : Hid _ := fun m => cmpH x s i (wr.drewN m) hh
        have HX : Hid (l[q]? = some x) := hx
        have HEQ : Hid (hasH l s i = (ctI x.s x.i s i == 0)) := hasH_at HO.out hx HI.out HJ.out
        clear hx hh
        obtain ⟨r, hr⟩ : ∃ r, ctI x.s x.i s i = r := ⟨_, rfl⟩
        rw [hr] at HCM HEQ
        clear hr
        have hdn : decide ((q : Int) < (l.length : Int)) = true := by simpa using hn'
        go_wp2_with fail
        go_region_held3 (fun w' => w'.cell? ⟨g, q, none⟩ = some x.ptr ∧ w'.cell? ⟨w.heap.size, 0, none⟩ = some (.int .i64 s) ∧ w'.cell? ⟨w.heap.size, 1, none⟩ = some (.int .i64 i)) (first | go_keep | exact ⟨x0, y0, y1⟩)
          (first
            | (go_at_call 71; refine (HCM.out _).mono ?_; rintro e w1 ⟨rfl, hb1⟩
               clear y0 y1 x0
               have HB1 : Hid (Below W.heap.size W w1) := xtrans2 HB.out (of_drew hb1)
               obtain ⟨y0, y1⟩ := cells_2 (kept_block HB1.out HY.out)
               have x0 : w1.cell? ⟨g, q, none⟩ = some x.ptr := by
                 obtain ⟨g', e, x0, _⟩ := (HS.out.below HB1.out).at HX.out
                 cases e
                 exact x0))
        go_wp2_with fail
        go_ret2
        exact ⟨q, by rw [HEQ.out]; rfl, HST.out, xtrans2 HW.out HB1.out⟩
      · have hn' : ¬ (q : Int) < (l.length : Int) := by omega
        have HEQ : Hid (hasH l s i = false) := hasH_none (fun t x hq hx => HI.out t x (by omega) hx)
        have hdn : decide ((q : Int) < (l.length : Int)) = false := by simpa using hn'
        go_wp2_with fail
        go_quiet (fail)
        go_wp2_with fail
        go_ret2
        exact ⟨q, by rw [HEQ.out]; rfl, HST.out, xtrans2 HW.out (below_drewN HB.out _)⟩
end Go.Proofs.YtbblckcjedjbcaaGreatDoor
