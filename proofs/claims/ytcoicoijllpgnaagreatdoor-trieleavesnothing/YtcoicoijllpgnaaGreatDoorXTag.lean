/-
  trie: tags and their order.
-/
import Derived.Test.YtcoicoijllpgnaaGreatDoorXPure
import Derived.Sort.Grow
namespace Go.Proofs.YtcoicoijllpgnaaGreatDoor
open Go.RowKit Go.Maps Go.Sort
set_option linter.unusedVariables false
set_option linter.unusedSimpArgs false

theorem xtrans2 {w w1 w2 : World} (h1 : Below w.heap.size w w1) (h2 : Below w1.heap.size w1 w2) : Below w.heap.size w w2 := h1.trans (h2.mono h1.size)
theorem nanX (x : Int) (w : World) :
    Calls Tryz.prog 49 #[.int .i64 x] w fun e w' => e = .returned (.bool false) ∧ w' = w := by
  go_enter Tryz.func49, Tryz.ntmps49
  go_wp2
  go_ret
  exact ⟨rfl, rfl⟩
theorem compX (x y : Int) (w : World) :
    Calls Tryz.prog 27 #[.int .i64 x, .int .i64 y] w fun e w' => e = .returned (.int .i64 (cmpI x y)) ∧ w' = w := by
  unfold cmpI
  by_cases h : x < y
  · rw [if_pos h]
    go_enter Tryz.func27, Tryz.ntmps27
    go_wp2
    go_ret
    exact ⟨rfl, rfl⟩
  · rw [if_neg h]
    by_cases h' : y < x
    · rw [if_pos h']
      go_enter Tryz.func27, Tryz.ntmps27
      go_wp2
      go_ret
      exact ⟨rfl, rfl⟩
    · rw [if_neg h']
      go_enter Tryz.func27, Tryz.ntmps27
      go_wp2
      go_ret
      exact ⟨rfl, rfl⟩
/-- The first that is not 0. -/
def orI (x y : Int) : Int := if x = 0 then y else x
set_option maxHeartbeats 4000000 in
theorem orX (b : Nat) (x y : Int) (w : World) (hb : w.heap[b]? = some (.cells #[.int .i64 x, .int .i64 y] 3 (0, 0))) :
    Calls Tryz.prog 56 #[.slice (some ⟨b, 0, none⟩) 2 2] w fun e w' => e = .returned (.int .i64 (orI x y)) ∧ w' = w := by
  unfold orI
  obtain ⟨x0, x1⟩ := cells_2 hb
  clear hb
  go_enter Tryz.func56, Tryz.ntmps56
  go_wp2
  go_loopw [8] (fun vi wr => ∃ k : Nat, vi = .int .i64 k ∧ k ≤ 2 ∧ (1 ≤ k → x = 0) ∧ (2 ≤ k → y = 0) ∧ wr = w) (fun vi _ => 2 - (intOf vi).toNat)
  case atStart => exact ⟨0, rfl, by omega, fun h => by omega, fun h => by omega, rfl⟩
  case round =>
    obtain ⟨k, rfl, hk, h1, h2, rfl⟩ := hrel
    rcases Nat.lt_or_ge k 2 with hlt | hge
    · rcases (show k = 0 ∨ k = 1 by omega) with rfl | rfl
      · by_cases hx : x = 0
        · subst hx
          go_wp2
          go_roundw
          case rel => exact ⟨1, rfl, by omega, by simp, by simp, by simp⟩
          case measure => simp [intOf]
        · go_wp2
          go_ret
          exact ⟨rfl, rfl⟩
      · have hx := h1 (by omega)
        subst hx
        by_cases hy : y = 0
        · subst hy
          go_wp2
          go_roundw
          case rel => exact ⟨2, rfl, by omega, by simp, by simp, by simp⟩
          case measure => simp [intOf]
        · go_wp2
          go_ret
          exact ⟨rfl, rfl⟩
    · obtain rfl : k = 2 := by omega
      have hx := h1 (by omega)
      have hy := h2 (by omega)
      subst hx
      subst hy
      go_wp2
      go_ret
      exact ⟨rfl, rfl⟩
abbrev tagV (s i : Int) : Value := .agg #[.int .i64 s, .int .i64 i]
/-- A held watch in memory. -/
def HdAt (w : World) (h : He) : Prop := w.heap[h.b]? = some (.cells #[.int .i64 h.s, .int .i64 h.i, .string h.p, .int .i64 h.k, .int .i64 h.f] 91 (0, 0))
theorem HdAt.below {w w' : World} {h : He} (hh : HdAt w h) (hb : Below w.heap.size w w') : HdAt w' h := kept_block hb hh
theorem HdAt.chg {w w' : World} {h : He} {S : Nat → Prop} (hh : HdAt w h) (hc : Chg w w' S) (hs : ¬ S h.b) : HdAt w' h := by
  unfold HdAt
  rw [hc.block _ (lt_of_blk hh) hs]
  exact hh
theorem fill2 {w : World} {g : Nat} {t : TypeId} {x0 x1 y0 y1 : Value} (h : w.heap[g]? = some (.cells #[y0, y1] t (0, 0))) : ((w.setCell ⟨g, 0, none⟩ x0).setCell ⟨g, 1, none⟩ x1).heap[g]? = some (.cells #[x0, x1] t (0, 0)) := by
  have h0 := same_blk (i := 0) (v := x0) (cs' := #[x0, y1]) h rfl
  have h1 := same_blk (i := 1) (v := x1) (cs' := #[x0, x1]) h0 rfl
  exact h1
set_option maxHeartbeats 4000000 in
theorem tag_any (h : He) (w : World) (hh : HdAt w h) :
    Calls Tryz.prog 32 #[h.ptr] w fun e w' => e = .returned (tagV h.s h.i) ∧ Below w.heap.size w w' := by
  have hh' := new_old hh (.cells #[.int .i64 0, .int .i64 0] 34)
  obtain ⟨x0, x1, x2, x3, x4⟩ := cells_5 hh'
  have hy : (w.alloc (.cells #[.int .i64 0, .int .i64 0] 34)).heap[w.heap.size]? = some (.cells #[.int .i64 0, .int .i64 0] 34 (0, 0)) := heap_alloc_new _ _
  obtain ⟨y0, y1⟩ := cells_2 hy
  have hf := free_2 hy
  have HB : Hid (Below w.heap.size w (w.alloc (.cells #[.int .i64 0, .int .i64 0] 34))) := (Below.refl _ _).alloc (Nat.le_refl _) _
  have HY : Hid _ := hy
  clear hh hh' hy
  go_enter Tryz.func32, Tryz.ntmps32
  go_wp2
  go_region
  go_wp2_with fail
  exact bodyPost_ret (results_cell_row rfl _ _ w.heap.size 34 _ (0, 0) _ rfl (heap_alloc_new _ _) Tryz.underlying34 rfl (by kernel_rfl)) rfl ⟨rfl, below_drew ((Below.refl _ _).alloc (Nat.le_refl _) _)⟩
theorem box2 {w : World} {a b a' b' : Value} : (((w.alloc (.cells #[a, b] 34)).alloc (.cells #[a', b'] 34)).cell? ⟨w.heap.size, 0, none⟩ = some a ∧ ((w.alloc (.cells #[a, b] 34)).alloc (.cells #[a', b'] 34)).cell? ⟨w.heap.size, 1, none⟩ = some b) ∧ (((w.alloc (.cells #[a, b] 34)).alloc (.cells #[a', b'] 34)).cell? ⟨w.heap.size + 1, 0, none⟩ = some a' ∧ ((w.alloc (.cells #[a, b] 34)).alloc (.cells #[a', b'] 34)).cell? ⟨w.heap.size + 1, 1, none⟩ = some b') :=
  ⟨cells_2 (heap_alloc2_old _ _ _), cells_2 (heap_alloc2_new _ _ _)⟩
theorem box3 {w : World} {A B C : Obj} : ((((w.alloc A).alloc B).alloc C).drew).heap[w.heap.size + 1 + 1]? = some C := heap_new' (w := (w.alloc A).alloc B) (by simp)
/-- Some draws, and new blocks. -/
def Gw (w w' : World) : Prop := ∃ (n : Nat) (os : Array Obj), w' = grow (w.drewN n) os
theorem Gw.refl (w : World) : Gw w w := ⟨0, #[], by rw [grow_empty]; rfl⟩
theorem Gw.alloc {w w' : World} (h : Gw w w') (o : Obj) : Gw w (w'.alloc o) := by
  obtain ⟨n, os, rfl⟩ := h
  exact ⟨n, os.push o, by simp [grow, World.alloc, World.drewN]⟩
theorem Gw.drew {w w' : World} (h : Gw w w') : Gw w w'.drew := by
  obtain ⟨n, os, rfl⟩ := h
  exact ⟨n + 1, os, rfl⟩
theorem Gw.below {w w' : World} (h : Gw w w') : Below w.heap.size w w' := by
  obtain ⟨n, os, rfl⟩ := h
  refine ⟨rfl, rfl, rfl, by simp [grow, World.drewN], fun k hk => ?_⟩
  show (w.heap ++ os)[k]? = w.heap[k]?
  rw [Array.getElem?_append_left hk]
set_option maxHeartbeats 16000000 in
set_option maxRecDepth 100000 in
theorem order_tags (s i s' i' : Int) (w : World) :
    Calls Tryz.prog 34 #[tagV s i, tagV s' i'] w fun e w' => e = .returned (.int .i64 (ctI s i s' i')) ∧ Gw w w' := by
  obtain ⟨⟨a0, a1⟩, b0, b1⟩ := box2 (w := w) (a := .int .i64 s) (b := .int .i64 i) (a' := .int .i64 s') (b' := .int .i64 i')
  go_enter Tryz.func34, Tryz.ntmps34
  go_wp2
  go_region_held3 (fun w' => w'.cell? ⟨w.heap.size, 0, none⟩ = some (.int .i64 s) ∧ w'.cell? ⟨w.heap.size, 1, none⟩ = some (.int .i64 i) ∧ w'.cell? ⟨w.heap.size + 1, 0, none⟩ = some (.int .i64 s') ∧ w'.cell? ⟨w.heap.size + 1, 1, none⟩ = some (.int .i64 i')) (first | go_keep | exact ⟨a0, a1, b0, b1⟩)
    (first
      | (go_at_call 27; refine (compX _ _ _).mono ?_; rintro e w1 ⟨rfl, rfl⟩)
      | (go_at_call 56; refine (orX _ _ _ _ box3).mono ?_; rintro e w1 ⟨rfl, rfl⟩))
  all_goals go_wp2_with fail
  all_goals go_ret
  all_goals refine ⟨rfl, ?_⟩
  all_goals exact ((((Gw.refl w).alloc _).alloc _).alloc _).drew
end Go.Proofs.YtcoicoijllpgnaaGreatDoor
