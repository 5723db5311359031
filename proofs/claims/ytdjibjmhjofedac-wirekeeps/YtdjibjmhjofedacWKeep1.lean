/-
  keep.
-/
import Derived.Test.YtdjibjmhjofedacWKeep
import Derived.Laws.Rows
namespace Go.Proofs.Ytdjibjmhjofedac
open Go.RowKit
set_option linter.unusedVariables false

theorem owns_low {w : World} {base b2 n : Nat} {e : TypeId} {v : Value} {vals : List Value} (h : w.ownsRow base e 1 v n vals) (hb : b2 ≤ base) : w.ownsRow b2 e 1 v n vals :=
  ⟨h.1, h.2.imp id (fun ⟨g, cap, cur, a, b, c⟩ => ⟨g, cap, cur, a, Nat.le_trans hb b, c⟩)⟩

set_option maxHeartbeats 3200000 in
set_option maxRecDepth 100000 in
theorem keep_any (a : Option Addr) (c : Nat) (zs : List Int) (w : World) (hx : Bys w a zs) (hn : a = none → c = 0) (hm : zs.length ≤ 900000) :
    Calls Try.prog 18 #[.slice a zs.length c] w fun e w' => ∃ a' c', e = .returned (.agg #[.slice a zs.length c, .slice a' zs.length c', .slice none 0 0]) ∧ w'.ownsRow w.heap.size 5 1 (.slice a' zs.length c') zs.length (bv zs) ∧ Below w.heap.size w w' := by
  have HX : Hid (Bys w a zs) := hx
  clear hx
  go_enter Try.func18, Try.ntmps18
  have HX1 : Hid (Bys (w.alloc (.cells #[.slice none 0 0, .slice none 0 0, .slice none 0 0] 45)) a zs) := HX.out.below ((Below.refl _ _).alloc (Nat.le_refl _) _)
  have HB0 : Hid (Below w.heap.size w (w.alloc (.cells #[.slice none 0 0, .slice none 0 0, .slice none 0 0] 45))) := (Below.refl _ _).alloc (Nat.le_refl _) _
  have hs1 : w.heap.size + 1 ≤ (w.alloc (.cells #[.slice none 0 0, .slice none 0 0, .slice none 0 0] 45)).heap.size := by simp
  have hrb : (w.alloc (.cells #[.slice none 0 0, .slice none 0 0, .slice none 0 0] 45)).heap[w.heap.size]? = some (.cells #[.slice none 0 0, .slice none 0 0, .slice none 0 0] 45 (0, 0)) := World.alloc_heap_new _ _
  generalize hw1 : (w.alloc (.cells #[.slice none 0 0, .slice none 0 0, .slice none 0 0] 45)) = w1 at HX1 HB0 hs1 hrb
  have HRB : Hid _ := hrb
  clear hrb
  go_wp2_with (first | (at_builtin; refine wpList_app rfl _ _ rfl (w.heap.size + 1) (.slice none 0 0) [] rfl (World.ownsRow_nil _ _ _ _) a zs.length c zs rfl rfl HX1.out hn (by simp; omega) hs1 ?_) | fail)
  intro v3 w3 ho3 hg3
  obtain ⟨a3, c3, hv, hbys, _⟩ := bys_of_owns ho3
  subst hv
  have HO : Hid _ := ho3
  have HG : Hid (w1.grownBy w3 none) := hg3
  have hr3 : w3.heap[w.heap.size]? = some (.cells #[.slice none 0 0, .slice none 0 0, .slice none 0 0] 45 (0, 0)) := (hg3.block _ (lt_of_blk HRB.out) (fun h => by cases h)).trans HRB.out
  have hq0 : w3.cell? ⟨w.heap.size, 0, none⟩ = some (.slice none 0 0) := (cell_blk hr3 0).trans rfl
  have hq1 : w3.cell? ⟨w.heap.size, 1, none⟩ = some (.slice none 0 0) := (cell_blk hr3 1).trans rfl
  have hq2 : w3.cell? ⟨w.heap.size, 2, none⟩ = some (.slice none 0 0) := (cell_blk hr3 2).trans rfl
  have hf0 : w3.frozen? ⟨w.heap.size, 0, none⟩ = false := frozen_blk hr3 0
  have hf1 : w3.frozen? ⟨w.heap.size, 1, none⟩ = false := frozen_blk hr3 1
  have hf2 : w3.frozen? ⟨w.heap.size, 2, none⟩ = false := frozen_blk hr3 2
  have HR3 : Hid _ := hr3
  clear ho3 hg3 hbys hr3
  go_wp2_with fail
  have hblk := set_blk (set_blk (set_blk HR3.out 0 (.slice a zs.length c)) 1 (.slice a3 zs.length c3)) 2 (.slice none 0 0)
  have hfr : Fr (fun k => k = w.heap.size) w3 (((w3.setCell ⟨w.heap.size, 0, none⟩ (.slice a zs.length c)).setCell ⟨w.heap.size, 1, none⟩ (.slice a3 zs.length c3)).setCell ⟨w.heap.size, 2, none⟩ (.slice none 0 0)) :=
    ((Fr.of_setCell w3 ⟨w.heap.size, 0, none⟩ _).trans (Fr.of_setCell _ ⟨w.heap.size, 1, none⟩ _) (fun j e => .inl e)).trans (Fr.of_setCell _ ⟨w.heap.size, 2, none⟩ _) (fun j e => .inl e)
  have hb3 : Below w.heap.size w w3 := HB0.out.trans ((Below.refl _ _).grown HG.out (by omega) (fun k hk => by cases hk))
  refine bodyPost_ret (results_cell_row rfl _ _ w.heap.size 45 _ (0, 0) _ rfl hblk Try.underlying45 rfl (by kernel_rfl)) rfl ⟨a3, c3, rfl, owns_fr (owns_low HO.out (Nat.le_succ _)) hfr (fun k hk e => ?_), hb3.trans (hfr.below _ hb3.size (fun k e => by rw [show k = w.heap.size from e]; exact Nat.le_refl _))⟩
  have := (owns_kind HO.out k hk).2.1
  have : k = w.heap.size := e
  omega

end Go.Proofs.Ytdjibjmhjofedac
