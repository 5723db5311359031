/-
  tree: of a tree that nobody made.
-/
import Derived.Test.YtfjklpgnlkgfoaaGreatDoorTPlay1
namespace Go.Proofs.YtfjklpgnlkgfoaaGreatDoor
open Go.RowKit Go.Maps
set_option linter.unusedVariables false

/-- Nil, or a tree without nodes. -/
def NoTree (w : World) (t : Value) : Prop := t = .pointer none ∨ ∃ b, t = .pointer (some ⟨b, 0, none⟩) ∧ w.cell? ⟨b, 0, none⟩ = some (.map none) ∧ b < w.heap.size
theorem NoTree.below {w w' : World} {t : Value} (h : NoTree w t) (hb : Below w.heap.size w w') : NoTree w' t := by
  rcases h with h | ⟨b, h1, h2, h3⟩
  · exact .inl h
  · exact .inr ⟨b, h1, by rw [hb.cell (p := ⟨b, 0, none⟩) h3]; exact h2, Nat.lt_of_lt_of_le h3 hb.size⟩
theorem isNone_no {w : World} {t : Value} (h : NoTree w t) : Calls Tryz.prog 29 #[t] w fun e w' => e = .returned (.bool true) ∧ w' = w := by
  rcases h with rfl | ⟨b, rfl, h2, _⟩
  · exact isNone_nil w
  · exact isNone_at b none w h2

set_option maxHeartbeats 3200000 in
theorem mayPlay_no {w : World} {t : Value} (h : NoTree w t) (s st n : Int) : Calls Tryz.prog 25 #[t, .int .i64 s, .int .i64 st, .int .i64 n] w fun e w' => e = .returned (.int .i64 1) ∧ w' = w := by
  have HN : Hid _ := isNone_no h
  clear h
  go_enter Tryz.func25, Tryz.ntmps25
  go_wp2_with (first | (go_at_call 29; refine Calls.mono HN.out ?_; rintro e w1 ⟨rfl, rfl⟩) | fail)
  go_ret
  exact ⟨rfl, rfl⟩

set_option maxHeartbeats 3200000 in
theorem play_no {w : World} {t : Value} (h : NoTree w t) (s st : Int) (a : Option Addr) (n c : Nat) : Calls Tryz.prog 8 #[t, .int .i64 s, .int .i64 st, .slice a n c] w fun e w' => e = .returned (.tuple #[.agg #[.int .i64 st, .int .i64 1, .int .i64 0, .slice none 0 0], .slice none 0 0]) ∧ Below w.heap.size w w' := by
  have HM : Hid (∀ W, NoTree W t → Calls Tryz.prog 25 #[t, .int .i64 s, .int .i64 st, .int .i64 n] W fun e w' => e = .returned (.int .i64 1) ∧ w' = W) := fun W hW => mayPlay_no hW s st n
  have HN : Hid _ := h
  clear h
  go_enter Tryz.func8, Tryz.ntmps8
  go_wp2_with (first | (go_at_call 25; refine (HM.out _ (NoTree.below HN.out ((Below.refl _ _).alloc (Nat.le_refl _) _))).mono ?_; rintro e w1 ⟨rfl, rfl⟩) | fail)
  exact bodyPost_ret (results_cell_tmp rfl _ _ w.heap.size 44 _ (0, 0) _ (.slice none 0 0) rfl rfl (heap_alloc_new _ _) Tryz.underlying44 rfl (by kernel_rfl)) rfl ⟨rfl, (Below.refl _ _).alloc (Nat.le_refl _) _⟩

set_option maxHeartbeats 3200000 in
theorem end_no {w : World} {t : Value} (h : NoTree w t) (s : Int) : Calls Tryz.prog 13 #[t, .int .i64 s] w fun e w' => e = .returned (.slice none 0 0) ∧ Below w.heap.size w w' := by
  have HN : Hid _ := isNone_no h
  clear h
  go_enter Tryz.func13, Tryz.ntmps13
  go_wp2_with (first | (go_at_call 29; refine Calls.mono HN.out ?_; rintro e w1 ⟨rfl, rfl⟩) | fail)
  go_ret
  exact ⟨rfl, Below.refl _ _⟩

set_option maxHeartbeats 3200000 in
theorem part_no {w : World} {t : Value} (h : NoTree w t) (p : ByteArray) (k : Int) : Calls Tryz.prog 15 #[t, .string p, .int .i64 k] w fun e w' => e = .returned (.tuple #[.slice none 0 0, .int .i64 1]) ∧ Below w.heap.size w w' := by
  have HN : Hid _ := isNone_no h
  clear h
  go_enter Tryz.func15, Tryz.ntmps15
  go_wp2_with (first | (go_at_call 29; refine Calls.mono HN.out ?_; rintro e w1 ⟨rfl, rfl⟩) | fail)
  go_ret2
  exact ⟨rfl, Below.refl _ _⟩

set_option maxHeartbeats 3200000 in
theorem nodes_no {w : World} {t : Value} (h : NoTree w t) : Calls Tryz.prog 18 #[t] w fun e w' => e = .returned (.slice none 0 0) ∧ Below w.heap.size w w' := by
  have HN : Hid _ := isNone_no h
  clear h
  go_enter Tryz.func18, Tryz.ntmps18
  go_wp2_with (first | (go_at_call 29; refine Calls.mono HN.out ?_; rintro e w1 ⟨rfl, rfl⟩) | fail)
  go_ret
  exact ⟨rfl, Below.refl _ _⟩
end Go.Proofs.YtfjklpgnlkgfoaaGreatDoor
