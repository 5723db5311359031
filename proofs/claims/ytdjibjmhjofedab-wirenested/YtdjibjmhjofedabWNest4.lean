/-
  WireNested: the last frame; a result in a box.
-/
import Derived.Test.YtdjibjmhjofedabWNest3
import Derived.Laws.ResultCell
namespace Go.Proofs.Ytdjibjmhjofedab
open Go.RowKit Go.Shelf
set_option linter.unusedVariables false

theorem results_box {fn : Func} {p : Tmp} (h : fn.results = #[.cell p 4]) (tmps : Array Value) (w : World) (g : Nat) (b : Bool) (hp : tmps.getD p undef = .pointer (some ⟨g, 0, none⟩)) (hg : w.cell? ⟨g, 0, none⟩ = some (.bool b)) :
    (results fn tmps).run Try.prog w = .ok (.bool b) w := by
  have hp' : tmps[p]?.getD undef = .pointer (some ⟨g, 0, none⟩) := by simpa using hp
  simp only [results, h]
  simp [hp', asAddr]
  go_simp

theorem one_frame (w : World) :
    Calls Try.prog 15 #[.slice (some ⟨w.heap.size + 1, 0, none⟩) 1 1] ((w.alloc (.cells #[.int .u8 97] 5 (1, 2))).alloc (.cells #[.slice (some ⟨w.heap.size, 0, none⟩) 1 1] 22)) fun e w' => ∃ a' c', e = .returned (.tuple #[.slice a' 15 c', .int .i64 0]) ∧ Below w.heap.size w w' := by
  have hb : Byt [97] := by intro z hz; simp at hz; omega
  have al : Below w.heap.size w ((w.alloc (.cells #[.int .u8 97] 5 (1, 2))).alloc (.cells #[.slice (some ⟨w.heap.size, 0, none⟩) 1 1] 22)) := ((Below.refl _ _).alloc (Nat.le_refl _) _).alloc (by simp) _
  have hx := lit_bys w [97] (1, 2)
  have al1 : Below (w.alloc (.cells #[.int .u8 97] 5 (1, 2))).heap.size (w.alloc (.cells #[.int .u8 97] 5 (1, 2))) ((w.alloc (.cells #[.int .u8 97] 5 (1, 2))).alloc (.cells #[.slice (some ⟨w.heap.size, 0, none⟩) 1 1] 22)) := (Below.refl _ _).alloc (Nat.le_refl _) _
  have hp : Pcs ((w.alloc (.cells #[.int .u8 97] 5 (1, 2))).alloc (.cells #[.slice (some ⟨w.heap.size, 0, none⟩) 1 1] 22)) (some ⟨w.heap.size + 1, 0, none⟩) [(some ⟨w.heap.size, 0, none⟩, 1, [97])] := by
    refine ⟨.inr ⟨w.heap.size + 1, 0, rfl, by simp, fun j p hp => ?_⟩, fun p hp => ?_⟩
    · have h := cell_one_new (w.alloc (.cells #[.int .u8 97] 5 (1, 2))) (.slice (some ⟨w.heap.size, 0, none⟩) 1 1) 22 j p.val (by
        match j, hp with
        | 0, h => simp at h; subst h; rfl
        | j + 1, h => simp at h)
      rw [addr_add, World.size_alloc] at h
      exact h
    · rw [List.mem_singleton] at hp
      subst hp
      exact ⟨hx.below al1, hb, fun h => by cases h⟩
  have h := frame_any (some ⟨w.heap.size + 1, 0, none⟩) 1 _ _ hp (show 1 ≤ 262144 by omega) (show 1 ≤ 1000000 by omega)
  have hbo : bodyOf [((some ⟨w.heap.size, 0, none⟩ : Option Addr), 1, ([97] : List Int))] = [97] := by simp [bodyOf]
  rw [hbo, show (frameL [97]).length = 15 from frame_len [97]] at h
  refine h.mono ?_
  rintro e w' ⟨a', c', rfl, _, hb'⟩
  exact ⟨a', c', rfl, trans2 al hb'⟩
end Go.Proofs.Ytdjibjmhjofedab
