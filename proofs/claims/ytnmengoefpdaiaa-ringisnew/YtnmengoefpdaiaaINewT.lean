/-
  ring, own.go: the ring turned behind what was told.
-/
import Derived.Test.YtnmengoefpdaiaaINewQ
namespace Go.Proofs.Ytnmengoefpdaiaa.I
open Go.RowKit
set_option linter.unusedVariables false
set_option linter.unusedSimpArgs false

theorem op4_os (w : World) : Os (w.alloc (.cells #[.int .i64 4, .string ⟨#[]⟩, .string ⟨#[]⟩, .int .i64 0, .int .i64 0] 49)) (some ⟨w.heap.size, 0, none⟩) [⟨4, ⟨#[]⟩, ⟨#[]⟩, 0, 0⟩] := by
  refine .inr ⟨w.heap.size, 0, rfl, by simp, fun i o hi j x hx => ?_⟩
  rw [cell_blk (heap_alloc_new _ _), Nat.zero_add]
  have hj5 : j < 5 := (List.getElem?_eq_some_iff.1 hx).1
  match i, hi with
  | 0, hi' =>
    simp only [List.getElem?_cons_zero, Option.some.injEq] at hi'
    subst hi'
    match j, hx with
    | 0, hx => exact hx
    | 1, hx => exact hx
    | 2, hx => exact hx
    | 3, hx => exact hx
    | 4, hx => exact hx
  | i + 1, hi' => simp at hi'
theorem op4_small (s v : Int) : (⟨s, v, 0, 0, 0, [⟨4, ⟨#[]⟩, ⟨#[]⟩, 0, 0⟩]⟩ : EnT).Small := by
  refine ⟨by show 1 * 56 ≤ 140737488355328; decide, fun o ho => ?_⟩
  have h1 : o ∈ [(⟨4, ⟨#[]⟩, ⟨#[]⟩, 0, 0⟩ : OpT)] := ho
  simp only [List.mem_cons, List.not_mem_nil, or_false] at h1
  subst h1
  exact ⟨by show (ByteArray.mk #[]).size ≤ _; decide, by show (ByteArray.mk #[]).size ≤ _; decide⟩
theorem rp_lt {w : World} {b : Nat} {R : RingT} (h : RP w (some ⟨b, 0, none⟩) R) : b < w.heap.size := by
  rcases h with ⟨h0, _⟩ | ⟨b', h0, hr⟩
  · cases h0
  · cases h0
    exact hr.lt
theorem app_one (b : Nat) (R : RingT) (s v : Int) (w : World) (h : RP w (some ⟨b, 0, none⟩) R) :
    Calls Try.prog 15 #[.pointer (some ⟨b, 0, none⟩), .agg #[.int .i64 s, .int .i64 v, .int .i64 0, .int .i64 0, .int .i64 0, .slice (some ⟨w.heap.size, 0, none⟩) 1 1]]
      (w.alloc (.cells #[.int .i64 4, .string ⟨#[]⟩, .string ⟨#[]⟩, .int .i64 0, .int .i64 0] 49)) fun e' w' => ∃ c R', e' = .returned (.int .i64 c) ∧ RP w' (some ⟨b, 0, none⟩) R' ∧ Chg w w' (fun k => k = b) := by
  have hlt := rp_lt h
  have key := append_any (some ⟨b, 0, none⟩) R ⟨s, v, 0, 0, 0, [⟨4, ⟨#[]⟩, ⟨#[]⟩, 0, 0⟩]⟩ (some ⟨w.heap.size, 0, none⟩) 1 1 (w.alloc (.cells #[.int .i64 4, .string ⟨#[]⟩, .string ⟨#[]⟩, .int .i64 0, .int .i64 0] 49)) (h.below ((Below.refl _ _).alloc (Nat.le_refl _) _)) rfl (op4_os w) (fun b' o' hh => by cases hh; intro e; cases e; omega) (op4_small s v)
  refine key.mono ?_
  rintro e' w' ⟨rfl, hs⟩
  exact ⟨_, _, rfl, hs.rp, (Chg.alloc w _ _).trans (hs.chg.mono (fun k _ e => by cases e; rfl))⟩
theorem cut_one (b : Nat) (R : RingT) (n : Int) (w : World) (h : RP w (some ⟨b, 0, none⟩) R) :
    Calls Try.prog 16 #[.pointer (some ⟨b, 0, none⟩), .int .i64 n] w fun e' w' => ∃ c, e' = .returned (.int .i64 c) ∧ Chg w w' (fun k => k = b) :=
  (cut_any (some ⟨b, 0, none⟩) R n w h).mono (by
    rintro e' w' ⟨rfl, hs⟩
    exact ⟨_, rfl, hs.chg.mono (fun k _ e => by cases e; rfl)⟩)
end Go.Proofs.Ytnmengoefpdaiaa.I
