/-
  WireNothing: the zero and the nil Stream.
-/
import Derived.Test.YtdjibjmhjofedacWFeed
import Derived.Test.YtdjibjmhjofedacWAwake
namespace Go.Proofs.Ytdjibjmhjofedac
open Go.RowKit Go.Shelf
set_option linter.unusedVariables false
attribute [local go_sem] Oper.semAt_some

set_option maxRecDepth 100000 in
set_option maxHeartbeats 6400000 in
theorem taken_nil (most : Int) (w : World) (hm : 0 < most) :
    Calls Try.prog 11 #[.pointer none, .int .i64 most] w fun e w' => e = .returned (.tuple #[.slice none 0 0, .bool true]) ∧ Below w.heap.size w w' := by
  have heq := eql_func_nil
  refine (callsIn_wide (n := 3)).1 ?_
  refine callsIn_of_wp_marks Try.func11 rfl trivial ?_ rfl
  simp only [Try.ntmps11, List.size_toArray, List.length_cons, List.length_nil, Nat.reduceAdd, Nat.reduceSub, Array.replicate_succ, Array.replicate_zero, List.push_toArray, List.append_toArray, List.nil_append, List.cons_append]
  gi_wp2_with (refine ⟨trivial, ?_⟩; gi_at_call 31; refine (callsIn_wide.2 (bodies_any _ _)).mono ?_; rintro e w' ⟨rfl, rfl⟩)
  obtain ⟨W0, hW0⟩ : ∃ W0, (((w.alloc (.cells #[.int .i64 most] 3)).alloc (.cells #[.slice none 0 0] 22)).alloc (.cells #[.pointer none] 31)) = W0 := ⟨_, rfl⟩
  rw [hW0]
  have hbel : Below w.heap.size w W0 := by rw [← hW0]; exact (((Below.refl _ w).alloc (Nat.le_refl _) _).alloc (by simp) _).alloc (by simp; omega) _
  have hbl : W0.heap[w.heap.size + 1]? = some (.cells #[.slice none 0 0] 22 (0, 0)) := by
    rw [← hW0]
    refine (Below.heap_alloc _ _ _ (by simp)).trans ?_
    have := World.alloc_heap_new (w.alloc (.cells #[.int .i64 most] 3)) (.cells #[.slice none 0 0] 22)
    rwa [World.size_alloc] at this
  have hbs : W0.heap[w.heap.size + 1 + 1]? = some (.cells #[.pointer none] 31 (0, 0)) := by
    rw [← hW0]
    have := World.alloc_heap_new ((w.alloc (.cells #[.int .i64 most] 3)).alloc (.cells #[.slice none 0 0] 22)) (.cells #[.pointer none] 31)
    rwa [World.size_alloc, World.size_alloc] at this
  have hB0 : w.heap.size ≤ W0.heap.size := hbel.size
  have own : ∀ {A C : World} {row : Option Nat}, (Below w.heap.size w A ∧ A.heap[w.heap.size + 1]? = some (.cells #[.slice none 0 0] 22 (0, 0)) ∧ A.heap[w.heap.size + 1 + 1]? = some (.cells #[.pointer none] 31 (0, 0))) → A.grownBy C row → (∀ r, row = some r → W0.heap.size ≤ r ∧ ∃ o : Obj, A.heap[r]? = some o ∧ o.isCells = false) →
      (Below w.heap.size w C ∧ C.heap[w.heap.size + 1]? = some (.cells #[.slice none 0 0] 22 (0, 0)) ∧ C.heap[w.heap.size + 1 + 1]? = some (.cells #[.pointer none] 31 (0, 0))) := fun {A C row} h hg hr => by
    have hf := Fr.of_grown hg
    have no : ∀ {b : Nat} {cur : Array Value} {e : TypeId}, A.heap[b]? = some (.cells cur e (0, 0)) → row ≠ some b := fun hb e => by
      obtain ⟨_, o, ho, hc⟩ := hr _ e
      rw [hb] at ho; cases ho; cases hc
    exact ⟨h.1.trans (hf.below _ h.1.size (fun k e => by have := (hr k e).1; omega)), (hf.block _ (lt_of_blk h.2.1) (no h.2.1)).trans h.2.1, (hf.block _ (lt_of_blk h.2.2) (no h.2.2)).trans h.2.2⟩
  refine wpIn_range_st (σ := Unit) (α := Value) rfl (by decide) (gf := 41) (lb := #[.pointer (some ⟨w.heap.size + 1 + 1, 0, none⟩)]) rfl trivial (enters_of Try.func41 (by kernel_rfl) rfl)
    (encs := fun v => #[v]) (fun _ => rfl)
    (I := fun _ W => Below w.heap.size w W ∧ W.heap[w.heap.size + 1]? = some (.cells #[.slice none 0 0] 22 (0, 0)) ∧ W.heap[w.heap.size + 1 + 1]? = some (.cells #[.pointer none] 31 (0, 0)))
    (Y := fun _ x W => False)
    (N := fun _ _ _ => False)
    (X := fun c W => False)
    (E := fun W => Below w.heap.size w W ∧ W.heap[w.heap.size + 1]? = some (.cells #[.slice none 0 0] 22 (0, 0)) ∧ W.heap[w.heap.size + 1 + 1]? = some (.cells #[.pointer none] 31 (0, 0))) (s0 := ())
    (bodies_seq _ none (w.heap.size + 1 + 1) _ _ _ _ _ _ _ (fun _ => 0) ?takes (fun _ _ _ h => h.elim))
    (fun k A C row hs hg hr => own hs hg hr)
    (fun k x _ A C row hs hg hr => hs)
    (fun c A C row hs hg hr => hs)
    (fun _ A C row hs hg hr => own hs hg hr)
    ⟨hbel, hbl, hbs⟩
    (fun x => { tmps := #[.pointer none, .int .i64 most, undef, .pointer (some ⟨w.heap.size, 0, none⟩), .slice none 0 0, .bool false, .pointer (some ⟨w.heap.size + 1, 0, none⟩), .func (.func 41) #[] #[.pointer (some ⟨w.heap.size + 1 + 1, 0, none⟩)], x, .pointer none, .func (.func 41) #[] #[.pointer (some ⟨w.heap.size + 1 + 1, 0, none⟩)], .func (.func 41) #[] #[.pointer (some ⟨w.heap.size + 1 + 1, 0, none⟩)], .bool false, .int .i64 most, .bool (decide (most ≤ 0)), undef, .func (.func 41) #[] #[.pointer (some ⟨w.heap.size + 1 + 1, 0, none⟩)], x, undef, undef, undef, undef, undef, undef, undef, undef, undef], defers := [] }) ?assign ?body ?done ?stop
  case takes =>
    rintro k W ⟨h1, h2, h3⟩
    refine ⟨(cell_blk h3 0).trans rfl, (take_nil W).mono ?_⟩
    rintro e W' ⟨rfl, rfl⟩
    exact ⟨KeepsOthers.refl _, .inl ⟨rfl, h1, h2, h3⟩⟩
  case assign =>
    intro l x W K hK
    gi_wp2
    exact hK
  case body =>
    intro l s x W _ _ h
    exact h.elim
  case done =>
    rintro D W hD ⟨hb1, hb2, hb3⟩ hK
    have hc : W.cell? ⟨w.heap.size + 1, 0, none⟩ = some (.slice none 0 0) := (cell_blk hb2 0).trans rfl
    have HB1 : Hid (Below w.heap.size w W) := hb1
    clear hb1 hb2 hb3 own hbel hbl hbs heq hW0
    gi_wp2
    refine ⟨by simp, .inl ⟨_, _, rfl, run_takeDeferred hK, ?_⟩⟩
    exact ⟨_, results_tmp2 rfl _ _ _, rfl, HB1.out.trans ((Fr.of_grown (grownBy_putObj' W D (.deferred none))).below _ HB1.out.size (fun k e => by cases e; omega))⟩
  case stop =>
    rintro D c W _ h _
    exact h.elim

set_option maxHeartbeats 1600000 in
set_option maxRecDepth 100000 in
theorem skipped_nil (w : World) :
    Calls Try.prog 12 #[.pointer none] w fun e w' => e = .returned (.int .i64 0) ∧ w' = w := by
  go_enter Try.func12, Try.ntmps12
  go_wp2
  go_ret
  exact ⟨rfl, rfl⟩
set_option maxHeartbeats 1600000 in
set_option maxRecDepth 100000 in
theorem skipped_st (sb : Nat) (v : Int) (w : World) (h : w.cell? ⟨sb, 2, none⟩ = some (.int .i64 v)) :
    Calls Try.prog 12 #[.pointer (some ⟨sb, 0, none⟩)] w fun e w' => e = .returned (.int .i64 v) ∧ w' = w := by
  go_enter Try.func12, Try.ntmps12
  go_wp2
  go_ret
  exact ⟨rfl, rfl⟩
end Go.Proofs.Ytdjibjmhjofedac
