/-
  WireNested: where a list is too long; all together.
-/
import Derived.Test.YtdjibjmhjofedabWNestWalk
namespace Go.Proofs.Ytdjibjmhjofedab
open Go.RowKit Go.Shelf
set_option linter.unusedVariables false

set_option maxRecDepth 100000 in
set_option maxHeartbeats 6400000 in
theorem nested_big (aa ab ac : Option Addr) (ca cb cc : Nat) (ps qs rs : List Pc) (inner : Int) (w : World) (s1 s2 s3 : Bool) (hs : (s1 && s2 && s3) = false)
    (h1 : ∀ w', Below w.heap.size w w' → Calls Try.prog 17 #[.slice aa ps.length ca] w' fun e w'' => e = .returned (.bool s1) ∧ w'' = w')
    (h2 : ∀ w', Below w.heap.size w w' → Calls Try.prog 17 #[.slice ab qs.length cb] w' fun e w'' => e = .returned (.bool s2) ∧ w'' = w')
    (h3 : ∀ w', Below w.heap.size w w' → Calls Try.prog 17 #[.slice ac rs.length cc] w' fun e w'' => e = .returned (.bool s3) ∧ w'' = w') :
    Calls Try.prog 8 #[.slice aa ps.length ca, .slice ab qs.length cb, .slice ac rs.length cc, .int .i64 inner] w fun e w' => e = .returned (.bool true) ∧ Below w.heap.size w w' := by
  obtain ⟨w1, hw1⟩ : ∃ w1, ((w.alloc (.cells #[.slice ab qs.length cb] 37)).alloc (.cells #[.int .i64 inner] 3)).alloc (.cells #[.bool false] 4) = w1 := ⟨_, rfl⟩
  have HB1 : Hid (Below w.heap.size w w1) := by rw [← hw1]; exact (((Below.refl _ w).alloc (Nat.le_refl _) _).alloc (by simp) _).alloc (by simp; omega) _
  have hx1 : w1.cell? ⟨w.heap.size, 0, none⟩ = some (.slice ab qs.length cb) := by rw [← hw1]; exact (cell_blk ((Below.heap_alloc _ _ _ (by simp; omega)).trans ((Below.heap_alloc _ _ _ (by simp)).trans (World.alloc_heap_new w _))) 0).trans rfl
  have hx3 : w1.heap[w.heap.size + 1 + 1]? = some (.cells #[.bool false] 4 (0, 0)) := by
    rw [← hw1]
    have := World.alloc_heap_new ((w.alloc (.cells #[.slice ab qs.length cb] 37)).alloc (.cells #[.int .i64 inner] 3)) (.cells #[.bool false] 4)
    rwa [World.size_alloc, World.size_alloc] at this
  have hr1 : w1.cell? ⟨w.heap.size + 1 + 1, 0, none⟩ = some (.bool false) := (cell_blk hx3 0).trans rfl
  have hr2 : w1.frozen? ⟨w.heap.size + 1 + 1, 0, none⟩ = false := frozen_blk hx3 0
  have H1 : Hid _ := h1 w1 HB1.out
  have H2 : Hid _ := h2 w1 HB1.out
  have H3 : Hid _ := h3 w1 HB1.out
  have HE : Hid (∀ a : Act, a.defers = [] → a.tmps.getD 8 undef = .pointer (some ⟨w.heap.size + 1 + 1, 0, none⟩) → bodyPost Try.prog Try.f8 (fun e w' => e = .returned (.bool true) ∧ Below w.heap.size w w') .ret a (w1.setCell ⟨w.heap.size + 1 + 1, 0, none⟩ (.bool true))) := fun a hd hp =>
    bodyPost_ret (results_box rfl _ _ (w.heap.size + 1 + 1) true hp ((cell_blk (set_blk hx3 0 (.bool true)) 0).trans rfl)) hd ⟨rfl, HB1.out.trans ((Fr.of_setCell w1 ⟨w.heap.size + 1 + 1, 0, none⟩ (.bool true)).below _ HB1.out.size (fun k e => by rw [show k = w.heap.size + 1 + 1 from e]; omega))⟩
  clear h1 h2 h3 hx3
  cases s1 with
  | false =>
    go_enter Try.func8, Try.ntmps8
    go_wp2_with fail
    refine Calls.mono H1.out ?_
    rintro e w1' ⟨rfl, rfl⟩
    go_wp2_with fail
    exact HE.out _ rfl rfl
  | true =>
    cases s2 with
    | false =>
      go_enter Try.func8, Try.ntmps8
      go_wp2_with fail
      refine Calls.mono H1.out ?_
      rintro e w1' ⟨rfl, rfl⟩
      go_wp2_with fail
      refine Calls.mono H2.out ?_
      rintro e w1' ⟨rfl, rfl⟩
      go_wp2_with fail
      exact HE.out _ rfl rfl
    | true =>
      obtain rfl : s3 = false := by simpa using hs
      go_enter Try.func8, Try.ntmps8
      go_wp2_with fail
      refine Calls.mono H1.out ?_
      rintro e w1' ⟨rfl, rfl⟩
      go_wp2_with fail
      refine Calls.mono H2.out ?_
      rintro e w1' ⟨rfl, rfl⟩
      go_wp2_with fail
      refine Calls.mono H3.out ?_
      rintro e w1' ⟨rfl, rfl⟩
      go_wp2_with fail
      exact HE.out _ rfl rfl

theorem nested_walk (aa ab ac : Option Addr) (ca cb cc : Nat) (ps qs rs : List Pc) (inner : Int) (w : World) (hp : Pcs w aa ps) (kp : ps.length ≤ 9223372036854775807) (mp : ps.length ≤ 24 → (bodyOf ps).length ≤ 4611686018427387904) (hq : Pcs w ab qs) (kq : qs.length ≤ 9223372036854775807) (mq : qs.length ≤ 24 → (bodyOf qs).length ≤ 4611686018427387904) (hr : Pcs w ac rs) (kr : rs.length ≤ 9223372036854775807) (mr : rs.length ≤ 24 → (bodyOf rs).length ≤ 4611686018427387904) (hin : -9223372036854775808 ≤ inner ∧ inner ≤ 9223372036854775807) :
    Calls Try.prog 8 #[.slice aa ps.length ca, .slice ab qs.length cb, .slice ac rs.length cc, .int .i64 inner] w fun e w' => e = .returned (.bool true) ∧ Below w.heap.size w w' := by
  by_cases hs : ((bodyOf ps).length ≤ 20000 ∧ ps.length ≤ 24) ∧ ((bodyOf qs).length ≤ 20000 ∧ qs.length ≤ 24) ∧ ((bodyOf rs).length ≤ 20000 ∧ rs.length ≤ 24)
  · exact nested_small aa ab ac ca cb cc ps qs rs inner w hp hq hr hs.1 hs.2.1 hs.2.2 hin
  · refine nested_big aa ab ac ca cb cc ps qs rs inner w _ _ _ ?_ (fun w' hb => small_any aa ca ps w' (hp.below hb) kp mp) (fun w' hb => small_any ab cb qs w' (hq.below hb) kq mq) (fun w' hb => small_any ac cc rs w' (hr.below hb) kr mr)
    rw [← Bool.not_eq_true, Bool.and_eq_true, Bool.and_eq_true, decide_eq_true_iff, decide_eq_true_iff, decide_eq_true_iff, and_assoc]
    exact hs
end Go.Proofs.Ytdjibjmhjofedab
