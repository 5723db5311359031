/-
  note: EncodeEntry.
-/
import Derived.Test.YtdjfeomdiljaeaaGreatDoorNtEn
namespace Go.Proofs.YtdjfeomdiljaeaaGreatDoor
open Go.RowKit
set_option linter.unusedVariables false
set_option linter.unusedSimpArgs false

/-- What an entry's encoding answers. -/
def EncE (x : EnN) (w : World) (e : Ending) (w' : World) : Prop := ∃ a c zs code, e = .returned (.tuple #[.slice a zs.length c, .int .i64 code]) ∧ (x.Ok ∧ zs = enL x ∧ code = 0 ∨ ¬ x.Ok ∧ zs = [] ∧ code = 30) ∧ w'.ownsRow w.heap.size 5 1 (.slice a zs.length c) zs.length (bv zs) ∧ Below w.heap.size w w'
theorem owns_none {w : World} {B e s : Nat} : w.ownsRow B e s (.slice none 0 0) 0 [] := ⟨by simp, .inl ⟨rfl, rfl⟩⟩
theorem row_keep {w w' : World} {B e s n : Nat} {v : Value} {xs : List Value} {S : Nat → Prop} (h : w.ownsRow B e s v n xs) (hc : Chg w w' S) (hS : ∀ k, B ≤ k → ¬ S k) : w'.ownsRow B e s v n xs :=
  owns_same h (fun k hk => hc.block k (h.lt k hk).2 (hS k (h.lt k hk).1))
theorem trans_chg {w1 w3 w4 : World} {n k : Nat} (h : Below w1.heap.size w1 w4) (hc : Chg w4 w3 (fun j => w1.heap.size ≤ j ∧ j < w1.heap.size + k)) (hn : w1.heap.size = n + 1) : Below n w1 w3 :=
  (h.mono (by omega)).trans (hc.below (by have := h.size; omega) (fun j _ hj => by omega))
set_option maxHeartbeats 3200000 in
set_option maxRecDepth 100000 in
theorem encE_any (x : EnN) (w : World) (hA : x.At w) : Calls Tryz.prog 8 #[x.val] w (EncE x w) := by
  obtain ⟨w1, hw1⟩ : ∃ w1, w.alloc (.cells #[.int .i64 x.st, .int .i64 x.vw, .int .i64 x.K, .int .i64 x.se, .int .i64 x.rq, .slice x.opsA x.ops.length x.opsC] 24) = w1 := ⟨_, rfl⟩
  have HW : Hid (w.alloc (.cells #[.int .i64 x.st, .int .i64 x.vw, .int .i64 x.K, .int .i64 x.se, .int .i64 x.rq, .slice x.opsA x.ops.length x.opsC] 24) = w1) := hw1
  have HB1 : Hid (Below w.heap.size w w1) := by rw [← hw1]; exact (Below.refl _ _).alloc (Nat.le_refl _) _
  have HE1 : Hid (w1.heap[w.heap.size]? = some (.cells #[.int .i64 x.st, .int .i64 x.vw, .int .i64 x.K, .int .i64 x.se, .int .i64 x.rq, .slice x.opsA x.ops.length x.opsC] 24 (0, 0))) := by show _ = _; rw [← hw1]; exact heap_alloc_new _ _
  have HS1 : Hid (w1.heap.size = w.heap.size + 1) := by show _ = _; rw [← hw1]; simp
  obtain ⟨w2, hw2⟩ : ∃ w2, w1.alloc (.cells #[.int .i64 0] 28) = w2 := ⟨_, rfl⟩
  have HB2 : Hid (Below w1.heap.size w1 w2) := by rw [← hw2]; exact (Below.refl _ _).alloc (Nat.le_refl _) _
  have HC := enc1_any w.heap.size x w2 (kept_block HB2.out HE1.out) ((hA.below HB1.out).below HB2.out)
  rw [← hw2] at HC
  have HAns : Hid _ := ans_b 24 #[.pointer (some ⟨w.heap.size, 0, none⟩)] w1 (fun V w' => x.Ok ∧ ∃ a c, V = .slice a (enL x).length c ∧ w'.ownsRow (w1.alloc (.cells #[.int .i64 0] 28)).heap.size 5 1 V (enL x).length (bv (enL x))) (fun _ => ¬ x.Ok) Tryz.call24 HC
  clear HC hw2 hw1 hA
  go_enter Tryz.func8, Tryz.ntmps8
  go_upto_region 1 with fail
  rw [HW.out]
  go_wp2_with (first
    | (go_at_call 23; refine Calls.mono HAns.out ?_
       rintro e w3 ⟨w4, hb4, hs4, hc4, ⟨V, ⟨hok, a, c, rfl, hrow⟩, rfl⟩ | ⟨hok, rfl⟩⟩)
    | fail)
  · refine bodyPost_ret (results_tmp2 rfl _ _ _) rfl ?_
    refine ⟨a, c, enL x, 0, rfl, .inl ⟨hok, rfl, rfl⟩, owns_mono (row_keep hrow hc4 (fun k hk => by simp at hk; omega)) (by simp; have := HS1.out; omega), HB1.out.trans (trans_chg hb4 hc4 HS1.out)⟩
  · refine bodyPost_ret (results_tmp2 rfl _ _ _) rfl ?_
    exact ⟨none, 0, [], 30, rfl, .inr ⟨hok, rfl, rfl⟩, owns_none, HB1.out.trans (trans_chg hb4 hc4 HS1.out)⟩
end Go.Proofs.YtdjfeomdiljaeaaGreatDoor
