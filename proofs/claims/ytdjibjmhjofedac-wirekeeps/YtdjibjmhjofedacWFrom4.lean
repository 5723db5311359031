/-
  Words of four bytes in the document's answer.
-/
import Derived.Test.YtdjibjmhjofedacWWord
namespace Go.Proofs.Ytdjibjmhjofedac
open Go.RowKit

set_option maxHeartbeats 1600000 in
set_option maxRecDepth 100000 in
theorem from4_some (b o n c : Nat) (j : Nat) (z0 z1 z2 z3 : Int) (w : World) (hn : j + 4 ≤ n) (hm : n ≤ 1000000) (h0 : w.cell? ⟨b, o + j, none⟩ = some (.int .u8 z0)) (h1 : w.cell? ⟨b, o + (j + 1), none⟩ = some (.int .u8 z1)) (h2 : w.cell? ⟨b, o + (j + 2), none⟩ = some (.int .u8 z2)) (h3 : w.cell? ⟨b, o + (j + 3), none⟩ = some (.int .u8 z3))
    (b0 : 0 ≤ z0 ∧ z0 < 256) (b1 : 0 ≤ z1 ∧ z1 < 256) (b2 : 0 ≤ z2 ∧ z2 < 256) (b3 : 0 ≤ z3 ∧ z3 < 256) :
    Calls Try.prog 37 #[.slice (some ⟨b, o, none⟩) n c, .int .i64 j] w fun e w' => e = .returned (.int .i64 (be [z0, z1, z2, z3])) ∧ ∃ m, w' = w.drewN m := by
  obtain ⟨x, y, e1, e2, e3⟩ := or_word b0 b1 b2 b3
  generalize be [z0, z1, z2, z3] = R at e3 ⊢
  have i0 : (j : Int) < (n : Int) := by omega
  have i1 : (j : Int) + 1 < (n : Int) := by omega
  have i2 : (j : Int) + 2 < (n : Int) := by omega
  have i3 : (j : Int) + 3 < (n : Int) := by omega
  go_enter Try.func37, Try.ntmps37
  go_wp2
  go_quiet (fail)
  go_wp2
  go_ret
  exact ⟨rfl, nq, rfl⟩

theorem from4_any (b o c : Nat) (xs : List Int) (j : Nat) (w : World) (hj : j + 4 ≤ xs.length) (hm : xs.length ≤ 1000000) (hs : ∀ (j : Nat) (z : Int), xs[j]? = some z → w.cell? ⟨b, o + j, none⟩ = some (.int .u8 z)) (hb : Byt xs) :
    Calls Try.prog 37 #[.slice (some ⟨b, o, none⟩) xs.length c, .int .i64 j] w fun e w' => e = .returned (.int .i64 (w4 xs j)) ∧ Below w.heap.size w w' := by
  obtain ⟨z0, z1, z2, z3, h0, h1, h2, h3, e⟩ := w4_at hj
  rw [e]
  refine (from4_some b o xs.length c j z0 z1 z2 z3 w (by omega) hm (hs j z0 h0) (hs (j + 1) z1 h1) (hs (j + 2) z2 h2) (hs (j + 3) z3 h3) (hb.at h0) (hb.at h1) (hb.at h2) (hb.at h3)).mono ?_
  rintro e w' ⟨rfl, m, rfl⟩
  exact ⟨rfl, below_drewN (Below.refl _ _) m⟩
end Go.Proofs.Ytdjibjmhjofedac
