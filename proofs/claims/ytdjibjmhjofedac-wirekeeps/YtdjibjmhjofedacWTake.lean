/-
  A stream in memory; take.
-/
import Derived.Test.YtdjibjmhjofedacWDeq
namespace Go.Proofs.Ytdjibjmhjofedac
open Go.RowKit
set_option linter.unusedVariables false

/-- Each lies in a block of its own. -/
def ApartV (vs : List Value) : Prop := vs.Pairwise fun a b => ∀ k, a.ownBlock = some k → b.ownBlock ≠ some k

/-- The stream at sb: what is not decided yet, the bodies found, how many bytes were skipped. -/
structure St (w : World) (sb : Nat) (rv fv : Value) (xs : List Int) (fs : List (Value × List Int)) (sk : Nat) : Prop where
  blk : w.heap[sb]? = some (.cells #[rv, fv, .int .i64 sk] 33 (0, 0))
  room : w.ownsRow 0 5 1 rv xs.length (bv xs)
  fnd : Deq w 26 fv (fs.map (·.1))
  each : ∀ p ∈ fs, w.ownsRow 0 5 1 p.1 p.2.length (bv p.2) ∧ Byt p.2
  apart : ApartV (rv :: fs.map (·.1))
  byt : Byt xs

theorem St.ne_f {w : World} {sb sk : Nat} {rv fv : Value} {xs : List Int} {fs : List (Value × List Int)} (h : St w sb rv fv xs fs sk) : ∀ k, fv.ownBlock = some k → k ≠ sb := by
  intro k hk e
  subst e
  obtain ⟨_, cur, hc⟩ := h.fnd.lt k hk
  rw [h.blk] at hc
  cases hc
theorem St.ne_r {w : World} {sb sk : Nat} {rv fv : Value} {xs : List Int} {fs : List (Value × List Int)} (h : St w sb rv fv xs fs sk) : ∀ k, rv.ownBlock = some k → k ≠ sb ∧ fv.ownBlock ≠ some k := by
  intro k hk
  obtain ⟨_, _, cur, hc⟩ := owns_kind h.room k hk
  refine ⟨fun e => ?_, fun e => ?_⟩
  · subst e; rw [h.blk] at hc; cases hc
  · obtain ⟨_, cur', hc'⟩ := h.fnd.lt k e
    rw [hc] at hc'; cases hc'
theorem St.ne_b {w : World} {sb sk : Nat} {rv fv : Value} {xs : List Int} {fs : List (Value × List Int)} (h : St w sb rv fv xs fs sk) : ∀ p ∈ fs, ∀ k, p.1.ownBlock = some k → k ≠ sb ∧ fv.ownBlock ≠ some k ∧ rv.ownBlock ≠ some k := by
  intro p hp k hk
  obtain ⟨_, _, cur, hc⟩ := owns_kind (h.each p hp).1 k hk
  refine ⟨fun e => ?_, fun e => ?_, fun e => ?_⟩
  · subst e; rw [h.blk] at hc; cases hc
  · obtain ⟨_, cur', hc'⟩ := h.fnd.lt k e
    rw [hc] at hc'; cases hc'
  · have := h.apart
    unfold ApartV at this
    rw [List.pairwise_cons] at this
    exact this.1 p.1 (List.mem_map_of_mem hp) k e hk

set_option maxHeartbeats 1600000 in
set_option maxRecDepth 100000 in
theorem take_nil (w : World) :
    Calls Try.prog 42 #[.pointer none] w fun e w' => e = .returned (.tuple #[.slice none 0 0, .bool false]) ∧ w' = w := by
  go_enter Try.func42, Try.ntmps42
  go_wp2
  go_ret2
  exact ⟨rfl, rfl⟩

set_option maxHeartbeats 1600000 in
set_option maxRecDepth 100000 in
theorem take_none (sb c : Nat) (a : Option Addr) (w : World) (h : w.cell? ⟨sb, 1, none⟩ = some (.slice a 0 c)) :
    Calls Try.prog 42 #[.pointer (some ⟨sb, 0, none⟩)] w fun e w' => e = .returned (.tuple #[.slice none 0 0, .bool false]) ∧ w' = w := by
  go_enter Try.func42, Try.ntmps42
  go_wp2
  go_ret2
  exact ⟨rfl, rfl⟩

set_option maxHeartbeats 3200000 in
set_option maxRecDepth 100000 in
theorem take_last (sb g off c : Nat) (v : Value) (w : World) (hne : sb ≠ g) (hc : 1 ≤ c) (h : w.cell? ⟨sb, 1, none⟩ = some (.slice (some ⟨g, off, none⟩) 1 c)) (hf : w.frozen? ⟨sb, 1, none⟩ = false)
    (hv : w.cell? ⟨g, off, none⟩ = some v) (hfv : w.frozen? ⟨g, off, none⟩ = false) (h1 : ∃ a n c, v = .slice a n c) (hcm : c ≤ maxLen) :
    Calls Try.prog 42 #[.pointer (some ⟨sb, 0, none⟩)] w fun e w' => e = .returned (.tuple #[v, .bool true]) ∧ ∃ u, w' = ((w.setCell ⟨g, off, none⟩ (.slice none 0 0)).setCell ⟨sb, 1, none⟩ u).setCell ⟨sb, 1, none⟩ (.slice none 0 0) := by
  obtain ⟨va, vn, vc, rfl⟩ := h1
  unfold maxLen at hcm
  have hne' : g ≠ sb := Ne.symm hne
  have hcI : (1 : Int) ≤ (c : Int) := by omega
  go_enter Try.func42, Try.ntmps42
  go_wp2
  all_goals (go_ret2; exact ⟨rfl, _, rfl⟩)

set_option maxHeartbeats 3200000 in
set_option maxRecDepth 100000 in
theorem take_more (sb g off n c : Nat) (v : Value) (w : World) (hne : sb ≠ g) (hn : 2 ≤ n) (hc : n ≤ c) (h : w.cell? ⟨sb, 1, none⟩ = some (.slice (some ⟨g, off, none⟩) n c)) (hf : w.frozen? ⟨sb, 1, none⟩ = false)
    (hv : w.cell? ⟨g, off, none⟩ = some v) (hfv : w.frozen? ⟨g, off, none⟩ = false) (h1 : ∃ a n c, v = .slice a n c) (hcm : c ≤ maxLen) :
    Calls Try.prog 42 #[.pointer (some ⟨sb, 0, none⟩)] w fun e w' => e = .returned (.tuple #[v, .bool true]) ∧ w' = (w.setCell ⟨g, off, none⟩ (.slice none 0 0)).setCell ⟨sb, 1, none⟩ (.slice (some ⟨g, off + 1, none⟩) (n - 1) (c - 1)) := by
  obtain ⟨va, vn, vc, rfl⟩ := h1
  unfold maxLen at hcm
  have hne' : g ≠ sb := Ne.symm hne
  have hcI : (1 : Int) ≤ (c : Int) := by omega
  have hnI : (2 : Int) ≤ (n : Int) := by omega
  have hncI : (n : Int) ≤ (c : Int) := by omega
  go_enter Try.func42, Try.ntmps42
  go_wp2
  all_goals (go_ret2; exact ⟨rfl, rfl⟩)
end Go.Proofs.Ytdjibjmhjofedac
