/-
  ring, own.go: all that is told is new.
-/
import Derived.Test.YtnmengoefpdaiaaINewX
namespace Go.Proofs.Ytnmengoefpdaiaa.I
open Go.RowKit
set_option linter.unusedVariables false
set_option linter.unusedSimpArgs false
set_option maxHeartbeats 12800000 in
set_option maxRecDepth 100000 in
theorem RingIsNew_walk (room n : Int) (v0 : Value) (ms0 : List Int) (w : World) (h : IntsAt w (fun b => b < w.heap.size) v0 ms0) :
    Calls Try.prog 3 #[.int .i64 room, .int .i64 n, v0] w fun e w' => e = .returned (.bool true) ∧ Below w.heap.size w w' := by
  obtain ⟨sa, sc, rfl, _⟩ := RowAt.form h
  by_cases hr : (room < 1 ∨ 64 < room) ∨ (n < 0 ∨ 100 < n)
  · exact RingIsNew_early room n sa _ sc w hr
  · obtain ⟨rm, rfl⟩ : ∃ k : Nat, room = (k : Int) := ⟨room.toNat, by omega⟩
    obtain ⟨nn, rfl⟩ : ∃ k : Nat, n = (k : Int) := ⟨n.toNat, by omega⟩
    by_cases h24 : 24 < ms0.length
    · exact RingIsNew_high rm nn sa _ sc ms0 w h rfl hr h24
    · exact RingIsNew_low rm nn sa _ sc ms0 w h rfl hr h24
end Go.Proofs.Ytnmengoefpdaiaa.I
