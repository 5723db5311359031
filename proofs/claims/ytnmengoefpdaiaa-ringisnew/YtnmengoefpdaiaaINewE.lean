/-
  ring, own.go: no ring of that room.
-/
import Derived.Test.YtnmengoefpdaiaaINewT
namespace Go.Proofs.Ytnmengoefpdaiaa.I
open Go.RowKit
set_option linter.unusedVariables false
set_option linter.unusedSimpArgs false
set_option maxHeartbeats 12800000 in
set_option maxRecDepth 100000 in
theorem RingIsNew_early (room n : Int) (sa : Option Addr) (m0 sc : Nat) (w : World) (hr : (room < 1 ∨ 64 < room) ∨ (n < 0 ∨ 100 < n)) :
    Calls Try.prog 3 #[.int .i64 room, .int .i64 n, .slice sa m0 sc] w fun e w' => e = .returned (.bool true) ∧ Below w.heap.size w w' := by
  have HR : Hid ((room < 1 ∨ 64 < room) ∨ (n < 0 ∨ 100 < n)) := hr
  clear hr
  go_enter Try.func3, Try.ntmps3
  go_wp2_with fail
  refine Calls.mono (begins_any w) ?_
  rintro e wb ⟨rfl, hbb⟩
  have HBB : Hid (Below w.heap.size w wb) := hbb
  clear hbb
  by_cases h1 : room < 1
  · go_wp2_with fail
    go_ret
    exact ⟨rfl, HBB.out⟩
  · by_cases h2 : 64 < room
    · go_wp2_with fail
      go_ret
      exact ⟨rfl, HBB.out⟩
    · by_cases h3 : n < 0
      · go_wp2_with fail
        go_ret
        exact ⟨rfl, HBB.out⟩
      · have h4 : 100 < n := by have := HR.out; omega
        go_wp2_with fail
        go_ret
        exact ⟨rfl, HBB.out⟩
theorem RowAt_take {α : Type} {w : World} {S : Nat → Prop} {sz : Nat} {E : Nat → Nat → α → Prop} {a : Option Addr} {n c : Nat} {l : List α} (h : RowAt w S sz E (.slice a n c) l) (k : Nat) (hk : k ≤ l.length) : RowAt w S sz E (.slice a k c) (l.take k) := by
  obtain ⟨a', c', hv, hc, hn, hr⟩ := h
  cases hv
  have hl : (l.take k).length = k := by rw [List.length_take]; omega
  refine ⟨_, _, by rw [hl], by rw [hl]; omega, hn, ?_⟩
  rcases hr with h | ⟨b, o, ha, hb, hlt, hx⟩
  · subst h
    exact .inl (by simp)
  · refine .inr ⟨b, o, ha, hb, hlt, fun i x hi => hx i x ?_⟩
    rw [List.getElem?_take] at hi
    split at hi
    · exact hi
    · cases hi
theorem RowAt_some {α : Type} {w : World} {S : Nat → Prop} {sz : Nat} {E : Nat → Nat → α → Prop} {a : Option Addr} {n c : Nat} {l : List α} (h : RowAt w S sz E (.slice a n c) l) (hk : 0 < l.length) : ∃ b o, a = some ⟨b, o, none⟩ := by
  obtain ⟨a', c', hv, hc, hn, hr⟩ := h
  cases hv
  rcases hr with h | ⟨b, o, ha, _⟩
  · rw [h] at hk; exact absurd hk (Nat.lt_irrefl 0)
  · exact ⟨b, o, ha⟩
end Go.Proofs.Ytnmengoefpdaiaa.I
