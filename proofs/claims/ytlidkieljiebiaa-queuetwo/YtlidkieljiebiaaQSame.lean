/-
  queue: the law's own comparisons of what is the same.
-/
import Derived.Test.YtlidkieljiebiaaQNext
namespace Go.Proofs.Ytlidkieljiebiaa
open Go.RowKit
set_option linter.unusedVariables false
set_option linter.unusedSimpArgs false

theorem RowAt.form {α : Type} {w : World} {S : Nat → Prop} {sz : Nat} {E : Nat → Nat → α → Prop} {v : Value} {l : List α} (h : RowAt w S sz E v l) : ∃ a c, v = .slice a l.length c ∧ l.length ≤ c := by
  obtain ⟨a, c, hv, hc, _⟩ := h
  exact ⟨a, c, hv, hc⟩
theorem RowAt.get {α : Type} {w : World} {S : Nat → Prop} {sz : Nat} {E : Nat → Nat → α → Prop} {a : Option Addr} {n c : Nat} {l : List α} (h : RowAt w S sz E (.slice a n c) l) {i : Nat} {x : α} (hx : l[i]? = some x) : ∃ b o, a = some ⟨b, o, none⟩ ∧ S b ∧ b < w.heap.size ∧ E b (o + i * sz) x := by
  obtain ⟨a', c', hv, _, _, hr⟩ := h
  cases hv
  rcases hr with h | ⟨b, o, rfl, hS, hlt, hE⟩
  · rw [h] at hx; cases hx
  · exact ⟨b, o, rfl, hS, hlt, hE i x hx⟩
set_option maxHeartbeats 1600000 in
set_option maxRecDepth 100000 in
theorem ints_same (v v' : Value) (l : List Int) (w : World) (S S' : Nat → Prop) (h : IntsAt w S v l) (h' : IntsAt w S' v' l) (hl : l.length ≤ MaxRow) :
    Calls Try.prog 67 #[v, v'] w fun e w' => e = .returned (.bool true) ∧ Below w.heap.size w w' := by
  obtain ⟨a, c, rfl, hc⟩ := RowAt.form h
  obtain ⟨a', c', rfl, hc'⟩ := RowAt.form h'
  obtain ⟨n, hn⟩ : ∃ n, l.length = n := ⟨_, rfl⟩
  rw [hn] at h h' hl ⊢
  have HN : Hid (l.length = n) := hn
  have H1 : Hid (IntsAt w S (.slice a n c) l) := h
  have H2 : Hid (IntsAt w S' (.slice a' n c') l) := h'
  have hn1 : n ≤ 140737488355328 := hl
  clear h h' hn hl hc hc'
  go_enter Try.func67, Try.ntmps67
  go_wp2_with fail
  go_loopw [5] (fun i wr => ∃ q : Nat, i = .int .i64 q ∧ q ≤ n ∧ Hid (Below w.heap.size w wr)) (fun i _ => n - (intOf i).toNat)
  case atStart => exact ⟨0, rfl, Nat.zero_le _, Below.refl _ _⟩
  case round =>
    obtain ⟨q, rfl, hq, HB⟩ := hrel
    by_cases hlt : q < n
    · have hqi : (q : Int) < (n : Int) := by omega
      obtain ⟨x, hx⟩ : ∃ x, l[q]? = some x := ⟨l[q]'(by rw [HN.out]; exact hlt), List.getElem?_eq_getElem _⟩
      obtain ⟨b, o, rfl, _, hb, x0⟩ := RowAt.get H1.out hx
      obtain ⟨b', o', rfl, _, hb', y0⟩ := RowAt.get H2.out hx
      have x0 : wr.cell? ⟨b, o + q, none⟩ = some (.int .i64 x) := by rw [HB.out.cell (p := ⟨b, o + q, none⟩) hb]; simpa [inE] using x0
      have y0 : wr.cell? ⟨b', o' + q, none⟩ = some (.int .i64 x) := by rw [HB.out.cell (p := ⟨b', o' + q, none⟩) hb']; simpa [inE] using y0
      clear hx
      go_wp2_with fail
      go_region_held3 (fun w' => w'.cell? ⟨b, o + q, none⟩ = some (.int .i64 x) ∧ w'.cell? ⟨b', o' + q, none⟩ = some (.int .i64 x)) (go_keep) (fail)
      go_wp2_with fail
      go_roundw
      case rel => exact ⟨q + 1, by go_num, by omega, below_drew HB.out⟩
      case measure => simp [intOf]; omega
    · obtain rfl : q = n := by omega
      have hge : ¬ (q : Int) < (q : Int) := by omega
      go_wp2_with fail
      go_ret
      exact ⟨rfl, HB.out⟩
end Go.Proofs.Ytlidkieljiebiaa
