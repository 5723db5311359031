/-
  WireStreams: all inputs; lists that came in.
-/
import Derived.Test.YtdjibjmhjofedacWStreamsWalk
import Derived.Test.YtdjibjmhjofedacWRowsyP
import Derived.ProofKit
import Derived.ChangeSlices
import Derived.OpenShut
import Derived.ChangeOld
namespace Go.Proofs.Ytdjibjmhjofedac
open Go.RowKit Go.ChangeShapes Go.WideShapes Go.ChangeAt
set_option linter.unusedVariables false

set_option maxHeartbeats 3200000 in
set_option maxRecDepth 100000 in
theorem streams_big0 (a0 a1 : Option Addr) (c0 c1 n1 : Nat) (ps : List Pc) (v2 : Value) (w : World) (h0 : Pcs w a0 ps) (hk0 : ps.length ≤ 9223372036854775807) (hm0 : ps.length ≤ 24 → (bodyOf ps).length ≤ 4611686018427387904) (hs : ¬ ((bodyOf ps).length ≤ 20000 ∧ ps.length ≤ 24)) :
    Calls Try.prog 5 #[.slice a0 ps.length c0, .slice a1 n1 c1, v2] w fun e w' => e = .returned (.bool true) ∧ Below w.heap.size w w' := by
  have HS : Hid _ := small_any a0 c0 ps w h0 hk0 hm0
  rw [decide_eq_false hs] at HS
  clear h0
  go_enter Try.func5, Try.ntmps5
  go_wp2_with fail
  refine Calls.mono HS.out ?_
  rintro e w2 ⟨rfl, rfl⟩
  go_wp2_with fail
  go_ret
  exact ⟨rfl, Below.refl _ _⟩

set_option maxHeartbeats 3200000 in
set_option maxRecDepth 100000 in
theorem streams_big1 (a0 a1 : Option Addr) (c0 c1 : Nat) (ps qs : List Pc) (v2 : Value) (w : World) (h0 : Pcs w a0 ps) (h1 : Pcs w a1 qs) (hk1 : qs.length ≤ 9223372036854775807) (hm1 : qs.length ≤ 24 → (bodyOf qs).length ≤ 4611686018427387904) (hs0 : (bodyOf ps).length ≤ 20000 ∧ ps.length ≤ 24) (hs : ¬ ((bodyOf qs).length ≤ 20000 ∧ qs.length ≤ 24)) :
    Calls Try.prog 5 #[.slice a0 ps.length c0, .slice a1 qs.length c1, v2] w fun e w' => e = .returned (.bool true) ∧ Below w.heap.size w w' := by
  have HS : Hid _ := small_any a0 c0 ps w h0 (by omega) (by omega)
  rw [decide_eq_true hs0] at HS
  have HS1 : Hid _ := small_any a1 c1 qs w h1 hk1 hm1
  rw [decide_eq_false hs] at HS1
  clear h0 h1
  go_enter Try.func5, Try.ntmps5
  go_wp2_with fail
  refine Calls.mono HS.out ?_
  rintro e w2 ⟨rfl, rfl⟩
  go_wp2_with fail
  refine Calls.mono HS1.out ?_
  rintro e w3 ⟨rfl, rfl⟩
  go_wp2_with fail
  go_ret
  exact ⟨rfl, Below.refl _ _⟩

theorem streams_walk (a0 a1 a2 : Option Addr) (c0 c1 c2 : Nat) (ps qs : List Pc) (zs : List Int) (w : World) (h0 : Pcs w a0 ps) (hk0 : ps.length ≤ 9223372036854775807) (hm0 : ps.length ≤ 24 → (bodyOf ps).length ≤ 4611686018427387904) (h1 : Pcs w a1 qs) (hk1 : qs.length ≤ 9223372036854775807) (hm1 : qs.length ≤ 24 → (bodyOf qs).length ≤ 4611686018427387904) (h2 : Its w a2 zs) (hz : ∀ z ∈ zs, -9223372036854775808 ≤ z ∧ z ≤ 9223372036854775807) (hzl : zs.length ≤ 9223372036854775807) (hc0 : ps.length ≤ c0) (hc1 : qs.length ≤ c1) :
    Calls Try.prog 5 #[.slice a0 ps.length c0, .slice a1 qs.length c1, .slice a2 zs.length c2] w fun e w' => e = .returned (.bool true) ∧ Below w.heap.size w w' := by
  by_cases hs0 : (bodyOf ps).length ≤ 20000 ∧ ps.length ≤ 24
  · by_cases hs1 : (bodyOf qs).length ≤ 20000 ∧ qs.length ≤ 24
    · exact streams_small a0 a1 a2 c0 c1 c2 ps qs zs w h0 h1 h2 hs0 hs1 hz hzl hc0 hc1
    · exact streams_big1 a0 a1 c0 c1 ps qs _ w h0 h1 hk1 hm1 hs0 hs1
  · exact streams_big0 a0 a1 c0 c1 _ ps _ w h0 hk0 hm0 hs0

theorem pieces_cap {H : Type} {enc : TypeId × Value → H} {W : World} {a : Option Addr} {len cap : Nat} {d : DataW H} {p : List MemPlace}
    (h : DataW.Trod enc Try.prog W 0 (fun _ => true) true 22 (.slice a len cap) d p) : len ≤ cap := by
  obtain ⟨fuel, hf⟩ := h
  rcases Go.Deep.open_slice1 Try.underlying22 (by kernel_rfl) hf with ⟨hcs, _⟩ | ⟨x, l, c, m, n, V, D, Pl, hcs, _, hl, hm, hmm, hx, hV⟩
  · simp [Value.cells] at hcs
    obtain ⟨rfl, rfl, rfl⟩ := hcs
    exact Nat.le_refl _
  · simp [Value.cells] at hcs
    obtain ⟨rfl, rfl, rfl⟩ := hcs
    exact hl

theorem its_of {H : Type} {enc : TypeId × Value → H} {W : World} {a : Option Addr} {len cap : Nat} {d : DataW H} {p : List MemPlace}
    (h : DataW.Trod enc Try.prog W 0 (fun _ => true) true 23 (.slice a len cap) d p) : ∃ zs : List Int, len = zs.length ∧ (Its W a zs ∧ (∀ z ∈ zs, -9223372036854775808 ≤ z ∧ z ≤ 9223372036854775807) ∧ zs.length ≤ 9223372036854775807) := by
  obtain ⟨fuel, hf⟩ := h
  rcases open_ints Try.underlying23 Try.underlying3 (by kernel_rfl) hf with ⟨hcs, _⟩ | ⟨x, l, c, zs, hcs, _, hl, hm, hz, _, hcell, hwz⟩
  · simp [Value.cells] at hcs
    obtain ⟨rfl, rfl, rfl⟩ := hcs
    exact ⟨[], rfl, .inl rfl, (fun _ h => by cases h), Nat.zero_le _⟩
  · simp [Value.cells] at hcs
    obtain ⟨rfl, rfl, rfl⟩ := hcs
    have hzl : zs.length = cap := by simpa using hz
    have htl : (zs.take len).length = len := by rw [List.length_take]; omega
    refine ⟨zs.take len, htl.symm, ?_, ?_, ?_⟩
    · by_cases h0 : len = 0
      · left
        exact List.eq_nil_of_length_eq_zero (by rw [htl]; exact h0)
      · right
        obtain ⟨b, o, spot⟩ := x
        have hc0 := hcell 0 (by omega)
        have hspot : spot = none := by simpa [Addr.add] using World.cell?_spot hc0
        subst hspot
        refine ⟨b, o, rfl, ?_, fun j z hj => ?_⟩
        · have := World.block_lt_of_cell? _ _ hc0
          simpa [Addr.add] using this
        · have hjl : j < len := by
            rw [List.getElem?_eq_some_iff] at hj
            have := hj.1
            omega
          rw [List.getElem?_take, if_pos hjl] at hj
          have := hcell j (by omega)
          rw [List.getD_eq_getElem?_getD, hj, addr_add] at this
          exact this
    · intro z hz'
      have := bounds_i64 (hwz z (List.mem_of_mem_take hz'))
      omega
    · rw [htl]
      have h2 : cap ≤ maxLen := by omega
      unfold maxLen at h2
      omega
end Go.Proofs.Ytdjibjmhjofedac
