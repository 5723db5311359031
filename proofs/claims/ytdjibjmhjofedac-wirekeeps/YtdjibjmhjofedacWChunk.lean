/-
  slices.Chunk of a piece that fits one bite; Feed of a nil stream; taken of a nil stream.
-/
import Derived.Test.YtdjibjmhjofedacWTook
import Derived.Sort.QuietIn
namespace Go.Proofs.Ytdjibjmhjofedac
open Go.RowKit Go.Shelf
set_option linter.unusedVariables false
attribute [local go_sem] Oper.semAt_some

theorem KeepsFrom.from_drewN (B : Nat) (w : World) (k : Nat) : KeepsFrom B w (w.drewN k) := ⟨Nat.le_refl _, fun _ _ _ h _ => h⟩

set_option maxRecDepth 100000 in
set_option maxHeartbeats 3200000 in
theorem chunk_any (a : Option Addr) (n c : Nat) (w : World) :
    Calls Try.prog 29 #[.slice a n c, .int .i64 65536] w fun e w' => e = .returned (.func (.func 40) #[] #[.pointer (some ⟨w.heap.size, 0, none⟩), .pointer (some ⟨w.heap.size + 1, 0, none⟩)]) ∧ w' = (w.alloc (.cells #[.slice a n c] 26)).alloc (.cells #[.int .i64 65536] 3) := by
  go_enter Try.func29, Try.ntmps29
  go_wp2
  go_ret
  exact ⟨rfl, rfl⟩

set_option maxRecDepth 100000 in
set_option maxHeartbeats 6400000 in
/-- The function that Chunk hands out: one bite, or none. -/
theorem chunk_seq (m : Nat) (a : Option Addr) (n c b1 b2 B : Nat) (hn : n ≤ 65536) (hc : n ≤ c) (hcm : c ≤ maxLen) (ha : 0 < n → ∃ b o, a = some ⟨b, o, none⟩) (I : Bool → World → Prop) (X : Code → World → Prop)
    (hI : ∀ s W, I s W → W.cell? ⟨b1, 0, none⟩ = some (.slice a n c) ∧ W.cell? ⟨b2, 0, none⟩ = some (.int .i64 65536)) (hD : ∀ s W k, I s W → I s (W.drewN k)) :
    SeqSt Fence.wide m Try.prog 40 #[.pointer (some ⟨b1, 0, none⟩), .pointer (some ⟨b2, 0, none⟩)] (fun v : Value => #[v]) B I (fun s x W => 0 < n ∧ s = false ∧ x = .slice a n n ∧ I false W) (fun s _ s' => s = false ∧ s' = true) X (fun W => (n = 0 ∧ I false W) ∨ (0 < n ∧ I true W)) false := by
  intro l Z Zx W1 hZ hZx hY h0 hz0
  unfold maxLen at hcm
  refine callsIn_of_wp Try.func40 rfl trivial ?_ rfl
  simp only [Try.ntmps40, List.size_toArray, List.length_cons, List.length_nil, Nat.reduceAdd, Nat.reduceSub, Array.replicate_succ, Array.replicate_zero, List.push_toArray, List.append_toArray, List.nil_append, List.cons_append]
  gi_wp2
  gi_loopg [4] 2 (fun k i wr => (k = 2 ∧ i = .int .i64 0 ∧ Hid (I false wr) ∧ Hid (Z wr)) ∨ (k = 1 ∧ 0 < n ∧ i = .int .i64 65536 ∧ Hid (I true wr) ∧ Hid (Z wr)))
  case atStart => exact .inl ⟨rfl, rfl, h0, hz0⟩
  case round =>
    rcases hrel with ⟨rfl, rfl, hI1, hz⟩ | ⟨rfl, hpos, rfl, hI1, hz⟩
    · obtain ⟨hc1, hc2⟩ := hI _ _ hI1.out
      by_cases h0 : n = 0
      · subst h0
        gi_wp2
        go_end0
        exact ⟨⟨_, rfl⟩, Or.inl ⟨hI1.out, hz.out⟩⟩
      · have hpos : 0 < n := by omega
        have hposI : (0 : Int) < (n : Int) := by omega
        have hnI : (n : Int) ≤ 65536 := by omega
        have hncI : (n : Int) ≤ (c : Int) := by omega
        obtain ⟨ab, ao, rfl⟩ := ha hpos
        have HY : Hid _ := hY
        clear hY hZx
        gi_wp2
        gi_quiet (fail)
        rw [show (if (n : Int) < 65536 then (n : Int) else 65536) = (n : Int) by split <;> omega]
        have hz2 : Z (wr.drewN nq) := hZ _ _ (KeepsFrom.from_drewN B wr nq) hz.out
        obtain ⟨fn, tmps, assign, body, hyl, hR⟩ := HY.out false _ (wr.drewN nq) ⟨hpos, rfl, rfl, hD _ _ nq hI1.out⟩ hz2
        have HR : Hid _ := hR
        clear hR
        gi_wp2
        refine ⟨(fun hd => nomatch hd), ?_⟩
        refine RoundIn.mono HR.out ?_
        rintro e W3 (⟨rfl, ⟨s', ⟨-, rfl⟩, hI3⟩, hZ3⟩ | ⟨rfl, c3, hX3⟩)
        · obtain ⟨hc3, hc4⟩ := hI _ _ hI3
          have HI3 : Hid _ := hI3
          have HZ3 : Hid _ := hZ3
          clear hI3 hZ3
          gi_wp2
          gi_roundg 1
          case rel => exact .inr ⟨rfl, hpos, rfl, HI3, HZ3⟩
          case measure => decide
        · have HX3 : Hid _ := hX3
          clear hX3
          gi_wp2
          refine bodyPost_ret (results_none rfl _ _ _) rfl ?_
          exact ⟨⟨_, rfl⟩, .inr ⟨c3, HX3.out⟩⟩
    · obtain ⟨hc1, hc2⟩ := hI _ _ hI1.out
      have hnI : (n : Int) ≤ 65536 := by omega
      gi_wp2
      go_end0
      exact ⟨⟨_, rfl⟩, .inl ⟨.inr ⟨hpos, hI1.out⟩, hz.out⟩⟩

set_option maxHeartbeats 1600000 in
set_option maxRecDepth 100000 in
theorem feed_nil (v : Value) (w : World) :
    Calls Try.prog 10 #[.pointer none, v] w fun e w' => (∃ v, e = .returned v) ∧ Below w.heap.size w w' := by
  go_enter Try.func10, Try.ntmps10
  go_wp2
  refine bodyPost_ret (results_none rfl _ _ _) rfl ?_
  exact ⟨⟨_, rfl⟩, (Below.refl _ w).alloc (Nat.le_refl _) _⟩
end Go.Proofs.Ytdjibjmhjofedac
