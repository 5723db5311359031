/-
  line: own.go: is all of it as it was written; copies.
-/
import Derived.Test.YtfcobhgjkibdgaaLOwA
import Derived.Test.YtfcobhgjkibdgaaLLawA
namespace Go.Proofs.Ytfcobhgjkibdgaa
open Go.RowKit Go.Maps
set_option linter.unusedVariables false
set_option linter.unusedSimpArgs false

abbrev BkRow (w : World) (B : Nat) (v : Value) (l : List BkT) : Prop := w.ownsRow B 81 3 v l.length (l.flatMap BkT.cells)
structure BkT.Sm (b : BkT) : Prop where
  lo : -1000000 ≤ b.m
  hi : b.m ≤ 0
  n : b.n ≤ 1000
theorem rep_at {m : Int} {n p : Nat} (h : p < n) : ((List.replicate n m).map (Value.int .i64 ·))[p]? = some (.int .i64 m) := by simp [List.getElem?_replicate, h]
theorem gro_lo {m : Int} {n p : Nat} (h : p < n) : ((List.replicate n m ++ goL m 64).map (Value.int .i64 ·))[p]? = some (.int .i64 m) := by
  rw [List.map_append, List.getElem?_append_left (by simpa using h)]
  exact rep_at h
theorem gro_hi {m : Int} {n p : Nat} (h : n ≤ p) (h2 : p < n + 64) : ((List.replicate n m ++ goL m 64).map (Value.int .i64 ·))[p]? = some (.int .i64 (m - 1 - (p : Int) + (n : Int))) := by
  rw [List.map_append, List.getElem?_append_right (by simpa using h), List.length_map, List.length_replicate, List.getElem?_map, goL_at (by omega)]
  simp
  omega
set_option maxHeartbeats 3200000 in
set_option maxRecDepth 100000 in
theorem still_any (v : Value) (B : Nat) (l : List BkT) (w : World) (hr : BkRow w B v l) (he : ∀ b ∈ l, BkE w b) (hm : ∀ b ∈ l, b.Sm) (hl : l.length ≤ 1000000) :
    Calls Try.prog 38 #[v] w fun e w' => e = .returned (.bool true) ∧ Below w.heap.size w w' := by
  obtain ⟨a, c, rfl, hc, hn0, hcs⟩ := row_cells (cells := BkT.cells) (fun _ => rfl) hr
  obtain ⟨N, hN⟩ : ∃ z, l.length = z := ⟨_, rfl⟩
  have HN : Hid (l.length = N) := hN
  have HE : Hid (∀ b ∈ l, BkE w b) := he
  have HM : Hid (∀ b ∈ l, b.Sm) := hm
  have HCS : Hid (l = [] ∨ ∃ g, a = some ⟨g, 0, none⟩ ∧ g < w.heap.size ∧ ∀ i x, l[i]? = some x → ∀ j u, (BkT.cells x)[j]? = some u → w.cell? ⟨g, 0 + i * 3 + j, none⟩ = some u) := by
    rcases hcs with h | ⟨g, h1, _, _, h2, h3⟩
    · exact .inl h
    · exact .inr ⟨g, h1, h2, h3⟩
  rw [hN] at hl ⊢
  clear hr he hm hN hcs hc hn0
  go_enter Try.func38, Try.ntmps38
  go_wp2_with fail
  go_loopw [3, 4, 5, 6, 7] (fun j _ _ _ _ wr => ∃ q : Nat, j = .int .i64 q ∧ q ≤ N ∧ Hid (Below w.heap.size w wr)) (fun j _ _ _ _ _ => N - (intOf j).toNat)
  case atStart => exact ⟨0, rfl, Nat.zero_le _, Below.refl _ _⟩
  case round =>
    obtain ⟨q, rfl, hq, HB⟩ := hrel
    by_cases hlt : q < N
    · have hqi : (q : Int) < (N : Int) := by omega
      obtain ⟨x, hx⟩ : ∃ x, l[q]? = some x := ⟨l[q]'(by rw [HN.out]; exact hlt), List.getElem?_eq_getElem _⟩
      have hxm := List.mem_of_getElem? hx
      obtain ⟨g, rfl, hgl, hcel⟩ : ∃ g, a = some ⟨g, 0, none⟩ ∧ g < w.heap.size ∧ _ := by
        rcases HCS.out with h | h
        · rw [h] at hx; cases hx
        · exact h
      have h0 := hcel q x hx 0 _ rfl
      have h1 := hcel q x hx 1 _ rfl
      have h2 := hcel q x hx 2 _ rfl
      have hBE := (HE.out x hxm).keep (Kp.of_below HB.out _)
      have hSM := HM.out x hxm
      obtain ⟨u, gv, n, m⟩ := x
      obtain ⟨hlo, hhi, hnn⟩ := hSM
      simp only at hlo hhi hnn
      have HL1 : Hid (wr.ownsRow 0 3 1 u n ((List.replicate n m).map (.int .i64 ·))) := hBE.l
      have HG1 : Hid (wr.ownsRow 0 3 1 gv (n + 64) ((List.replicate n m ++ goL m 64).map (.int .i64 ·))) := hBE.g
      obtain ⟨ua, uc, rfl, _⟩ := row_form HL1.out
      obtain ⟨gb, gc, rfl⟩ := row_some (n := n + 63) HG1.out
      obtain ⟨Wq, rfl⟩ : ∃ z, z = wr := ⟨_, rfl⟩
      have k : ∀ {o v}, w.cell? ⟨g, o, none⟩ = some v → Wq.cell? ⟨g, o, none⟩ = some v := fun hv => by rw [HB.out.cell (p := ⟨g, _, none⟩) hgl]; exact hv
      have c0 : Wq.cell? ⟨g, q * 3, none⟩ = some (.slice ua n uc) := by have := k h0; simpa using this
      have c1 : Wq.cell? ⟨g, q * 3 + 1, none⟩ = some (.slice (some ⟨gb, 0, none⟩) (n + 64) gc) := by have := k h1; simpa using this
      have c2 : Wq.cell? ⟨g, q * 3 + 2, none⟩ = some (.int .i64 m) := by have := k h2; simpa using this
      obtain ⟨W4, hW4⟩ : ∃ z, Wq.alloc (.cells #[.slice ua n uc, .slice (some ⟨gb, 0, none⟩) (n + 64) gc, .int .i64 m] 81) = z := ⟨_, rfl⟩
      obtain ⟨g4, hg4⟩ : ∃ z, Wq.heap.size = z := ⟨_, rfl⟩
      have hb4 : Below Wq.heap.size Wq W4 := by rw [← hW4]; exact (Below.refl _ _).alloc (Nat.le_refl _) _
      have HX4 : Hid (W4.heap[g4]? = some (.cells #[.slice ua n uc, .slice (some ⟨gb, 0, none⟩) (n + 64) gc, .int .i64 m] 81 (0, 0))) := by show _ = _; rw [← hW4, ← hg4]; exact heap_alloc_new _ _
      have HW4 : Hid (_ = W4) := hW4
      have HG4 : Hid (Wq.heap.size = g4) := hg4
      have HL4 : Hid (W4.ownsRow 0 3 1 (.slice ua n uc) n ((List.replicate n m).map (.int .i64 ·))) := owns_below HL1.out hb4
      have HG14 : Hid (W4.ownsRow 0 3 1 (.slice (some ⟨gb, 0, none⟩) (n + 64) gc) (n + 64) ((List.replicate n m ++ goL m 64).map (.int .i64 ·))) := owns_below HG1.out hb4
      have HB4 : Hid (Below w.heap.size w W4) := trans2 HB.out hb4
      have HQN : Hid (q < N) := hlt
      clear hx hxm hgl hcel h0 h1 h2 hBE k hW4 hg4 hb4 hlt hq
      go_upto_region 5 with fail
      rw [HW4.out, HG4.out]
      clear c0 c1 c2
      obtain ⟨y0, y1, y2⟩ := cells_3 HX4.out
      go_wp2_with fail
      go_loopw [6, 7] (fun i _ wr => ∃ p : Nat, i = .int .i64 p ∧ p ≤ n + 64 ∧ wr = W4) (fun i _ _ => n + 64 - (intOf i).toNat)
      case atStart => exact ⟨0, rfl, Nat.zero_le _, rfl⟩
      case round =>
        obtain ⟨p, rfl, hp, rfl⟩ := hrel
        by_cases hp1 : p < n
        · have hpi : (p : Int) < (n : Int) := by omega
          have hpj : (p : Int) < ((n : Int) + 64) := by omega
          have hpk : ¬ (n : Int) ≤ (p : Int) := by omega
          obtain ⟨k0, hk0⟩ : ∃ k, n = k + 1 := ⟨n - 1, by omega⟩
          obtain ⟨ub, uc', hbv⟩ : ∃ g c, (Value.slice ua n uc) = .slice (some ⟨g, 0, none⟩) n c := by have h9 := HL4.out; rw [hk0] at h9 ⊢; exact row_some h9
          simp only [Value.slice.injEq] at hbv
          obtain ⟨rfl, -, rfl⟩ := hbv
          have d0 := cell_n HL4.out (rep_at hp1)
          have d1 := cell_n HG14.out (gro_lo hp1)
          clear hk0
          go_wp2_with fail
          go_roundw
          case rel => exact ⟨p + 1, by go_num, by omega, trivial⟩
          case measure => simp [intOf]; omega
        · by_cases hp2 : p < n + 64
          · have hpi : ¬ (p : Int) < (n : Int) := by omega
            have hpj : (p : Int) < ((n : Int) + 64) := by omega
            have hpk : (n : Int) ≤ (p : Int) := by omega
            have d1 := cell_n HG14.out (gro_hi (m := m) (show n ≤ p by omega) hp2)
            have hw1 : IntKind.i64.wrap (m - 1) = m - 1 := by unfold IntKind.wrap; simp [IntKind.bits, IntKind.signed]; omega
            have hw2 : IntKind.i64.wrap (m - 1 - (p : Int)) = m - 1 - (p : Int) := by unfold IntKind.wrap; simp [IntKind.bits, IntKind.signed]; omega
            have hw3 : IntKind.i64.wrap (m - 1 - (p : Int) + (n : Int)) = m - 1 - (p : Int) + (n : Int) := by unfold IntKind.wrap; simp [IntKind.bits, IntKind.signed]; omega
            go_wp2_with fail
            go_roundw
            case rel => exact ⟨p + 1, by go_num, by omega, trivial⟩
            case measure => simp [intOf]; omega
          · obtain rfl : p = n + 64 := by omega
            have hpj : ¬ (((n + 64 : Nat)) : Int) < ((n : Int) + 64) := by omega
            have HQ1 : Hid (q + 1 ≤ N) := HQN.out
            go_wp2_with fail
            go_roundw
            case rel => exact ⟨q + 1, by go_num, HQ1.out, HB4⟩
            case measure => have := HQN.out; simp [intOf]; omega
    · obtain rfl : q = N := by omega
      have hge : ¬ (q : Int) < (q : Int) := by omega
      go_wp2_with fail
      go_ret
      exact ⟨rfl, HB.out⟩
end Go.Proofs.Ytfcobhgjkibdgaa
