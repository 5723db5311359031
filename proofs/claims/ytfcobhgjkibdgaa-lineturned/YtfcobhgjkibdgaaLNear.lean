/-
  heraldlaw16: near.
-/
import Derived.Test.YtfcobhgjkibdgaaLKnown
namespace Go.Proofs.Ytfcobhgjkibdgaa
open Go.RowKit
set_option linter.unusedVariables false
set_option linter.unusedSimpArgs false

/-- All but one byte at most are the same. -/
structure Near (a b : MsT) : Prop where
  f : a.f = b.f
  t : a.t = b.t
  size : a.b.size = b.b.size
  one : ∃ i, ∀ j, j < a.b.size → j ≠ i → nb a.b j = nb b.b j
theorem Near.refl (m : MsT) : Near m m := ⟨rfl, rfl, rfl, 0, fun _ _ _ => rfl⟩
theorem nb_eq {s : ByteArray} {i : Nat} (h : i < s.size) : ((s[i]'h).toNat : Int) = nb s i := by unfold nb; rw [dif_pos h]
set_option maxHeartbeats 3200000 in
set_option maxRecDepth 100000 in
theorem near_ok (a b : MsT) (w : World) (h : Near a b) (hs : a.b.size ≤ 1000000) :
    Calls Try.prog 17 #[a.val, b.val] w fun e w' => e = .returned (.bool true) ∧ Below w.heap.size w w' := by
  obtain ⟨af, at', ab⟩ := a
  obtain ⟨bf, bt, bb⟩ := b
  obtain ⟨rfl, rfl, h3, i, hi⟩ : af = bf ∧ at' = bt ∧ ab.size = bb.size ∧ ∃ i, ∀ j, j < ab.size → j ≠ i → nb ab j = nb bb j := ⟨h.f, h.t, h.size, h.one⟩
  obtain ⟨n, hn⟩ : ∃ z, ab.size = z := ⟨_, rfl⟩
  have hn2 : bb.size = n := by rw [← h3, hn]
  simp only at hs
  rw [hn] at hs hi
  obtain ⟨hA, hB, hbel⟩ := pair_blocks (w := w) (t := 23) (cs := #[.int .i64 af, .int .i64 at', .string ab]) (t' := 23) (cs' := #[.int .i64 af, .int .i64 at', .string bb])
  obtain ⟨W, hW⟩ : ∃ z, ((w.alloc (.cells #[.int .i64 af, .int .i64 at', .string ab] 23)).alloc (.cells #[.int .i64 af, .int .i64 at', .string bb] 23)) = z := ⟨_, rfl⟩
  rw [hW] at hA hB hbel
  obtain ⟨g, hg⟩ : ∃ z, w.heap.size = z := ⟨_, rfl⟩
  rw [hg] at hA hB
  obtain ⟨c0, c1, c2⟩ := cells_3 hA
  obtain ⟨d0, d1, d2⟩ := cells_3 hB
  have HW : Hid (_ = W) := hW
  have HG : Hid (w.heap.size = g) := hg
  have HB : Hid (Below w.heap.size w W) := hbel
  have HI : Hid (∀ j, j < n → j ≠ i → nb ab j = nb bb j) := hi
  have HA : Hid (W.heap[g]? = some (.cells #[.int .i64 af, .int .i64 at', .string ab] 23 (0, 0))) := hA
  have HBB : Hid (W.heap[g + 1]? = some (.cells #[.int .i64 af, .int .i64 at', .string bb] 23 (0, 0))) := hB
  clear hA hB hbel hW hg hi h h3
  go_enter Try.func17, Try.ntmps17
  go_upto_region 1 with fail
  rw [HW.out, HG.out]
  go_wp2_with fail
  go_loopw [5, 6] (fun c q wr => ∃ (j k : Nat), q = .int .i64 j ∧ c = .int .i64 k ∧ j ≤ n ∧ k ≤ 1 ∧ Hid (k = 1 → i < j) ∧ Hid (Below W.heap.size W wr)) (fun _ q _ => n - (intOf q).toNat)
  case atStart => exact ⟨0, 0, rfl, rfl, Nat.zero_le _, Nat.zero_le _, (fun h => by cases h), Below.refl _ _⟩
  case round =>
    obtain ⟨j, k, rfl, rfl, hj, hk, HK, HR⟩ := hrel
    clear c0 c1 c2 d0 d1 d2
    obtain ⟨c0, c1, c2⟩ := cells_3 (kept_block HR.out HA.out)
    obtain ⟨d0, d1, d2⟩ := cells_3 (kept_block HR.out HBB.out)
    by_cases hlt : j < n
    · have hji : (j : Int) < (n : Int) := by omega
      have hja : j < ab.size := by omega
      have hjb : j < bb.size := by omega
      have ea := nb_eq hja
      have eb := nb_eq hjb
      by_cases he : nb ab j = nb bb j
      · have hee : (nb ab j != nb bb j) = false := by simpa using he
        have hee2 : (nb ab j == nb bb j) = true := by simpa using he
        have HK2 : Hid (k = 1 → i < j + 1) := fun h => Nat.lt_succ_of_lt (HK.out h)
        clear he
        go_upto_region 7 with fail
        go_quiet (fail)
        go_wp2_with fail
        go_roundw
        case rel => exact ⟨j + 1, k, by go_num, rfl, by omega, hk, HK2, below_drewN HR.out _⟩
        case measure => simp [intOf]; omega
      · have hee : (nb ab j != nb bb j) = true := by simpa using he
        have hee2 : (nb ab j == nb bb j) = false := by simpa using he
        have hji2 : j = i := Classical.byContradiction fun hne => he (HI.out j hlt hne)
        have hk0 : k = 0 := by
          rcases Nat.lt_or_ge k 1 with h | h
          · omega
          · have := HK.out (by omega); omega
        have HK2 : Hid ((1 : Nat) = 1 → i < j + 1) := fun _ => by omega
        subst hk0
        clear he hji2
        go_upto_region 7 with fail
        go_quiet (fail)
        go_wp2_with fail
        go_roundw
        case rel => exact ⟨j + 1, 1, by go_num, by go_num, by omega, Nat.le_refl _, HK2, below_drewN HR.out _⟩
        case measure => simp [intOf]; omega
    · obtain rfl : j = n := by omega
      have hge : ¬ (j : Int) < (j : Int) := by omega
      have hki : (k : Int) ≤ 1 := by omega
      go_wp2_with fail
      go_ret
      exact ⟨rfl, trans2 HB.out HR.out⟩
end Go.Proofs.Ytfcobhgjkibdgaa
