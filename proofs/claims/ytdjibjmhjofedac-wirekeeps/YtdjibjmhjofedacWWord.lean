/-
  Words of four bytes.
-/
import Derived.Test.YtdjibjmhjofedacWRoomy
namespace Go.Proofs.Ytdjibjmhjofedac
open Go.RowKit

/-- Bytes as a number, the highest first. -/
def be (l : List Int) : Nat := l.foldl (fun r z => r * 256 + z.toNat) 0
/-- The four bytes at a place. -/
def w4 (xs : List Int) (at' : Nat) : Nat := be ((xs.drop at').take 4)
/-- A number as four bytes. -/
def fourL (v : Nat) : List Int := [((v / 16777216 : Nat) : Int), ((v / 65536 % 256 : Nat) : Int), ((v / 256 % 256 : Nat) : Int), ((v % 256 : Nat) : Int)]
theorem four_len (v : Nat) : (fourL v).length = 4 := rfl
theorem four_byt {v : Nat} (h : v < 4294967296) : Byt (fourL v) := by
  intro z hz
  unfold fourL at hz
  simp only [List.mem_cons, List.not_mem_nil, or_false] at hz
  omega
theorem be_four {v : Nat} (h : v < 4294967296) : be (fourL v) = v := by
  simp only [be, fourL, List.foldl_cons, List.foldl_nil, Int.toNat_natCast]
  omega

theorem w4_at {xs : List Int} {j : Nat} (h : j + 4 ≤ xs.length) : ∃ a b c d, xs[j]? = some a ∧ xs[j + 1]? = some b ∧ xs[j + 2]? = some c ∧ xs[j + 3]? = some d ∧ w4 xs j = be [a, b, c, d] := by
  have e : ∀ i, (hi : i < xs.length) → xs[i]? = some (xs[i]) := fun i hi => List.getElem?_eq_getElem hi
  refine ⟨xs[j], xs[j + 1], xs[j + 2], xs[j + 3], e _ _, e _ _, e _ _, e _ _, ?_⟩
  unfold w4
  rw [List.drop_eq_getElem_cons (show j < xs.length by omega), List.drop_eq_getElem_cons (show j + 1 < xs.length by omega), List.drop_eq_getElem_cons (show j + 1 + 1 < xs.length by omega), List.drop_eq_getElem_cons (show j + 1 + 1 + 1 < xs.length by omega)]
  rfl

/-- The parts of a word, put together. -/
theorem or_word {a b c d : Int} (ha : 0 ≤ a ∧ a < 256) (hb : 0 ≤ b ∧ b < 256) (hc : 0 ≤ c ∧ c < 256) (hd : 0 ≤ d ∧ d < 256) :
    ∃ x y : Int, bits .or .i64 (a * 16777216) (b * 65536) = x ∧ bits .or .i64 x (c * 256) = y ∧ bits .or .i64 y d = (be [a, b, c, d] : Int) := by
  obtain ⟨A, rfl⟩ := Int.eq_ofNat_of_zero_le ha.1
  obtain ⟨B, rfl⟩ := Int.eq_ofNat_of_zero_le hb.1
  obtain ⟨C, rfl⟩ := Int.eq_ofNat_of_zero_le hc.1
  obtain ⟨D, rfl⟩ := Int.eq_ofNat_of_zero_le hd.1
  have h1 : bits .or .i64 ((A : Int) * 16777216) ((B : Int) * 65536) = ((A * 16777216 + B * 65536 : Nat) : Int) := by
    have := i64_or_nat (A * 16777216) (B * 65536) (by omega) (by omega)
    rw [show A * 16777216 ||| B * 65536 = A * 16777216 + B * 65536 by have := or_add 24 A (B * 65536) (by omega); rw [show 2 ^ 24 * A = A * 16777216 by omega] at this; omega] at this
    rw [← this]
    simp
  have h2 : bits .or .i64 ((A * 16777216 + B * 65536 : Nat) : Int) ((C : Int) * 256) = ((A * 16777216 + B * 65536 + C * 256 : Nat) : Int) := by
    have := i64_or_nat (A * 16777216 + B * 65536) (C * 256) (by omega) (by omega)
    rw [show (A * 16777216 + B * 65536) ||| C * 256 = A * 16777216 + B * 65536 + C * 256 by have := or_add 16 (A * 256 + B) (C * 256) (by omega); rw [show 2 ^ 16 * (A * 256 + B) = A * 16777216 + B * 65536 by omega] at this; omega] at this
    rw [← this]
    simp
  have h3 : bits .or .i64 ((A * 16777216 + B * 65536 + C * 256 : Nat) : Int) (D : Int) = ((be [(A : Int), (B : Int), (C : Int), (D : Int)] : Nat) : Int) := by
    have := i64_or_nat (A * 16777216 + B * 65536 + C * 256) D (by omega) (by omega)
    rw [show (A * 16777216 + B * 65536 + C * 256) ||| D = A * 16777216 + B * 65536 + C * 256 + D by have := or_add 8 (A * 65536 + B * 256 + C) D (by omega); rw [show 2 ^ 8 * (A * 65536 + B * 256 + C) = A * 16777216 + B * 65536 + C * 256 by omega] at this; omega] at this
    rw [this]
    simp only [be, List.foldl_cons, List.foldl_nil, Int.toNat_natCast]
    omega
  exact ⟨_, _, h1, h2, h3⟩

set_option maxHeartbeats 1600000 in
set_option maxRecDepth 100000 in
theorem word_cells (b o n c : Nat) (z0 z1 z2 z3 : Int) (w : World) (hn : 4 ≤ n) (h0 : w.cell? ⟨b, o, none⟩ = some (.int .u8 z0)) (h1 : w.cell? ⟨b, o + 1, none⟩ = some (.int .u8 z1)) (h2 : w.cell? ⟨b, o + 2, none⟩ = some (.int .u8 z2)) (h3 : w.cell? ⟨b, o + 3, none⟩ = some (.int .u8 z3))
    (b0 : 0 ≤ z0 ∧ z0 < 256) (b1 : 0 ≤ z1 ∧ z1 < 256) (b2 : 0 ≤ z2 ∧ z2 < 256) (b3 : 0 ≤ z3 ∧ z3 < 256) :
    Calls Try.prog 44 #[.slice (some ⟨b, o, none⟩) n c] w fun e w' => e = .returned (.int .i64 (be [z0, z1, z2, z3])) ∧ ∃ m, w' = w.drewN m := by
  obtain ⟨x, y, e1, e2, e3⟩ := or_word b0 b1 b2 b3
  generalize be [z0, z1, z2, z3] = R at e3 ⊢
  have i0 : (0 : Int) < (n : Int) := by omega
  have i1 : (1 : Int) < (n : Int) := by omega
  have i2 : (2 : Int) < (n : Int) := by omega
  have i3 : (3 : Int) < (n : Int) := by omega
  go_enter Try.func44, Try.ntmps44
  go_wp2
  go_quiet (fail)
  go_wp2
  go_ret
  exact ⟨rfl, nq, rfl⟩

/-- The word at the front of the bytes from a place on. -/
theorem word_any (b o c : Nat) (xs : List Int) (j : Nat) (w : World) (hj : j + 4 ≤ xs.length) (hs : ∀ (j : Nat) (z : Int), xs[j]? = some z → w.cell? ⟨b, o + j, none⟩ = some (.int .u8 z)) (hb : Byt xs) :
    Calls Try.prog 44 #[.slice (some ⟨b, o + j, none⟩) (xs.length - j) c] w fun e w' => e = .returned (.int .i64 (w4 xs j)) ∧ Below w.heap.size w w' := by
  obtain ⟨z0, z1, z2, z3, h0, h1, h2, h3, e⟩ := w4_at hj
  rw [e]
  refine (word_cells b (o + j) (xs.length - j) c z0 z1 z2 z3 w (by omega) (hs j z0 h0) (hs (j + 1) z1 h1) (hs (j + 2) z2 h2) (hs (j + 3) z3 h3) (hb.at h0) (hb.at h1) (hb.at h2) (hb.at h3)).mono ?_
  rintro e w' ⟨rfl, m, rfl⟩
  exact ⟨rfl, below_drewN (Below.refl _ _) m⟩

theorem cell_four_new (w : World) (t u v x : Value) (e : TypeId) : ∀ j y, [t, u, v, x][j]? = some y → (w.alloc (.cells #[t, u, v, x] e)).cell? ((⟨w.heap.size, 0, none⟩ : Addr).add j) = some y := by
  intro j y h
  rw [addr_add, Nat.zero_add, cell_of_row _ w.heap.size j _ _ (0, 0) (heap_alloc_new w _)]
  match j, h with
  | 0, h => exact h
  | 1, h => exact h
  | 2, h => exact h
  | 3, h => exact h
  | j + 4, h => simp at h
theorem four_bv (v : Nat) : bv (fourL v) = [.int .u8 ((v : Int) / 16777216), .int .u8 ((v : Int) / 65536 % 256), .int .u8 ((v : Int) / 256 % 256), .int .u8 ((v : Int) % 256)] := by
  simp [bv, fourL]

set_option maxHeartbeats 1600000 in
set_option maxRecDepth 100000 in
theorem appWord_any (base : Nat) (rv : Value) (xs : List Int) (v : Nat) (w : World) (hown : w.ownsRow base 5 1 rv xs.length (bv xs)) (hv : v < 4294967296) (hn : xs.length ≤ 1000000) (hB : base ≤ w.heap.size) :
    Calls Try.prog 27 #[rv, .int .i64 v] w fun e w' => ∃ v', e = .returned v' ∧ w'.ownsRow base 5 1 v' (xs ++ fourL v).length (bv (xs ++ fourL v)) ∧ Below base w w' := by
  obtain ⟨i0, hi, hz0, hz1, hz2⟩ := info_parts Try.info5
  have HO : Hid _ := hown
  have HF : Hid _ := four_bv v
  obtain ⟨T, hT⟩ : ∃ T, xs ++ fourL v = T := ⟨_, rfl⟩
  have HL : Hid (T.length = xs.length + 4) := by show T.length = _; rw [← hT, List.length_append, four_len]
  rw [hT]
  have HT : Hid _ := hT
  clear hT hown
  go_enter Try.func27, Try.ntmps27
  go_wp2_with (first
    | (at_builtin; refine wpList_append_own _ rfl _ _ 26 rfl base 5 i0 (.int .u8 0) 1 1 Try.underlying26 hi hz0 hz1 hz2 rfl (by decide) rv xs.length (bv xs) rfl (World.ownsRow.alloc HO.out _) ⟨w.heap.size, 0, none⟩ 4 4 [.int .u8 ((v : Int) / 16777216), .int .u8 ((v : Int) / 65536 % 256), .int .u8 ((v : Int) / 256 % 256), .int .u8 ((v : Int) % 256)] rfl rfl (cell_four_new _ _ _ _ _ _) (by rw [← four_bv]; exact bv_one _) (by unfold maxLen; omega) (by omega) (by simp; omega) ?_; intro v' w1 hown' hgrow _
       rw [← four_bv, ← bv_append, HT.out, ← HL.out] at hown'
       have HO1 : Hid _ := hown'
       have HB1 : Hid (Below base w w1) := ((Below.refl _ _).alloc hB _).grown hgrow (by simp; omega) (fun k hk => (World.ownsRow.lt HO.out k hk).1)
       clear hown' hgrow)
    | go_in)
  go_ret
  exact ⟨v', rfl, HO1.out, HB1.out⟩
end Go.Proofs.Ytdjibjmhjofedac
