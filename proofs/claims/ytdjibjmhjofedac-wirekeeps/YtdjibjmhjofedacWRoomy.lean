/-
  roomy, untouched, turned.
-/
import Derived.Test.YtdjibjmhjofedacWNumber
import Derived.Test.YtdjibjmhjofedacWBits
namespace Go.Proofs.Ytdjibjmhjofedac
open Go.RowKit

theorem owns_same {w w' : World} {B e s n : Nat} {v : Value} {xs : List Value} (h : w.ownsRow B e s v n xs) (hk : ∀ k, v.ownBlock = some k → w'.heap[k]? = w.heap[k]?) : w'.ownsRow B e s v n xs := by
  refine ⟨h.1, h.2.imp id ?_⟩
  rintro ⟨g, cap, cur, rfl, hg, hb, r⟩
  exact ⟨g, cap, cur, rfl, hg, by rw [hk g rfl]; exact hb, r⟩
theorem owns_below {w w' : World} {B e s n : Nat} {v : Value} {xs : List Value} (h : w.ownsRow B e s v n xs) (hb : Below w.heap.size w w') : w'.ownsRow B e s v n xs :=
  owns_same h fun k hk => hb.block k (h.lt k hk).2

theorem cell_two_new (w : World) (u v : Value) (e : TypeId) : ∀ j x, [u, v][j]? = some x → (w.alloc (.cells #[u, v] e)).cell? ((⟨w.heap.size, 0, none⟩ : Addr).add j) = some x := by
  intro j x h
  rw [addr_add, Nat.zero_add, cell_of_row _ w.heap.size j _ _ (0, 0) (heap_alloc_new w _)]
  match j, h with
  | 0, h => exact h
  | 1, h => exact h
  | j + 2, h => simp at h

/-- A copy with marks in the room behind it. -/
def Room (w : World) (base g cap : Nat) (xs : List Int) : Prop := w.ownsRow base 5 1 (.slice (some ⟨g, 0, none⟩) (xs.length + 2) cap) (xs.length + 2) (bv (xs ++ [167, 94]))
theorem Room.below {w w' : World} {base g cap : Nat} {xs : List Int} (h : Room w base g cap xs) (hb : Below w.heap.size w w') : Room w' base g cap xs := owns_below h hb
theorem Room.lt {w : World} {base g cap : Nat} {xs : List Int} (h : Room w base g cap xs) : base ≤ g ∧ g < w.heap.size := World.ownsRow.lt h g rfl
theorem Room.cap {w : World} {base g cap : Nat} {xs : List Int} (h : Room w base g cap xs) : xs.length + 2 ≤ cap ∧ cap ≤ maxLen := by
  rcases h.2 with ⟨h', _⟩ | ⟨g', cap', cur, h', _, _, hn, hc, _⟩
  · cases h'
  · simp only [Value.slice.injEq, Option.some.injEq, Addr.mk.injEq, and_true, true_and] at h'
    obtain ⟨rfl, rfl⟩ := h'
    exact ⟨hn, hc⟩
theorem Room.cell {w : World} {base g cap : Nat} {xs : List Int} (h : Room w base g cap xs) (j : Nat) (z : Int) (hj : (xs ++ [167, 94])[j]? = some z) : w.cell? ⟨g, j, none⟩ = some (.int .u8 z) := by
  have hl : j < xs.length + 2 := by have := (List.getElem?_eq_some_iff.1 hj).1; simpa using this
  rw [World.ownsRow.cellAt h j (by omega)]
  unfold bv
  rw [List.getElem?_map, hj]
  rfl
theorem Room.bys {w : World} {base g cap : Nat} {xs : List Int} (h : Room w base g cap xs) : Bys w (some ⟨g, 0, none⟩) xs := by
  refine .inr ⟨g, 0, rfl, h.lt.2, fun j z hz => ?_⟩
  rw [Nat.zero_add]
  have hl : j < xs.length := (List.getElem?_eq_some_iff.1 hz).1
  exact h.cell j z (by rw [List.getElem?_append_left hl]; exact hz)
theorem Room.free {w : World} {base g cap : Nat} {xs : List Int} (h : Room w base g cap xs) (j : Nat) : w.frozen? ⟨g, j, none⟩ = false := World.ownsRow.frozenAt h j

theorem form_of {w : World} {B e n : Nat} {v : Value} {xs : List Value} (h : w.ownsRow B e 1 v n xs) (hn : 0 < n) : ∃ g cap, v = .slice (some ⟨g, 0, none⟩) n cap ∧ n ≤ cap ∧ cap ≤ maxLen := by
  rcases h.2 with ⟨_, h0⟩ | ⟨g, cap, _, hv, _, _, hc, hm, _⟩
  · omega
  · exact ⟨g, cap, hv, hc, hm⟩
theorem two_one : ∀ u ∈ [Value.int .u8 167, Value.int .u8 94], u.oneCell' = true := by
  intro u hu
  simp at hu
  rcases hu with rfl | rfl <;> rfl

set_option maxHeartbeats 1600000 in
set_option maxRecDepth 100000 in
theorem roomy_any (a : Option Addr) (c : Nat) (xs : List Int) (w : World) (hx : Bys w a xs) (hn : a = none → c = 0) (hm : xs.length ≤ 1000000) :
    Calls Try.prog 17 #[.slice a xs.length c] w fun e w' => ∃ g cap, e = .returned (.slice (some ⟨g, 0, none⟩) xs.length cap) ∧ Room w' w.heap.size g cap xs ∧ Below w.heap.size w w' := by
  obtain ⟨i0, hi, hz0, hz1, hz2⟩ := info_parts Try.info5
  have HX : Hid (Bys w a xs) := hx
  clear hx
  cases a with
  | none =>
    have hc0 := hn rfl
    subst hc0
    have hxs : xs = [] := by
      rcases HX.out with h | ⟨b, o, h, _⟩
      · exact h
      · cases h
    subst hxs
    simp only [List.length_nil]
    clear HX hn
    go_enter Try.func17, Try.ntmps17
    go_wp2_with (first
      | (at_builtin; refine wpList_append_own _ rfl _ _ 26 rfl w.heap.size 5 i0 (.int .u8 0) 1 1 Try.underlying26 hi hz0 hz1 hz2 rfl (by decide) (.slice none 0 0) 0 [] rfl (World.ownsRow_nil _ _ _ _) ⟨w.heap.size, 0, none⟩ 2 2 [.int .u8 167, .int .u8 94] rfl rfl (cell_two_new _ _ _ _) two_one (by unfold maxLen; omega) (by omega) (by simp) ?_; intro v' w1 hown' hgrow _
         obtain ⟨g, cap, rfl, hcap, hcm⟩ := form_of hown' (by omega)
         have HO : Hid (Room w1 w.heap.size g cap []) := hown'
         have HB : Hid (Below w.heap.size w w1) := ((Below.refl _ _).alloc (Nat.le_refl _) _).grown hgrow (by simp) (fun k hk => by cases hk)
         clear hown' hgrow)
      | go_in)
    go_ret
    exact ⟨g, cap, rfl, HO.out, HB.out⟩
  | some ad =>
    go_enter Try.func17, Try.ntmps17
    go_wp2_with (first
      | (at_builtin; refine wpList_append_own _ rfl _ _ 26 rfl w.heap.size 5 i0 (.int .u8 0) 1 1 Try.underlying26 hi hz0 hz1 hz2 rfl (by decide) (.slice none 0 0) 0 [] rfl (World.ownsRow_nil _ _ _ _) ad xs.length c (bv xs) rfl (by rw [bv_len, Nat.mul_one]) (cells_at HX.out) (bv_one xs) (by unfold maxLen; omega) (by omega) (Nat.le_refl _) ?_; intro v1 w1 hown1 hgrow1 _
         rw [Nat.zero_add, List.nil_append] at hown1
         have HO1 : Hid (w1.ownsRow w.heap.size 5 1 v1 xs.length (bv xs)) := hown1
         have HB1 : Hid (Below w.heap.size w w1) := (Below.refl _ _).grown hgrow1 (Nat.le_refl _) (fun k hk => by cases hk)
         clear hown1 hgrow1)
      | (at_builtin; refine wpList_append_own _ rfl _ _ 26 rfl w.heap.size 5 i0 (.int .u8 0) 1 1 Try.underlying26 hi hz0 hz1 hz2 rfl (by decide) v1 xs.length (bv xs) rfl (World.ownsRow.alloc HO1.out _) ⟨w1.heap.size, 0, none⟩ 2 2 [.int .u8 167, .int .u8 94] rfl rfl (cell_two_new _ _ _ _) two_one (by unfold maxLen; omega) (by omega) (by have := HB1.out.size; simp; omega) ?_; intro v' w2 hown' hgrow _
         obtain ⟨g, cap, rfl, hcap, hcm⟩ := form_of hown' (by omega)
         have HO : Hid (Room w2 w.heap.size g cap xs) := by unfold Room; rw [bv_append]; exact hown'
         have HB : Hid (Below w.heap.size w w2) := (HB1.out.alloc HB1.out.size _).grown hgrow (by have := HB1.out.size; simp; omega) (fun k hk => (World.ownsRow.lt HO1.out k hk).1)
         have hcap' : (xs.length : Int) ≤ (cap : Int) := by omega
         clear hown' hgrow)
      | go_in)
    go_ret
    exact ⟨g, cap, rfl, HO.out, HB.out⟩
end Go.Proofs.Ytdjibjmhjofedac
