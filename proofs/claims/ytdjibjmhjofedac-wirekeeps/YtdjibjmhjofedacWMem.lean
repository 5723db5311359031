/-
  Lists of bytes in memory; same.
-/
import Derived.Test.YtdjibjmhjofedacRows
import Derived.Test.YtdjibjmhjofedacWNum
import Derived.Below
import Derived.Laws.AppendOwnNone
import Derived.Maps.AppendAt
import Derived.Deep.QuietTactic
import Derived.BigQuiet
namespace Go.Proofs.Ytdjibjmhjofedac
open Go.RowKit

theorem trans2 {w w1 w2 : World} (h1 : Below w.heap.size w w1) (h2 : Below w1.heap.size w1 w2) : Below w.heap.size w w2 := h1.trans (h2.mono h1.size)

/-- A slice of bytes: none, or these from an address on. -/
def Bys (w : World) (a : Option Addr) (zs : List Int) : Prop :=
  zs = [] ∨ ∃ b o, a = some ⟨b, o, none⟩ ∧ b < w.heap.size ∧ ∀ (j : Nat) (z : Int), zs[j]? = some z → w.cell? ⟨b, o + j, none⟩ = some (.int .u8 z)

theorem Bys.below {w w' : World} {a : Option Addr} {zs : List Int} (h : Bys w a zs) (hb : Below w.heap.size w w') : Bys w' a zs := by
  rcases h with h | ⟨b, o, ha, hlt, hs⟩
  · exact .inl h
  · refine .inr ⟨b, o, ha, Nat.lt_of_lt_of_le hlt hb.size, fun j x hx => ?_⟩
    rw [hb.cell (p := ⟨b, o + j, none⟩) hlt]
    exact hs j x hx

/-- Bytes as values. -/
def bv (l : List Int) : List Value := l.map (Value.int .u8)
theorem bv_len (l : List Int) : (bv l).length = l.length := List.length_map _
theorem bv_append (l m : List Int) : bv (l ++ m) = bv l ++ bv m := List.map_append
theorem bv_one (l : List Int) : ∀ u ∈ bv l, u.oneCell' = true := by
  intro u hu
  obtain ⟨y, _, rfl⟩ := List.mem_map.1 hu
  rfl

theorem lt_of_blk {w : World} {b : Nat} {o : Obj} (h : w.heap[b]? = some o) : b < w.heap.size := by
  rcases Nat.lt_or_ge b w.heap.size with g | g
  · exact g
  · rw [Array.getElem?_eq_none g] at h; cases h

/-- A row of the call's own, as a slice. -/
theorem bys_of_owns {w : World} {base n : Nat} {v : Value} {zs : List Int} (h : w.ownsRow base 5 1 v n (bv zs)) :
    ∃ a c, v = .slice a zs.length c ∧ Bys w a zs ∧ (a = none → c = 0) ∧ n = zs.length ∧ zs.length ≤ c ∧ c ≤ maxLen := by
  have hn : n = zs.length := by have := h.1; rw [bv_len] at this; omega
  subst hn
  rcases h.2 with ⟨rfl, h0⟩ | ⟨g, cap, cur, rfl, hg, hb, hn, hc, hs, ht⟩
  · have : zs = [] := List.eq_nil_of_length_eq_zero h0
    subst this
    exact ⟨none, 0, rfl, .inl rfl, fun _ => rfl, rfl, Nat.le_refl _, Nat.zero_le _⟩
  · refine ⟨some ⟨g, 0, none⟩, cap, rfl, .inr ⟨g, 0, rfl, lt_of_blk hb, fun j x hx => ?_⟩, (fun e => by cases e), rfl, hn, hc⟩
    have hj : j < zs.length := (List.getElem?_eq_some_iff.1 hx).1
    rw [Nat.zero_add, h.cellAt j (by omega)]
    simp [bv, hx]

theorem addr_add (b o j : Nat) : (⟨b, o, none⟩ : Addr).add j = ⟨b, o + j, none⟩ := by unfold Addr.add; split <;> simp_all
theorem cells_at {w : World} {ad : Addr} {zs : List Int} (h : Bys w (some ad) zs) : ∀ j u, (bv zs)[j]? = some u → w.cell? (ad.add j) = some u := by
  intro j u hj
  rcases h with rfl | ⟨b, o, ha, _, hs⟩
  · simp [bv] at hj
  · have hab : ad = ⟨b, o, none⟩ := Option.some.inj ha
    subst hab
    unfold bv at hj
    rw [List.getElem?_map, Option.map_eq_some_iff] at hj
    obtain ⟨x, hx, rfl⟩ := hj
    rw [addr_add]
    exact hs j x hx

/-- Equal as far as this? -/
theorem same_part {xs ys : List Int} {k : Nat} {x y : Int} (hx : xs[k]? = some x) (hy : ys[k]? = some y) (h : x ≠ y) : xs ≠ ys := by
  intro e
  subst e
  rw [hx] at hy
  exact h (Option.some.inj hy)
theorem same_step {xs ys : List Int} {k : Nat} {x : Int} (hx : xs[k]? = some x) (hy : ys[k]? = some x) (h : xs.take k = ys.take k) : xs.take (k + 1) = ys.take (k + 1) := by
  rw [List.take_add_one, List.take_add_one, hx, hy, h]

theorem same_any (a b : Option Addr) (c d : Nat) (xs ys : List Int) (w : World) (hx : Bys w a xs) (hy : Bys w b ys) (hm : xs.length ≤ maxLen) :
    Calls Try.prog 13 #[.slice a xs.length c, .slice b ys.length d] w fun e w' => e = .returned (.bool (decide (xs = ys))) ∧ ∃ m, w' = w.drewN m := by
  unfold maxLen at hm
  by_cases hl : xs.length = ys.length
  · rcases hx with rfl | ⟨b1, o1, rfl, h1, hs1⟩
    · have : ys = [] := List.eq_nil_of_length_eq_zero hl.symm
      subst this
      go_enter Try.func13, Try.ntmps13
      go_wp2
      refine wp_loop_rounds 1 ?_
      rw [rounds_succ]
      go_wp2
      go_ret
      exact ⟨rfl, 0, rfl⟩
    · rcases hy with rfl | ⟨b2, o2, rfl, h2, hs2⟩
      · have : xs = [] := List.eq_nil_of_length_eq_zero hl
        subst this
        go_enter Try.func13, Try.ntmps13
        go_wp2
        refine wp_loop_rounds 1 ?_
        rw [rounds_succ]
        go_wp2
        go_ret
        exact ⟨rfl, 0, rfl⟩
      · obtain ⟨r, hr⟩ : ∃ r, decide (xs = ys) = r := ⟨_, rfl⟩
        rw [hr]
        have HR : Hid _ := hr
        have HS1 : Hid _ := hs1
        have HS2 : Hid _ := hs2
        clear hs1 hs2 h1 h2 hr
        go_enter Try.func13, Try.ntmps13
        go_wp2
        go_loopw [5] (fun i wr => ∃ k m : Nat, i = .int .i64 k ∧ wr = w.drewN m ∧ k ≤ xs.length ∧ xs.take k = ys.take k) (fun i _ => xs.length - (intOf i).toNat)
        case atStart => exact ⟨0, 0, rfl, rfl, by omega, rfl⟩
        case round =>
          obtain ⟨k, m, rfl, rfl, hk, ha⟩ := hrel
          have HA : Hid _ := ha
          clear ha
          by_cases hlt : k < xs.length
          · obtain ⟨x, hx⟩ : ∃ x, xs[k]? = some x := ⟨xs[k], List.getElem?_eq_getElem hlt⟩
            obtain ⟨y, hy⟩ : ∃ y, ys[k]? = some y := ⟨ys[k]'(by omega), List.getElem?_eq_getElem (by omega)⟩
            have hc1 := HS1.out k x hx
            have hc2 := HS2.out k y hy
            have HX : Hid (xs[k]? = some x) := hx
            have HY : Hid (ys[k]? = some y) := hy
            clear hx hy
            have hlt' : (k : Int) < (xs.length : Int) := by omega
            have hlt2 : (k : Int) < (ys.length : Int) := by omega
            by_cases he : x = y
            · subst he
              go_wp2
              go_quiet (fail)
              go_wp2
              go_roundw
              case rel => exact ⟨k + 1, m + nq, by go_num, rfl, by omega, same_step HX.out HY.out HA.out⟩
              case measure => simp [intOf]; omega
            · have he' : (x != y) = true := by simpa using he
              go_wp2
              go_quiet (fail)
              go_wp2
              go_ret
              refine ⟨?_, m + nq, by simp⟩
              rw [← HR.out, decide_eq_false (same_part HX.out HY.out he)]
              rfl
          · obtain rfl : k = xs.length := by omega
            have e : r = true := by
              have := HA.out
              rw [List.take_length, hl, List.take_length] at this
              rw [← HR.out, decide_eq_true this]
            subst e
            clear HR HS1 HS2 HA
            go_wp2
            go_ret
            exact ⟨rfl, m, rfl⟩
  · have hne : decide (xs = ys) = false := decide_eq_false (fun e => hl (by rw [e]))
    rw [hne]
    clear hx hy hne
    have hl' : ((xs.length : Int) != (ys.length : Int)) = true := by simp; omega
    go_enter Try.func13, Try.ntmps13
    go_wp2
    go_ret
    exact ⟨rfl, 0, rfl⟩
theorem below_drewN {B : Nat} {a w : World} (h : Below B a w) (n : Nat) : Below B a (w.drewN n) := ⟨h.os, h.tape, h.output, h.size, h.block⟩
/-- same, the world as it was below. -/
theorem same_is {a b : Option Addr} {c d : Nat} {xs ys : List Int} {w : World} (hx : Bys w a xs) (hy : Bys w b ys) (hm : xs.length ≤ maxLen) :
    Calls Try.prog 13 #[.slice a xs.length c, .slice b ys.length d] w fun e w' => e = .returned (.bool (decide (xs = ys))) ∧ Below w.heap.size w w' := by
  refine (same_any a b c d xs ys w hx hy hm).mono ?_
  rintro e w' ⟨rfl, m, rfl⟩
  exact ⟨rfl, below_drewN (Below.refl _ _) m⟩
end Go.Proofs.Ytdjibjmhjofedac
