/-
  Lists of bytes in memory; same.
-/
import Derived.Test.YtponpkfdkdnaeaaDoorRows
import Derived.Test.YtponpkfdkdnaeaaDoorSBase
import Derived.Test.YtponpkfdkdnaeaaDoorWNum
import Derived.Below
import Derived.Laws.AppendOwnNone
import Derived.Maps.AppendAt
import Derived.Deep.QuietTactic
import Derived.BigQuiet
namespace Go.Proofs.YtponpkfdkdnaeaaDoor
open Go.RowKit

/-- A slice of bytes: none, or these from an address on. -/
def Bys (w : World) (a : Option Addr) (zs : List Int) : Prop :=
  zs = [] ∨ ∃ b o, a = some ⟨b, o, none⟩ ∧ b < w.heap.size ∧ ∀ (j : Nat) (z : Int), zs[j]? = some z → w.cell? ⟨b, o + j, none⟩ = some (.int .u8 z)

theorem Bys.below {w w' : World} {a : Option Addr} {zs : List Int} (h : Bys w a zs) (hb : Below w.heap.size w w') : Bys w' a zs := by
  rcases h with h | ⟨b, o, ha, hlt, hs⟩
  · exact .inl h
  · refine .inr ⟨b, o, ha, Nat.lt_of_lt_of_le hlt hb.size, fun j x hx => ?_⟩
    rw [hb.cell (p := ⟨b, o + j, none⟩) hlt]
    exact hs j x hx

/-- Bytes as values. -/
def bv (l : List Int) : List Value := l.map (Value.int .u8)
theorem bv_len (l : List Int) : (bv l).length = l.length := List.length_map _
theorem bv_append (l m : List Int) : bv (l ++ m) = bv l ++ bv m := List.map_append
theorem bv_one (l : List Int) : ∀ u ∈ bv l, u.oneCell' = true := by
  intro u hu
  obtain ⟨y, _, rfl⟩ := List.mem_map.1 hu
  rfl

/-- A row of the call's own, as a slice. -/
theorem bys_of_owns {w : World} {base n : Nat} {v : Value} {zs : List Int} (h : w.ownsRow base 5 1 v n (bv zs)) :
    ∃ a c, v = .slice a zs.length c ∧ Bys w a zs ∧ (a = none → c = 0) ∧ n = zs.length ∧ zs.length ≤ c ∧ c ≤ maxLen := by
  have hn : n = zs.length := by have := h.1; rw [bv_len] at this; omega
  subst hn
  rcases h.2 with ⟨rfl, h0⟩ | ⟨g, cap, cur, rfl, hg, hb, hn, hc, hs, ht⟩
  · have : zs = [] := List.eq_nil_of_length_eq_zero h0
    subst this
    exact ⟨none, 0, rfl, .inl rfl, fun _ => rfl, rfl, Nat.le_refl _, Nat.zero_le _⟩
  · refine ⟨some ⟨g, 0, none⟩, cap, rfl, .inr ⟨g, 0, rfl, lt_of_blk hb, fun j x hx => ?_⟩, (fun e => by cases e), rfl, hn, hc⟩
    have hj : j < zs.length := (List.getElem?_eq_some_iff.1 hx).1
    rw [Nat.zero_add, h.cellAt j (by omega)]
    simp [bv, hx]

theorem cells_at {w : World} {ad : Addr} {zs : List Int} (h : Bys w (some ad) zs) : ∀ j u, (bv zs)[j]? = some u → w.cell? (ad.add j) = some u := by
  intro j u hj
  rcases h with rfl | ⟨b, o, ha, _, hs⟩
  · simp [bv] at hj
  · have hab : ad = ⟨b, o, none⟩ := Option.some.inj ha
    subst hab
    unfold bv at hj
    rw [List.getElem?_map, Option.map_eq_some_iff] at hj
    obtain ⟨x, hx, rfl⟩ := hj
    rw [addr_add]
    exact hs j x hx

end Go.Proofs.YtponpkfdkdnaeaaDoor
