/-
  What a row's list gives the walks; a world that holds the listed variables.
-/
import Derived.Test.YtdjfeomdiljaeaaGreatDoorNames
import Derived.Deep.DeepHandedRow
import Derived.Lib.LaidTab
import Derived.LaidSub
import Derived.MakeChecks
import Derived.Shelf.Vars
namespace Go.Proofs.YtdjfeomdiljaeaaGreatDoor
open Go.RowKit

/-- An array of bools that reads as these bools holds them. -/
theorem cells_of_bools {H : Type} {enc : TypeId × Value → H} {P : Program} {w : World} {base : Nat} {sp : Nat → Bool} {held : Bool} {fuel : Nat} {t e : TypeId} {n : Nat} {cs : List Value} {zs : List Bool} {p : List MemPlace}
    (ht : P.underlying t = some (.array n e)) (he : P.underlying e = some .bool) (hce : P.cellsOf e = 1) (hct : P.cellsOf t = n)
    (h : DataW.trod enc P w base sp held fuel t cs = some (.agg (zs.map fun z => .lit (.bool z)), p)) : cs = zs.map fun z => Value.bool z := by
  cases fuel with
  | zero => simp [DataW.trod] at h
  | succ fuel =>
    simp only [DataW.trod, ht, hce, hct, Nat.mul_one] at h
    split at h
    · rename_i hl
      obtain ⟨xs, hm, hx⟩ := Option.map_eq_some_iff.1 h
      have hxs : xs.map (·.1) = zs.map fun z => (DataW.lit (.bool z) : DataW H) := by
        have := congrArg Prod.fst hx
        simpa using this
      have hxl : xs.length = n := by simpa using Lib.mapM_length hm
      have hzl : zs.length = n := by
        have := congrArg List.length hxs
        simp at this
        omega
      apply List.ext_getElem?
      intro i
      by_cases hi : i < n
      · obtain ⟨b, hb, hf⟩ := Lib.mapM_at hm i i (by simp [hi])
        obtain ⟨z, hc, rfl⟩ := DataW.trod_bool he hf
        have h1 : cs[i]? = some (.bool z) := by
          have := congrArg (·[0]?) hc
          simpa [List.getElem?_take, List.getElem?_drop] using this
        have h2 : (xs.map (·.1))[i]? = some (DataW.lit (.bool z) : DataW H) := by simp [hb]
        rw [hxs] at h2
        simp only [List.getElem?_map, Option.map_eq_some_iff, DataW.lit.injEq, Lit.bool.injEq] at h2
        obtain ⟨z', hz', rfl⟩ := h2
        simp [h1, hz']
      · rw [List.getElem?_eq_none (by omega), List.getElem?_eq_none (by simp; omega)]
    · cases h

def nameTab : List Bool := (List.range 128).map fun i => nameB (UInt8.ofNat i)

theorem gTab : Tryz.prog.globalNamed "herald/place.nameBytes" = some 4 := by kernel_rfl
theorem gTabType : (Tryz.prog.globals[4]?).map (·.type) = some 337 := by kernel_rfl
theorem cellsTab : Tryz.prog.cellsOf 337 = 128 := by kernel_rfl
theorem cells4 : Tryz.prog.cellsOf 4 = 1 := by kernel_rfl
theorem datumTab : (Rows.laid_herald_place_nameBytes : DataW Unit) = .agg (nameTab.map fun z => .lit (.bool z)) := by kernel_rfl

theorem ground_of {W : World} {l : List (String × DataW Unit)} (hf : (l.filter fun x => x.1 == "herald/place.nameBytes") = [("herald/place.nameBytes", Rows.laid_herald_place_nameBytes)])
    (hL : laidMetH Tryz.prog l W) (hS : W.ShapedOpen Tryz.prog) : Ground W := by
  have h1 := hL.filter (fun x => x.1 == "herald/place.nameBytes")
  rw [hf, Go.MakeChecks.laidMetH_plain _ _ _ (by kernel_rfl)] at h1
  obtain ⟨ps, ⟨g', t', cs, fuel, p, q, hg', ht', hvar, hd, _, _⟩, _⟩ := h1
  obtain rfl := Option.some.inj (gTab.symm.trans hg')
  obtain rfl := Option.some.inj (gTabType.symm.trans ht')
  rw [datumTab] at hd
  have hcs := cells_of_bools Tryz.underlying337 Tryz.underlying4 cells4 cellsTab hd
  refine ⟨fun i hi => ?_, Go.Proofs.cell_of_shapedOpen_int (zero := #[.int .i64 0]) (t := 3) hS (of_decide_eq_true (by kernel_rfl)) (by kernel_rfl) rfl (by kernel_rfl) (by kernel_rfl) Tryz.underlying3⟩
  rw [World.var?_cell gTab hvar i, ← Array.getElem?_toList, hcs]
  simp [nameTab, hi]

/-- A datum's cells. -/
def flat1 : DataW Unit → List Value
  | .lit (.int k n) => [.int k n]
  | .lit (.bool b) => [.bool b]
  | _ => []
def flat2 : DataW Unit → List Value
  | .agg ps => ps.flatMap flat1
  | d => flat1 d
def flat3 : DataW Unit → List Value
  | .agg ps => ps.flatMap flat2
  | d => flat1 d
def put (g : Nat) (d : DataW Unit) (heap : Array Obj) : Array Obj := heap.modify g fun
  | .cells _ t frozen => .cells (flat3 d).toArray t frozen
  | o => o
end Go.Proofs.YtdjfeomdiljaeaaGreatDoor
