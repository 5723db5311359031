/-
  PlaceNames: the kinds.
-/
import Derived.Test.YtblhenblibdjoaaDoorNames1
namespace Go.Proofs.YtblhenblibdjoaaDoor
open Go.RowKit

theorem wpList_buildSlice {P : Program} (w : World) {ops : Array Oper} {rest : List Oper} {o : Oper} {a : Act} {Q : Exit → Act → World → Prop} (hg : o.guard = none) (t : TypeId) (len : Nat) (parts : Array (Nat × Operand))
    (hop : o.op = .buildSlice t len parts) (v : Value) (w' : World) (hrun : (Instr.buildSlice t len (parts.map fun (i, x) => (i, a.eval x))).run P w = .ok v w')
    (hK : wpList P ops Q rest (a.put o.dst v) w') : wpList P ops Q (o :: rest) a w := by
  refine wpList_plain hg fun K hK' => ?_
  unfold Oper.wp
  simp [execOp, hop, hrun, Result.andThen]
  exact hK' _ _ hK

def kindNums : List Int := [1, 2, 3, 4, 5, 6, 7, 1, 2, 1, 2, 3, 1, 2, 3, 4, 1, 2, 3, 1, 2, 3, 4, 5, 6, 7, 8, 9, 10, 11, 12, 13, 14, 15, 16, 17, 18, 19, 20, 21, 22, 23, 24, 1, 2, 3, 4, 5, 6, 1, 2, 3, 4, 5, 6, 7, 8, 9, 10, 11, 12, 13, 14, 15, 16, 17, 1, 2, 3, 4, 5, 6, 1, 2, 3, 0, 1, 2, 3, 4, 0, 1, 2, 3, 4, 1, 2, 3, 4, 5, 6, 7, 8, 9, 10]
def kindsArr : Array Value := (kindNums.flatMap fun z => [Value.int .i64 z, Value.int .i64 z]).toArray

set_option maxHeartbeats 40000000 in
set_option maxRecDepth 100000 in
theorem kinds_any (w : World) :
    Calls Tryd.prog 14 #[] w fun e w' => e = .returned (.bool true) ∧ Below w.heap.size w w' := by
  have HP : Hid (Calls Tryd.prog 33 #[.slice (some ⟨w.heap.size, 0, none⟩) 95 95] (w.alloc (.cells kindsArr 49)) fun e w' => e = .returned (.bool true) ∧ ∃ m, w' = (w.alloc (.cells kindsArr 49)).drewN m) :=
    pairs_any _ 95 95 (by decide) _ (twice_new w _ 95 (by kernel_rfl))
  go_enter Tryd.func14, Tryd.ntmps14
  go_wp2_with (first | (refine wpList_buildSlice _ rfl 50 95 _ rfl (.slice (some ⟨w.heap.size, 0, none⟩) 95 95) (w.alloc (.cells kindsArr 49)) (by kernel_rfl) ?_) | fail)
  refine Calls.mono HP.out ?_
  rintro e w1 ⟨rfl, m, rfl⟩
  go_wp2
  go_ret
  exact ⟨rfl, below_drewN ((Below.refl _ _).alloc (Nat.le_refl _) _) _⟩
end Go.Proofs.YtblhenblibdjoaaDoor
