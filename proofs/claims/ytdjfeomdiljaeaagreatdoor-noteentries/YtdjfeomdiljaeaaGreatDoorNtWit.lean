/-
  note: a world that holds the listed variables, the table of spaces among them.
-/
import Derived.Test.YtdjfeomdiljaeaaGreatDoorNtLaid0
import Derived.Deep.DeepWitnessRowRef
import Derived.Lib.LaidIn
namespace Go.Proofs.YtdjfeomdiljaeaaGreatDoor
open Go.RowKit
set_option linter.unusedVariables false
/-- A datum's cells, texts too. -/
def flatN1 : DataW Unit → List Value
  | .lit (.int k n) => [.int k n]
  | .lit (.bool b) => [.bool b]
  | .lit (.string s) => [.string ⟨s.toArray⟩]
  | _ => []
def flatN2 : DataW Unit → List Value
  | .agg ps => ps.flatMap flatN1
  | d => flatN1 d
def flatN3 : DataW Unit → List Value
  | .agg ps => ps.flatMap flatN2
  | d => flatN1 d
def putC (g : Nat) (cs : List Value) (heap : Array Obj) : Array Obj := heap.modify g fun
  | .cells _ t frozen => .cells cs.toArray t frozen
  | o => o
def putN (g : Nat) (d : DataW Unit) (heap : Array Obj) : Array Obj := putC g (flatN3 d) heap
/-- The pairs of the table of spaces. -/
def whiteR : List Value := match (Rows.laid_unicode_White_Space : DataW Unit) with
  | .ptr (.agg (.slice xs _ :: _)) => xs.flatMap flatN2
  | _ => []
noncomputable def witN : Nat := (World.settled Tryz.prog default).heap.size
noncomputable def whiteW (os : Os) : World :=
  { World.holding Tryz.prog os ⟨#[.cells whiteR.toArray 309, .cells #[.slice (some ⟨(World.settled Tryz.prog os).heap.size, 0, none⟩) 7 7, .slice none 0 0, .int .i64 2] 306], #[], []⟩ with
    heap := putC 3 [.pointer (some ⟨(World.settled Tryz.prog os).heap.size + 1, 0, none⟩)] (World.holding Tryz.prog os ⟨#[.cells whiteR.toArray 309, .cells #[.slice (some ⟨(World.settled Tryz.prog os).heap.size, 0, none⟩) 7 7, .slice none 0 0, .int .i64 2] 306], #[], []⟩).heap }
noncomputable def laidWN (os : Os) : World :=
  { whiteW os with heap := (putN 7 Rows.laid_unicode_utf8_acceptRanges (putN 2 Rows.laid_strings_asciiSpace (putN 4 Rows.laid_herald_place_nameBytes (putN 0 Rows.laid_herald_note_kindFields (putN 6 Rows.laid_unicode_utf8_first (whiteW os).heap))))) }
set_option maxRecDepth 100000 in
theorem pieceA (os : Os) (args : Array Value) : LaidIn Tryz.prog ((laidWN os).forCall (fun _ _ => 0) ⟨#[], args, []⟩).memory [("unicode/utf8.acceptRanges", Rows.laid_unicode_utf8_acceptRanges)] [7] :=
  LaidIn.of_run [7] 8 (by kernel_rfl) (by kernel_rfl) (by kernel_rfl) (by kernel_rfl)
set_option maxRecDepth 100000 in
theorem pieceW (os : Os) (args : Array Value) : LaidIn Tryz.prog ((laidWN os).forCall (fun _ _ => 0) ⟨#[], args, []⟩).memory [("unicode.White_Space", Rows.laid_unicode_White_Space)] [3, (World.settled Tryz.prog default).heap.size + 1, (World.settled Tryz.prog default).heap.size] :=
  LaidIn.of_run [3, (World.settled Tryz.prog default).heap.size + 1, (World.settled Tryz.prog default).heap.size] 8 (by kernel_rfl) (by kernel_rfl) (by kernel_rfl) (by kernel_rfl)
set_option maxRecDepth 100000 in
theorem pieceS (os : Os) (args : Array Value) : LaidIn Tryz.prog ((laidWN os).forCall (fun _ _ => 0) ⟨#[], args, []⟩).memory [("strings.asciiSpace", Rows.laid_strings_asciiSpace)] [2] :=
  LaidIn.of_run [2] 8 (by kernel_rfl) (by kernel_rfl) (by kernel_rfl) (by kernel_rfl)
set_option maxRecDepth 100000 in
theorem pieceP (os : Os) (args : Array Value) : LaidIn Tryz.prog ((laidWN os).forCall (fun _ _ => 0) ⟨#[], args, []⟩).memory [("herald/place.nameBytes", Rows.laid_herald_place_nameBytes)] [4] :=
  LaidIn.of_run [4] 8 (by kernel_rfl) (by kernel_rfl) (by kernel_rfl) (by kernel_rfl)
set_option maxRecDepth 100000 in
theorem pieceK (os : Os) (args : Array Value) : LaidIn Tryz.prog ((laidWN os).forCall (fun _ _ => 0) ⟨#[], args, []⟩).memory [("herald/note.kindFields", Rows.laid_herald_note_kindFields)] [0] :=
  LaidIn.of_run [0] 8 (by kernel_rfl) (by kernel_rfl) (by kernel_rfl) (by kernel_rfl)
set_option maxRecDepth 100000 in
theorem pieceF (os : Os) (args : Array Value) : LaidIn Tryz.prog ((laidWN os).forCall (fun _ _ => 0) ⟨#[], args, []⟩).memory [("unicode/utf8.first", Rows.laid_unicode_utf8_first)] [6] :=
  LaidIn.of_run [6] 8 (by kernel_rfl) (by kernel_rfl) (by kernel_rfl) (by kernel_rfl)
end Go.Proofs.YtdjfeomdiljaeaaGreatDoor
