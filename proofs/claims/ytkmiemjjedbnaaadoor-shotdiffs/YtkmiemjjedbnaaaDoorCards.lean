/-
  DERIVED. GIVEN WITH THE SEED: THE CARDS: each row of YtkmiemjjedbnaaaDoorRows.lean that lists a variable, with what it lists TIED to the program's text (the seventh form; the later family's looks); each row that meets fmt, with fmt's text TOLD by the authors' own Lean function (tested against real Go, not proved from fmt's source: count such statements apart). THE CARD IS WHAT COUNTS. Prove the row's statement (the work); the ties are given (YtkmiemjjedbnaaaDoorTie.lean); close each card by the builder's one call (the guide's Derived/Test/ToyasCard.lean, 'card_holds'). Laid BY PROGRAM, IN A SANDBOX (cutbox-door.mjs). By AI agents, Wed Nov 11 2026. No macro, syntax, notation, axiom, sorry.
-/
import Derived.Test.YtkmiemjjedbnaaaDoorRows
import GoSem.ClaimSeven
namespace Go.Proofs.YtkmiemjjedbnaaaDoor
namespace Rows

/-- THE TIED CARD OF 'heraldlaw5.ShotDiffs'. -/
def shotDiffsCard : Claim7 := { stood := { row := shotDiffsRow, standIns := [], harness := (true, "28f1ab3a8f9b8f0bd751bb9c3466bfa341462e40f599ad6dc8965ff8a8fdbff6"), looks := false }, kinds := [], alts := [], laidByText := true, laidKinds := [.data, .data, .pinned], laidTests := true, laidLooks := .later }
def ShotDiffsCardSaid : Prop := Claim7.holds Tryd.pinned (.plain (OpenSpec.ofChange shotDiffsSpec)) shotDiffsCard

/-- THE TIED CARD OF 'heraldlaw5.ShotEncodes'. -/
def shotEncodesCard : Claim7 := { stood := { row := shotEncodesRow, standIns := [], harness := (true, "28f1ab3a8f9b8f0bd751bb9c3466bfa341462e40f599ad6dc8965ff8a8fdbff6"), looks := false }, kinds := [], alts := [], laidByText := true, laidKinds := [.data, .data, .pinned], laidTests := true, laidLooks := .later }
def ShotEncodesCardSaid : Prop := Claim7.holds Tryd.pinned (.plain (OpenSpec.ofChange shotEncodesSpec)) shotEncodesCard

/-- THE SECOND FORM's CARD OF 'heraldlaw5.ShotDiffs'. -/
def shotDiffsUptoCard : Claim7 := { stood := { row := shotDiffsUptoRow, standIns := [], harness := (true, "28f1ab3a8f9b8f0bd751bb9c3466bfa341462e40f599ad6dc8965ff8a8fdbff6"), looks := false }, kinds := [], alts := [], laidByText := true, laidKinds := [.data, .data, .pinned], laidTests := true, laidLooks := .later }
def ShotDiffsUptoCardSaid : Prop := Claim7.holds Tryd.pinned (.plain (OpenSpec.upto shotDiffsSpec)) shotDiffsUptoCard

/-- THE SECOND FORM's CARD OF 'heraldlaw5.ShotEncodes'. -/
def shotEncodesUptoCard : Claim7 := { stood := { row := shotEncodesUptoRow, standIns := [], harness := (true, "28f1ab3a8f9b8f0bd751bb9c3466bfa341462e40f599ad6dc8965ff8a8fdbff6"), looks := false }, kinds := [], alts := [], laidByText := true, laidKinds := [.data, .data, .pinned], laidTests := true, laidLooks := .later }
def ShotEncodesUptoCardSaid : Prop := Claim7.holds Tryd.pinned (.plain (OpenSpec.upto shotEncodesSpec)) shotEncodesUptoCard
end Rows
end Go.Proofs.YtkmiemjjedbnaaaDoor
