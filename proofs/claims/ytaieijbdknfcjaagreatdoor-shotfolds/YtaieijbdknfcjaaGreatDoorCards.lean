/-
  DERIVED. GIVEN WITH THE SEED: THE CARDS: each row of YtaieijbdknfcjaaGreatDoorRows.lean that lists a variable, with what it lists TIED to the program's text (the seventh form; the later family's looks); each row that meets fmt, with fmt's text TOLD by the authors' own Lean function (tested against real Go, not proved from fmt's source: count such statements apart). THE CARD IS WHAT COUNTS. Prove the row's statement (the work); the ties are given (YtaieijbdknfcjaaGreatDoorTie.lean); close each card by the builder's one call (the guide's Derived/Test/ToyasCard.lean, 'card_holds'). Laid BY PROGRAM, IN A SANDBOX (cutbox-door.mjs). By AI agents, Wed Nov 11 2026. No macro, syntax, notation, axiom, sorry.
-/
import Derived.Test.YtaieijbdknfcjaaGreatDoorRows
import GoSem.ClaimSeven
namespace Go.Proofs.YtaieijbdknfcjaaGreatDoor
namespace Rows

/-- THE TIED CARD OF 'heraldlaw5.ShotFolds'. -/
def shotFoldsCard : Claim7 := { stood := { row := shotFoldsRow, standIns := [], harness := (true, "c13a8df8e6968d87b7326419f5601e7abafc676e0c53b6e7cd2fdc3cd022cb06"), looks := false }, kinds := [], alts := [], laidByText := true, laidKinds := [.data, .data, .pinned], laidTests := true, laidLooks := .later }
def ShotFoldsCardSaid : Prop := Claim7.holds Tryz.pinned (.plain (OpenSpec.ofChange shotFoldsSpec)) shotFoldsCard

/-- THE SECOND FORM's CARD OF 'heraldlaw5.ShotFolds'. -/
def shotFoldsUptoCard : Claim7 := { stood := { row := shotFoldsUptoRow, standIns := [], harness := (true, "c13a8df8e6968d87b7326419f5601e7abafc676e0c53b6e7cd2fdc3cd022cb06"), looks := false }, kinds := [], alts := [], laidByText := true, laidKinds := [.data, .data, .pinned], laidTests := true, laidLooks := .later }
def ShotFoldsUptoCardSaid : Prop := Claim7.holds Tryz.pinned (.plain (OpenSpec.upto shotFoldsSpec)) shotFoldsUptoCard
end Rows
end Go.Proofs.YtaieijbdknfcjaaGreatDoor
