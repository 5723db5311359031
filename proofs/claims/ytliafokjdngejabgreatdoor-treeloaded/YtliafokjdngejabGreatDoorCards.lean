/-
  DERIVED. GIVEN WITH THE SEED: THE CARDS: each row of YtliafokjdngejabGreatDoorRows.lean that lists a variable, with what it lists TIED to the program's text (the seventh form; the later family's looks); each row that meets fmt, with fmt's text TOLD by the authors' own Lean function (tested against real Go, not proved from fmt's source: count such statements apart). THE CARD IS WHAT COUNTS. Prove the row's statement (the work); the ties are given (YtliafokjdngejabGreatDoorTie.lean); close each card by the builder's one call (the guide's Derived/Test/ToyasCard.lean, 'card_holds'). Laid BY PROGRAM, IN A SANDBOX (cutbox-door.mjs). By AI agents, Wed Nov 11 2026. No macro, syntax, notation, axiom, sorry.
-/
import Derived.Test.YtliafokjdngejabGreatDoorRows
import GoSem.ClaimSeven
namespace Go.Proofs.YtliafokjdngejabGreatDoor
namespace Rows

/-- THE TIED CARD OF 'heraldlaw4.TreePart'. -/
def treePartCard : Claim7 := { stood := { row := treePartRow, standIns := [], harness := (true, "9d8d19d5d414be4b7a7b2171cf10a38be110ab3d73f6698e4a7dbb6932d87d27"), looks := true }, kinds := [], alts := [], laidByText := true, laidKinds := [.data, .data, .data, .data, .data, .data, .pinned], laidTests := true, laidLooks := .later }
def TreePartCardSaid : Prop := Claim7.holds Tryz.pinned (.plain (OpenSpec.ofChange treePartSpec)) treePartCard

/-- THE TIED CARD OF 'heraldlaw4.TreeLoaded'. -/
def treeLoadedCard : Claim7 := { stood := { row := treeLoadedRow, standIns := [], harness := (true, "9d8d19d5d414be4b7a7b2171cf10a38be110ab3d73f6698e4a7dbb6932d87d27"), looks := true }, kinds := [], alts := [], laidByText := true, laidKinds := [.data, .data, .data, .data, .data, .data, .pinned], laidTests := true, laidLooks := .later }
def TreeLoadedCardSaid : Prop := Claim7.holds Tryz.pinned (.plain (OpenSpec.ofChange treeLoadedSpec)) treeLoadedCard

/-- THE SECOND FORM's CARD OF 'heraldlaw4.TreePart'. -/
def treePartUptoCard : Claim7 := { stood := { row := treePartUptoRow, standIns := [], harness := (true, "9d8d19d5d414be4b7a7b2171cf10a38be110ab3d73f6698e4a7dbb6932d87d27"), looks := true }, kinds := [], alts := [], laidByText := true, laidKinds := [.data, .data, .data, .data, .data, .data, .pinned], laidTests := true, laidLooks := .later }
def TreePartUptoCardSaid : Prop := Claim7.holds Tryz.pinned (.plain (OpenSpec.upto treePartSpec)) treePartUptoCard

/-- THE SECOND FORM's CARD OF 'heraldlaw4.TreeLoaded'. -/
def treeLoadedUptoCard : Claim7 := { stood := { row := treeLoadedUptoRow, standIns := [], harness := (true, "9d8d19d5d414be4b7a7b2171cf10a38be110ab3d73f6698e4a7dbb6932d87d27"), looks := true }, kinds := [], alts := [], laidByText := true, laidKinds := [.data, .data, .data, .data, .data, .data, .pinned], laidTests := true, laidLooks := .later }
def TreeLoadedUptoCardSaid : Prop := Claim7.holds Tryz.pinned (.plain (OpenSpec.upto treeLoadedSpec)) treeLoadedUptoCard
end Rows
end Go.Proofs.YtliafokjdngejabGreatDoor
