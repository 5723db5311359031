/-
  DERIVED. GIVEN WITH THE SEED: THE CARDS: each row of YtblhenblibdjoacDoorRows.lean that lists a variable, with what it lists TIED to the program's text (the seventh form; the later family's looks); each row that meets fmt, with fmt's text TOLD by the authors' own Lean function (tested against real Go, not proved from fmt's source: count such statements apart). THE CARD IS WHAT COUNTS. Prove the row's statement (the work); the ties are given (YtblhenblibdjoacDoorTie.lean); close each card by the builder's one call (the guide's Derived/Test/ToyasCard.lean, 'card_holds'). Laid BY PROGRAM, IN A SANDBOX (cutbox-door.mjs). By AI agents, Wed Nov 11 2026. No macro, syntax, notation, axiom, sorry.
-/
import Derived.Test.YtblhenblibdjoacDoorRows
import GoSem.ClaimSeven
namespace Go.Proofs.YtblhenblibdjoacDoor
namespace Rows

/-- THE TIED CARD OF 'heraldlaw1.PlaceTogether'. -/
def placeTogetherCard : Claim7 := { stood := { row := placeTogetherRow, standIns := [], harness := (true, "c8cde2465477699acff7a42ea22315d6bd850b295b0c1f694e3f0a148366d0a2"), looks := false }, kinds := [], alts := [], laidByText := true, laidKinds := [.data, .data, .data, .data, .data, .pinned], laidTests := true, laidLooks := .later }
def PlaceTogetherCardSaid : Prop := Claim7.holds Tryd.pinned (.plain (OpenSpec.ofChange placeTogetherSpec)) placeTogetherCard

/-- THE TIED CARD OF 'heraldlaw1.PlaceJoins'. -/
def placeJoinsCard : Claim7 := { stood := { row := placeJoinsRow, standIns := [], harness := (true, "c8cde2465477699acff7a42ea22315d6bd850b295b0c1f694e3f0a148366d0a2"), looks := false }, kinds := [], alts := [], laidByText := true, laidKinds := [.data, .data, .data, .data, .data, .pinned], laidTests := true, laidLooks := .later }
def PlaceJoinsCardSaid : Prop := Claim7.holds Tryd.pinned (.plain (OpenSpec.ofChange placeJoinsSpec)) placeJoinsCard

/-- THE TIED CARD OF 'heraldlaw1.PlaceParents'. -/
def placeParentsCard : Claim7 := { stood := { row := placeParentsRow, standIns := [], harness := (true, "c8cde2465477699acff7a42ea22315d6bd850b295b0c1f694e3f0a148366d0a2"), looks := false }, kinds := [], alts := [], laidByText := true, laidKinds := [.data, .data, .data, .data, .data, .pinned], laidTests := true, laidLooks := .later }
def PlaceParentsCardSaid : Prop := Claim7.holds Tryd.pinned (.plain (OpenSpec.ofChange placeParentsSpec)) placeParentsCard

/-- THE SECOND FORM's CARD OF 'heraldlaw1.PlaceTogether'. -/
def placeTogetherUptoCard : Claim7 := { stood := { row := placeTogetherUptoRow, standIns := [], harness := (true, "c8cde2465477699acff7a42ea22315d6bd850b295b0c1f694e3f0a148366d0a2"), looks := false }, kinds := [], alts := [], laidByText := true, laidKinds := [.data, .data, .data, .data, .data, .pinned], laidTests := true, laidLooks := .later }
def PlaceTogetherUptoCardSaid : Prop := Claim7.holds Tryd.pinned (.plain (OpenSpec.upto placeTogetherSpec)) placeTogetherUptoCard

/-- THE SECOND FORM's CARD OF 'heraldlaw1.PlaceJoins'. -/
def placeJoinsUptoCard : Claim7 := { stood := { row := placeJoinsUptoRow, standIns := [], harness := (true, "c8cde2465477699acff7a42ea22315d6bd850b295b0c1f694e3f0a148366d0a2"), looks := false }, kinds := [], alts := [], laidByText := true, laidKinds := [.data, .data, .data, .data, .data, .pinned], laidTests := true, laidLooks := .later }
def PlaceJoinsUptoCardSaid : Prop := Claim7.holds Tryd.pinned (.plain (OpenSpec.upto placeJoinsSpec)) placeJoinsUptoCard

/-- THE SECOND FORM's CARD OF 'heraldlaw1.PlaceParents'. -/
def placeParentsUptoCard : Claim7 := { stood := { row := placeParentsUptoRow, standIns := [], harness := (true, "c8cde2465477699acff7a42ea22315d6bd850b295b0c1f694e3f0a148366d0a2"), looks := false }, kinds := [], alts := [], laidByText := true, laidKinds := [.data, .data, .data, .data, .data, .pinned], laidTests := true, laidLooks := .later }
def PlaceParentsUptoCardSaid : Prop := Claim7.holds Tryd.pinned (.plain (OpenSpec.upto placeParentsSpec)) placeParentsUptoCard
end Rows
end Go.Proofs.YtblhenblibdjoacDoor
