/-
  DERIVED. GIVEN WITH THE SEED: THE CARDS: each row of YtblhenblibdjoaaDoorRows.lean that lists a variable, with what it lists TIED to the program's text (the seventh form; the later family's looks); each row that meets fmt, with fmt's text TOLD by the authors' own Lean function (tested against real Go, not proved from fmt's source: count such statements apart). THE CARD IS WHAT COUNTS. Prove the row's statement (the work); the ties are given (YtblhenblibdjoaaDoorTie.lean); close each card by the builder's one call (the guide's Derived/Test/ToyasCard.lean, 'card_holds'). Laid BY PROGRAM, IN A SANDBOX (cutbox-door.mjs). By AI agents, Wed Nov 11 2026. No macro, syntax, notation, axiom, sorry.
-/
import Derived.Test.YtblhenblibdjoaaDoorRows
import GoSem.ClaimSeven
namespace Go.Proofs.YtblhenblibdjoaaDoor
namespace Rows

/-- THE TIED CARD OF 'heraldlaw1.PlaceCovers'. -/
def placeCoversCard : Claim7 := { stood := { row := placeCoversRow, standIns := [], harness := (true, "c2a015129074114c39a16b9f54ee8a8d683d169fac523fb80c99cd86e4ef58b3"), looks := false }, kinds := [], alts := [], laidByText := true, laidKinds := [.data, .data, .pinned], laidTests := true, laidLooks := .later }
def PlaceCoversCardSaid : Prop := Claim7.holds Tryd.pinned (.plain (OpenSpec.ofChange placeCoversSpec)) placeCoversCard

/-- THE TIED CARD OF 'heraldlaw1.PlaceNames'. -/
def placeNamesCard : Claim7 := { stood := { row := placeNamesRow, standIns := [], harness := (true, "c2a015129074114c39a16b9f54ee8a8d683d169fac523fb80c99cd86e4ef58b3"), looks := false }, kinds := [], alts := [], laidByText := true, laidKinds := [.data, .data, .pinned], laidTests := true, laidLooks := .later }
def PlaceNamesCardSaid : Prop := Claim7.holds Tryd.pinned (.plain (OpenSpec.ofChange placeNamesSpec)) placeNamesCard

/-- THE TIED CARD OF 'heraldlaw1.PlaceLoose'. -/
def placeLooseCard : Claim7 := { stood := { row := placeLooseRow, standIns := [], harness := (true, "c2a015129074114c39a16b9f54ee8a8d683d169fac523fb80c99cd86e4ef58b3"), looks := false }, kinds := [], alts := [], laidByText := true, laidKinds := [.data, .data, .data, .data, .data, .pinned], laidTests := true, laidLooks := .later }
def PlaceLooseCardSaid : Prop := Claim7.holds Tryd.pinned (.plain (OpenSpec.ofChange placeLooseSpec)) placeLooseCard

/-- THE TIED CARD OF 'heraldlaw1.PlaceParses'. -/
def placeParsesCard : Claim7 := { stood := { row := placeParsesRow, standIns := [], harness := (true, "c2a015129074114c39a16b9f54ee8a8d683d169fac523fb80c99cd86e4ef58b3"), looks := false }, kinds := [], alts := [], laidByText := true, laidKinds := [.data, .data, .data, .data, .data, .pinned], laidTests := true, laidLooks := .later }
def PlaceParsesCardSaid : Prop := Claim7.holds Tryd.pinned (.plain (OpenSpec.ofChange placeParsesSpec)) placeParsesCard

/-- THE SECOND FORM's CARD OF 'heraldlaw1.PlaceCovers'. -/
def placeCoversUptoCard : Claim7 := { stood := { row := placeCoversUptoRow, standIns := [], harness := (true, "c2a015129074114c39a16b9f54ee8a8d683d169fac523fb80c99cd86e4ef58b3"), looks := false }, kinds := [], alts := [], laidByText := true, laidKinds := [.data, .data, .pinned], laidTests := true, laidLooks := .later }
def PlaceCoversUptoCardSaid : Prop := Claim7.holds Tryd.pinned (.plain (OpenSpec.upto placeCoversSpec)) placeCoversUptoCard

/-- THE SECOND FORM's CARD OF 'heraldlaw1.PlaceNames'. -/
def placeNamesUptoCard : Claim7 := { stood := { row := placeNamesUptoRow, standIns := [], harness := (true, "c2a015129074114c39a16b9f54ee8a8d683d169fac523fb80c99cd86e4ef58b3"), looks := false }, kinds := [], alts := [], laidByText := true, laidKinds := [.data, .data, .pinned], laidTests := true, laidLooks := .later }
def PlaceNamesUptoCardSaid : Prop := Claim7.holds Tryd.pinned (.plain (OpenSpec.upto placeNamesSpec)) placeNamesUptoCard

/-- THE SECOND FORM's CARD OF 'heraldlaw1.PlaceLoose'. -/
def placeLooseUptoCard : Claim7 := { stood := { row := placeLooseUptoRow, standIns := [], harness := (true, "c2a015129074114c39a16b9f54ee8a8d683d169fac523fb80c99cd86e4ef58b3"), looks := false }, kinds := [], alts := [], laidByText := true, laidKinds := [.data, .data, .data, .data, .data, .pinned], laidTests := true, laidLooks := .later }
def PlaceLooseUptoCardSaid : Prop := Claim7.holds Tryd.pinned (.plain (OpenSpec.upto placeLooseSpec)) placeLooseUptoCard

/-- THE SECOND FORM's CARD OF 'heraldlaw1.PlaceParses'. -/
def placeParsesUptoCard : Claim7 := { stood := { row := placeParsesUptoRow, standIns := [], harness := (true, "c2a015129074114c39a16b9f54ee8a8d683d169fac523fb80c99cd86e4ef58b3"), looks := false }, kinds := [], alts := [], laidByText := true, laidKinds := [.data, .data, .data, .data, .data, .pinned], laidTests := true, laidLooks := .later }
def PlaceParsesUptoCardSaid : Prop := Claim7.holds Tryd.pinned (.plain (OpenSpec.upto placeParsesSpec)) placeParsesUptoCard
end Rows
end Go.Proofs.YtblhenblibdjoaaDoor
