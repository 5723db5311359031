/-
  DERIVED. GIVEN WITH THE SEED: THE CARDS: each row of YtblhenblibdjoabDoorRows.lean that lists a variable, with what it lists TIED to the program's text (the seventh form; the later family's looks); each row that meets fmt, with fmt's text TOLD by the authors' own Lean function (tested against real Go, not proved from fmt's source: count such statements apart). THE CARD IS WHAT COUNTS. Prove the row's statement (the work); the ties are given (YtblhenblibdjoabDoorTie.lean); close each card by the builder's one call (the guide's Derived/Test/ToyasCard.lean, 'card_holds'). Laid BY PROGRAM, IN A SANDBOX (cutbox-door.mjs). By AI agents, Wed Nov 11 2026. No macro, syntax, notation, axiom, sorry.
-/
import Derived.Test.YtblhenblibdjoabDoorRows
import GoSem.ClaimSeven
namespace Go.Proofs.YtblhenblibdjoabDoor
namespace Rows

/-- THE TIED CARD OF 'heraldlaw1.PlaceCleans'. -/
def placeCleansCard : Claim7 := { stood := { row := placeCleansRow, standIns := [], harness := (true, "0cbee7a9e23a86fa44de00993d8cf1be75a502ebad85c59d23cae71cedfb76ea"), looks := false }, kinds := [], alts := [], laidByText := true, laidKinds := [.data, .data, .data, .data, .data, .pinned], laidTests := true, laidLooks := .later }
def PlaceCleansCardSaid : Prop := Claim7.holds Tryd.pinned (.plain (OpenSpec.ofChange placeCleansSpec)) placeCleansCard

/-- THE TIED CARD OF 'heraldlaw1.PlaceCounts'. -/
def placeCountsCard : Claim7 := { stood := { row := placeCountsRow, standIns := [], harness := (true, "0cbee7a9e23a86fa44de00993d8cf1be75a502ebad85c59d23cae71cedfb76ea"), looks := false }, kinds := [], alts := [], laidByText := true, laidKinds := [.data, .data, .data, .data, .data, .pinned], laidTests := true, laidLooks := .later }
def PlaceCountsCardSaid : Prop := Claim7.holds Tryd.pinned (.plain (OpenSpec.ofChange placeCountsSpec)) placeCountsCard

/-- THE TIED CARD OF 'heraldlaw1.PlaceKinds'. -/
def placeKindsCard : Claim7 := { stood := { row := placeKindsRow, standIns := [], harness := (true, "0cbee7a9e23a86fa44de00993d8cf1be75a502ebad85c59d23cae71cedfb76ea"), looks := false }, kinds := [], alts := [], laidByText := true, laidKinds := [.data, .data, .data, .data, .data, .pinned], laidTests := true, laidLooks := .later }
def PlaceKindsCardSaid : Prop := Claim7.holds Tryd.pinned (.plain (OpenSpec.ofChange placeKindsSpec)) placeKindsCard

/-- THE TIED CARD OF 'heraldlaw1.PlaceDigits'. -/
def placeDigitsCard : Claim7 := { stood := { row := placeDigitsRow, standIns := [], harness := (true, "0cbee7a9e23a86fa44de00993d8cf1be75a502ebad85c59d23cae71cedfb76ea"), looks := false }, kinds := [], alts := [], laidByText := true, laidKinds := [.data, .data, .data, .data, .data, .pinned], laidTests := true, laidLooks := .later }
def PlaceDigitsCardSaid : Prop := Claim7.holds Tryd.pinned (.plain (OpenSpec.ofChange placeDigitsSpec)) placeDigitsCard

/-- THE TIED CARD OF 'heraldlaw1.PlaceOwn'. -/
def placeOwnCard : Claim7 := { stood := { row := placeOwnRow, standIns := [], harness := (true, "0cbee7a9e23a86fa44de00993d8cf1be75a502ebad85c59d23cae71cedfb76ea"), looks := false }, kinds := [], alts := [], laidByText := true, laidKinds := [.data, .data, .data, .data, .data, .pinned], laidTests := true, laidLooks := .later }
def PlaceOwnCardSaid : Prop := Claim7.holds Tryd.pinned (.plain (OpenSpec.ofChange placeOwnSpec)) placeOwnCard

/-- THE TIED CARD OF 'heraldlaw1.PlaceBack'. -/
def placeBackCard : Claim7 := { stood := { row := placeBackRow, standIns := [], harness := (true, "0cbee7a9e23a86fa44de00993d8cf1be75a502ebad85c59d23cae71cedfb76ea"), looks := false }, kinds := [], alts := [], laidByText := true, laidKinds := [.data, .data, .data, .data, .data, .pinned], laidTests := true, laidLooks := .later }
def PlaceBackCardSaid : Prop := Claim7.holds Tryd.pinned (.plain (OpenSpec.ofChange placeBackSpec)) placeBackCard

/-- THE SECOND FORM's CARD OF 'heraldlaw1.PlaceCleans'. -/
def placeCleansUptoCard : Claim7 := { stood := { row := placeCleansUptoRow, standIns := [], harness := (true, "0cbee7a9e23a86fa44de00993d8cf1be75a502ebad85c59d23cae71cedfb76ea"), looks := false }, kinds := [], alts := [], laidByText := true, laidKinds := [.data, .data, .data, .data, .data, .pinned], laidTests := true, laidLooks := .later }
def PlaceCleansUptoCardSaid : Prop := Claim7.holds Tryd.pinned (.plain (OpenSpec.upto placeCleansSpec)) placeCleansUptoCard

/-- THE SECOND FORM's CARD OF 'heraldlaw1.PlaceCounts'. -/
def placeCountsUptoCard : Claim7 := { stood := { row := placeCountsUptoRow, standIns := [], harness := (true, "0cbee7a9e23a86fa44de00993d8cf1be75a502ebad85c59d23cae71cedfb76ea"), looks := false }, kinds := [], alts := [], laidByText := true, laidKinds := [.data, .data, .data, .data, .data, .pinned], laidTests := true, laidLooks := .later }
def PlaceCountsUptoCardSaid : Prop := Claim7.holds Tryd.pinned (.plain (OpenSpec.upto placeCountsSpec)) placeCountsUptoCard

/-- THE SECOND FORM's CARD OF 'heraldlaw1.PlaceKinds'. -/
def placeKindsUptoCard : Claim7 := { stood := { row := placeKindsUptoRow, standIns := [], harness := (true, "0cbee7a9e23a86fa44de00993d8cf1be75a502ebad85c59d23cae71cedfb76ea"), looks := false }, kinds := [], alts := [], laidByText := true, laidKinds := [.data, .data, .data, .data, .data, .pinned], laidTests := true, laidLooks := .later }
def PlaceKindsUptoCardSaid : Prop := Claim7.holds Tryd.pinned (.plain (OpenSpec.upto placeKindsSpec)) placeKindsUptoCard

/-- THE SECOND FORM's CARD OF 'heraldlaw1.PlaceDigits'. -/
def placeDigitsUptoCard : Claim7 := { stood := { row := placeDigitsUptoRow, standIns := [], harness := (true, "0cbee7a9e23a86fa44de00993d8cf1be75a502ebad85c59d23cae71cedfb76ea"), looks := false }, kinds := [], alts := [], laidByText := true, laidKinds := [.data, .data, .data, .data, .data, .pinned], laidTests := true, laidLooks := .later }
def PlaceDigitsUptoCardSaid : Prop := Claim7.holds Tryd.pinned (.plain (OpenSpec.upto placeDigitsSpec)) placeDigitsUptoCard

/-- THE SECOND FORM's CARD OF 'heraldlaw1.PlaceOwn'. -/
def placeOwnUptoCard : Claim7 := { stood := { row := placeOwnUptoRow, standIns := [], harness := (true, "0cbee7a9e23a86fa44de00993d8cf1be75a502ebad85c59d23cae71cedfb76ea"), looks := false }, kinds := [], alts := [], laidByText := true, laidKinds := [.data, .data, .data, .data, .data, .pinned], laidTests := true, laidLooks := .later }
def PlaceOwnUptoCardSaid : Prop := Claim7.holds Tryd.pinned (.plain (OpenSpec.upto placeOwnSpec)) placeOwnUptoCard

/-- THE SECOND FORM's CARD OF 'heraldlaw1.PlaceBack'. -/
def placeBackUptoCard : Claim7 := { stood := { row := placeBackUptoRow, standIns := [], harness := (true, "0cbee7a9e23a86fa44de00993d8cf1be75a502ebad85c59d23cae71cedfb76ea"), looks := false }, kinds := [], alts := [], laidByText := true, laidKinds := [.data, .data, .data, .data, .data, .pinned], laidTests := true, laidLooks := .later }
def PlaceBackUptoCardSaid : Prop := Claim7.holds Tryd.pinned (.plain (OpenSpec.upto placeBackSpec)) placeBackUptoCard
end Rows
end Go.Proofs.YtblhenblibdjoabDoor
