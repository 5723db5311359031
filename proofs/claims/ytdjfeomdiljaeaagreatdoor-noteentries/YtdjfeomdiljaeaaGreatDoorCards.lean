/-
  DERIVED. GIVEN WITH THE SEED: THE CARDS: each row of YtdjfeomdiljaeaaGreatDoorRows.lean that lists a variable, with what it lists TIED to the program's text (the seventh form; the later family's looks); each row that meets fmt, with fmt's text TOLD by the authors' own Lean function (tested against real Go, not proved from fmt's source: count such statements apart). THE CARD IS WHAT COUNTS. Prove the row's statement (the work); the ties are given (YtdjfeomdiljaeaaGreatDoorTie.lean); close each card by the builder's one call (the guide's Derived/Test/ToyasCard.lean, 'card_holds'). Laid BY PROGRAM, IN A SANDBOX (cutbox-door.mjs). By AI agents, Wed Nov 11 2026. No macro, syntax, notation, axiom, sorry.
-/
import Derived.Test.YtdjfeomdiljaeaaGreatDoorRows
import GoSem.ClaimSeven
namespace Go.Proofs.YtdjfeomdiljaeaaGreatDoor
namespace Rows

/-- THE TIED CARD OF 'heraldlaw3.NoteEntries'. -/
def noteEntriesCard : Claim7 := { stood := { row := noteEntriesRow, standIns := [], harness := (true, "03832134b2ce545ef9f9c5481adece717d174e2e405f51e7b3ccb35515c5ce74"), looks := false }, kinds := [], alts := [], laidByText := true, laidKinds := [.data, .listed, .data, .data, .data, .pinned], laidTests := true, laidLooks := .later }
def NoteEntriesCardSaid : Prop := Claim7.holds Tryz.pinned (.plain (OpenSpec.ofChange noteEntriesSpec)) noteEntriesCard

/-- THE TIED CARD OF 'heraldlaw3.NoteChecks'. -/
def noteChecksCard : Claim7 := { stood := { row := noteChecksRow, standIns := [], harness := (true, "03832134b2ce545ef9f9c5481adece717d174e2e405f51e7b3ccb35515c5ce74"), looks := false }, kinds := [], alts := [], laidByText := true, laidKinds := [.data, .data, .listed, .data, .data, .data, .pinned], laidTests := true, laidLooks := .later }
def NoteChecksCardSaid : Prop := Claim7.holds Tryz.pinned (.plain (OpenSpec.ofChange noteChecksSpec)) noteChecksCard

/-- THE TIED CARD OF 'heraldlaw3.NoteEncodes'. -/
def noteEncodesCard : Claim7 := { stood := { row := noteEncodesRow, standIns := [], harness := (true, "03832134b2ce545ef9f9c5481adece717d174e2e405f51e7b3ccb35515c5ce74"), looks := false }, kinds := [], alts := [], laidByText := true, laidKinds := [.data, .data, .listed, .data, .data, .data, .pinned], laidTests := true, laidLooks := .later }
def NoteEncodesCardSaid : Prop := Claim7.holds Tryz.pinned (.plain (OpenSpec.ofChange noteEncodesSpec)) noteEncodesCard

/-- THE SECOND FORM's CARD OF 'heraldlaw3.NoteEntries'. -/
def noteEntriesUptoCard : Claim7 := { stood := { row := noteEntriesUptoRow, standIns := [], harness := (true, "03832134b2ce545ef9f9c5481adece717d174e2e405f51e7b3ccb35515c5ce74"), looks := false }, kinds := [], alts := [], laidByText := true, laidKinds := [.data, .listed, .data, .data, .data, .pinned], laidTests := true, laidLooks := .later }
def NoteEntriesUptoCardSaid : Prop := Claim7.holds Tryz.pinned (.plain (OpenSpec.upto noteEntriesSpec)) noteEntriesUptoCard

/-- THE SECOND FORM's CARD OF 'heraldlaw3.NoteChecks'. -/
def noteChecksUptoCard : Claim7 := { stood := { row := noteChecksUptoRow, standIns := [], harness := (true, "03832134b2ce545ef9f9c5481adece717d174e2e405f51e7b3ccb35515c5ce74"), looks := false }, kinds := [], alts := [], laidByText := true, laidKinds := [.data, .data, .listed, .data, .data, .data, .pinned], laidTests := true, laidLooks := .later }
def NoteChecksUptoCardSaid : Prop := Claim7.holds Tryz.pinned (.plain (OpenSpec.upto noteChecksSpec)) noteChecksUptoCard

/-- THE SECOND FORM's CARD OF 'heraldlaw3.NoteEncodes'. -/
def noteEncodesUptoCard : Claim7 := { stood := { row := noteEncodesUptoRow, standIns := [], harness := (true, "03832134b2ce545ef9f9c5481adece717d174e2e405f51e7b3ccb35515c5ce74"), looks := false }, kinds := [], alts := [], laidByText := true, laidKinds := [.data, .data, .listed, .data, .data, .data, .pinned], laidTests := true, laidLooks := .later }
def NoteEncodesUptoCardSaid : Prop := Claim7.holds Tryz.pinned (.plain (OpenSpec.upto noteEncodesSpec)) noteEncodesUptoCard
end Rows
end Go.Proofs.YtdjfeomdiljaeaaGreatDoor
