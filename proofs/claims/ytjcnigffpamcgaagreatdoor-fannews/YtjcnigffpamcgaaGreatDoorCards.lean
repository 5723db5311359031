/-
  DERIVED. GIVEN WITH THE SEED: THE CARDS: each row of YtjcnigffpamcgaaGreatDoorRows.lean that lists a variable, with what it lists TIED to the program's text (the seventh form; the later family's looks); each row that meets fmt, with fmt's text TOLD by the authors' own Lean function (tested against real Go, not proved from fmt's source: count such statements apart). THE CARD IS WHAT COUNTS. Prove the row's statement (the work); the ties are given (YtjcnigffpamcgaaGreatDoorTie.lean); close each card by the builder's one call (the guide's Derived/Test/ToyasCard.lean, 'card_holds'). Laid BY PROGRAM, IN A SANDBOX (cutbox-door.mjs). By AI agents, Wed Nov 11 2026. No macro, syntax, notation, axiom, sorry.
-/
import Derived.Test.YtjcnigffpamcgaaGreatDoorRows
import GoSem.ClaimSeven
namespace Go.Proofs.YtjcnigffpamcgaaGreatDoor
namespace Rows

/-- THE TIED CARD OF 'heraldlaw11.FanNews'. -/
def fanNewsCard : Claim7 := { stood := { row := fanNewsRow, standIns := [], harness := (true, "f4c2dbda6606a15293dbe0039b36b000aad37bf4db4aa0b28fa58a7ee50fce84"), looks := true }, kinds := [], alts := [], goes := true, laidByText := true, laidKinds := [.data, .data, .pinned], laidTests := true, laidLooks := .later }
def FanNewsCardSaid : Prop := Claim7.holds Tryz.pinned (.plain (OpenSpec.ofChange fanNewsSpec)) fanNewsCard

/-- THE TIED CARD OF 'heraldlaw11.FanApart'. -/
def fanApartCard : Claim7 := { stood := { row := fanApartRow, standIns := [], harness := (true, "f4c2dbda6606a15293dbe0039b36b000aad37bf4db4aa0b28fa58a7ee50fce84"), looks := true }, kinds := [], alts := [], goes := true, laidByText := true, laidKinds := [.data, .data, .data, .data, .data, .data, .pinned], laidTests := true, laidLooks := .later }
def FanApartCardSaid : Prop := Claim7.holds Tryz.pinned (.plain (OpenSpec.ofChange fanApartSpec)) fanApartCard

/-- THE TIED CARD OF 'heraldlaw11.FanTells'. -/
def fanTellsCard : Claim7 := { stood := { row := fanTellsRow, standIns := [], harness := (true, "f4c2dbda6606a15293dbe0039b36b000aad37bf4db4aa0b28fa58a7ee50fce84"), looks := true }, kinds := [], alts := [], goes := true, laidByText := true, laidKinds := [.data, .data, .data, .data, .data, .data, .pinned], laidTests := true, laidLooks := .later }
def FanTellsCardSaid : Prop := Claim7.holds Tryz.pinned (.plain (OpenSpec.ofChange fanTellsSpec)) fanTellsCard

/-- THE TIED CARD OF 'heraldlaw11.FanKeeps'. -/
def fanKeepsCard : Claim7 := { stood := { row := fanKeepsRow, standIns := [], harness := (true, "f4c2dbda6606a15293dbe0039b36b000aad37bf4db4aa0b28fa58a7ee50fce84"), looks := true }, kinds := [], alts := [], goes := true, laidByText := true, laidKinds := [.data, .data, .data, .data, .data, .data, .pinned], laidTests := true, laidLooks := .later }
def FanKeepsCardSaid : Prop := Claim7.holds Tryz.pinned (.plain (OpenSpec.ofChange fanKeepsSpec)) fanKeepsCard

/-- THE TIED CARD OF 'heraldlaw11.FanPlays'. -/
def fanPlaysCard : Claim7 := { stood := { row := fanPlaysRow, standIns := [], harness := (true, "f4c2dbda6606a15293dbe0039b36b000aad37bf4db4aa0b28fa58a7ee50fce84"), looks := true }, kinds := [], alts := [], goes := true, laidByText := true, laidKinds := [.data, .data, .data, .data, .data, .data, .pinned], laidTests := true, laidLooks := .later }
def FanPlaysCardSaid : Prop := Claim7.holds Tryz.pinned (.plain (OpenSpec.ofChange fanPlaysSpec)) fanPlaysCard

/-- THE SECOND FORM's CARD OF 'heraldlaw11.FanNews'. -/
def fanNewsUptoCard : Claim7 := { stood := { row := fanNewsUptoRow, standIns := [], harness := (true, "f4c2dbda6606a15293dbe0039b36b000aad37bf4db4aa0b28fa58a7ee50fce84"), looks := true }, kinds := [], alts := [], goes := true, laidByText := true, laidKinds := [.data, .data, .pinned], laidTests := true, laidLooks := .later }
def FanNewsUptoCardSaid : Prop := Claim7.holds Tryz.pinned (.plain (OpenSpec.upto fanNewsSpec)) fanNewsUptoCard

/-- THE SECOND FORM's CARD OF 'heraldlaw11.FanApart'. -/
def fanApartUptoCard : Claim7 := { stood := { row := fanApartUptoRow, standIns := [], harness := (true, "f4c2dbda6606a15293dbe0039b36b000aad37bf4db4aa0b28fa58a7ee50fce84"), looks := true }, kinds := [], alts := [], goes := true, laidByText := true, laidKinds := [.data, .data, .data, .data, .data, .data, .pinned], laidTests := true, laidLooks := .later }
def FanApartUptoCardSaid : Prop := Claim7.holds Tryz.pinned (.plain (OpenSpec.upto fanApartSpec)) fanApartUptoCard

/-- THE SECOND FORM's CARD OF 'heraldlaw11.FanTells'. -/
def fanTellsUptoCard : Claim7 := { stood := { row := fanTellsUptoRow, standIns := [], harness := (true, "f4c2dbda6606a15293dbe0039b36b000aad37bf4db4aa0b28fa58a7ee50fce84"), looks := true }, kinds := [], alts := [], goes := true, laidByText := true, laidKinds := [.data, .data, .data, .data, .data, .data, .pinned], laidTests := true, laidLooks := .later }
def FanTellsUptoCardSaid : Prop := Claim7.holds Tryz.pinned (.plain (OpenSpec.upto fanTellsSpec)) fanTellsUptoCard

/-- THE SECOND FORM's CARD OF 'heraldlaw11.FanKeeps'. -/
def fanKeepsUptoCard : Claim7 := { stood := { row := fanKeepsUptoRow, standIns := [], harness := (true, "f4c2dbda6606a15293dbe0039b36b000aad37bf4db4aa0b28fa58a7ee50fce84"), looks := true }, kinds := [], alts := [], goes := true, laidByText := true, laidKinds := [.data, .data, .data, .data, .data, .data, .pinned], laidTests := true, laidLooks := .later }
def FanKeepsUptoCardSaid : Prop := Claim7.holds Tryz.pinned (.plain (OpenSpec.upto fanKeepsSpec)) fanKeepsUptoCard

/-- THE SECOND FORM's CARD OF 'heraldlaw11.FanPlays'. -/
def fanPlaysUptoCard : Claim7 := { stood := { row := fanPlaysUptoRow, standIns := [], harness := (true, "f4c2dbda6606a15293dbe0039b36b000aad37bf4db4aa0b28fa58a7ee50fce84"), looks := true }, kinds := [], alts := [], goes := true, laidByText := true, laidKinds := [.data, .data, .data, .data, .data, .data, .pinned], laidTests := true, laidLooks := .later }
def FanPlaysUptoCardSaid : Prop := Claim7.holds Tryz.pinned (.plain (OpenSpec.upto fanPlaysSpec)) fanPlaysUptoCard
end Rows
end Go.Proofs.YtjcnigffpamcgaaGreatDoor
