/-
  DERIVED. GIVEN WITH THE SEED: THE CARDS: each row of YtbblckcjedjbcaaGreatDoorRows.lean that lists a variable, with what it lists TIED to the program's text (the seventh form; the later family's looks); each row that meets fmt, with fmt's text TOLD by the authors' own Lean function (tested against real Go, not proved from fmt's source: count such statements apart). THE CARD IS WHAT COUNTS. Prove the row's statement (the work); the ties are given (YtbblckcjedjbcaaGreatDoorTie.lean); close each card by the builder's one call (the guide's Derived/Test/ToyasCard.lean, 'card_holds'). Laid BY PROGRAM, IN A SANDBOX (cutbox-door.mjs). By AI agents, Wed Nov 11 2026. No macro, syntax, notation, axiom, sorry.
-/
import Derived.Test.YtbblckcjedjbcaaGreatDoorRows
import GoSem.ClaimSeven
namespace Go.Proofs.YtbblckcjedjbcaaGreatDoor
namespace Rows

/-- THE TIED CARD OF 'heraldlaw9.TrieWalksAll'. -/
def trieWalksAllCard : Claim7 := { stood := { row := trieWalksAllRow, standIns := [], harness := (true, "b1dd34c0fd3d17e426ddd7213c02501136a86689d91a7b3d7b1d0e1719d7dca2"), looks := false }, kinds := [], alts := [], laidByText := true, laidKinds := [.data, .data, .pinned], laidTests := true, laidLooks := .later }
def TrieWalksAllCardSaid : Prop := Claim7.holds Tryz.pinned (.plain (OpenSpec.ofChange trieWalksAllSpec)) trieWalksAllCard

/-- THE TIED CARD OF 'heraldlaw9.TrieMayStop'. -/
def trieMayStopCard : Claim7 := { stood := { row := trieMayStopRow, standIns := [], harness := (true, "b1dd34c0fd3d17e426ddd7213c02501136a86689d91a7b3d7b1d0e1719d7dca2"), looks := false }, kinds := [], alts := [], laidByText := true, laidKinds := [.data, .data, .pinned], laidTests := true, laidLooks := .later }
def TrieMayStopCardSaid : Prop := Claim7.holds Tryz.pinned (.plain (OpenSpec.ofChange trieMayStopSpec)) trieMayStopCard

/-- THE TIED CARD OF 'heraldlaw9.TrieIsNew'. -/
def trieIsNewCard : Claim7 := { stood := { row := trieIsNewRow, standIns := [], harness := (true, "b1dd34c0fd3d17e426ddd7213c02501136a86689d91a7b3d7b1d0e1719d7dca2"), looks := false }, kinds := [], alts := [], laidByText := true, laidKinds := [.data, .data, .pinned], laidTests := true, laidLooks := .later }
def TrieIsNewCardSaid : Prop := Claim7.holds Tryz.pinned (.plain (OpenSpec.ofChange trieIsNewSpec)) trieIsNewCard

/-- THE TIED CARD OF 'heraldlaw9.TriePlays'. -/
def triePlaysCard : Claim7 := { stood := { row := triePlaysRow, standIns := [], harness := (true, "b1dd34c0fd3d17e426ddd7213c02501136a86689d91a7b3d7b1d0e1719d7dca2"), looks := false }, kinds := [], alts := [], laidByText := true, laidKinds := [.data, .data, .pinned], laidTests := true, laidLooks := .later }
def TriePlaysCardSaid : Prop := Claim7.holds Tryz.pinned (.plain (OpenSpec.ofChange triePlaysSpec)) triePlaysCard

/-- THE TIED CARD OF 'heraldlaw9.TrieTwo'. -/
def trieTwoCard : Claim7 := { stood := { row := trieTwoRow, standIns := [], harness := (true, "b1dd34c0fd3d17e426ddd7213c02501136a86689d91a7b3d7b1d0e1719d7dca2"), looks := false }, kinds := [], alts := [], laidByText := true, laidKinds := [.data, .data, .pinned], laidTests := true, laidLooks := .later }
def TrieTwoCardSaid : Prop := Claim7.holds Tryz.pinned (.plain (OpenSpec.ofChange trieTwoSpec)) trieTwoCard

/-- THE TIED CARD OF 'heraldlaw9.TrieOfNothing'. -/
def trieOfNothingCard : Claim7 := { stood := { row := trieOfNothingRow, standIns := [], harness := (true, "b1dd34c0fd3d17e426ddd7213c02501136a86689d91a7b3d7b1d0e1719d7dca2"), looks := false }, kinds := [], alts := [], laidByText := true, laidKinds := [.data, .data, .pinned], laidTests := true, laidLooks := .later }
def TrieOfNothingCardSaid : Prop := Claim7.holds Tryz.pinned (.plain (OpenSpec.ofChange trieOfNothingSpec)) trieOfNothingCard

/-- THE SECOND FORM's CARD OF 'heraldlaw9.TrieWalksAll'. -/
def trieWalksAllUptoCard : Claim7 := { stood := { row := trieWalksAllUptoRow, standIns := [], harness := (true, "b1dd34c0fd3d17e426ddd7213c02501136a86689d91a7b3d7b1d0e1719d7dca2"), looks := false }, kinds := [], alts := [], laidByText := true, laidKinds := [.data, .data, .pinned], laidTests := true, laidLooks := .later }
def TrieWalksAllUptoCardSaid : Prop := Claim7.holds Tryz.pinned (.plain (OpenSpec.upto trieWalksAllSpec)) trieWalksAllUptoCard

/-- THE SECOND FORM's CARD OF 'heraldlaw9.TrieMayStop'. -/
def trieMayStopUptoCard : Claim7 := { stood := { row := trieMayStopUptoRow, standIns := [], harness := (true, "b1dd34c0fd3d17e426ddd7213c02501136a86689d91a7b3d7b1d0e1719d7dca2"), looks := false }, kinds := [], alts := [], laidByText := true, laidKinds := [.data, .data, .pinned], laidTests := true, laidLooks := .later }
def TrieMayStopUptoCardSaid : Prop := Claim7.holds Tryz.pinned (.plain (OpenSpec.upto trieMayStopSpec)) trieMayStopUptoCard

/-- THE SECOND FORM's CARD OF 'heraldlaw9.TrieIsNew'. -/
def trieIsNewUptoCard : Claim7 := { stood := { row := trieIsNewUptoRow, standIns := [], harness := (true, "b1dd34c0fd3d17e426ddd7213c02501136a86689d91a7b3d7b1d0e1719d7dca2"), looks := false }, kinds := [], alts := [], laidByText := true, laidKinds := [.data, .data, .pinned], laidTests := true, laidLooks := .later }
def TrieIsNewUptoCardSaid : Prop := Claim7.holds Tryz.pinned (.plain (OpenSpec.upto trieIsNewSpec)) trieIsNewUptoCard

/-- THE SECOND FORM's CARD OF 'heraldlaw9.TriePlays'. -/
def triePlaysUptoCard : Claim7 := { stood := { row := triePlaysUptoRow, standIns := [], harness := (true, "b1dd34c0fd3d17e426ddd7213c02501136a86689d91a7b3d7b1d0e1719d7dca2"), looks := false }, kinds := [], alts := [], laidByText := true, laidKinds := [.data, .data, .pinned], laidTests := true, laidLooks := .later }
def TriePlaysUptoCardSaid : Prop := Claim7.holds Tryz.pinned (.plain (OpenSpec.upto triePlaysSpec)) triePlaysUptoCard

/-- THE SECOND FORM's CARD OF 'heraldlaw9.TrieTwo'. -/
def trieTwoUptoCard : Claim7 := { stood := { row := trieTwoUptoRow, standIns := [], harness := (true, "b1dd34c0fd3d17e426ddd7213c02501136a86689d91a7b3d7b1d0e1719d7dca2"), looks := false }, kinds := [], alts := [], laidByText := true, laidKinds := [.data, .data, .pinned], laidTests := true, laidLooks := .later }
def TrieTwoUptoCardSaid : Prop := Claim7.holds Tryz.pinned (.plain (OpenSpec.upto trieTwoSpec)) trieTwoUptoCard

/-- THE SECOND FORM's CARD OF 'heraldlaw9.TrieOfNothing'. -/
def trieOfNothingUptoCard : Claim7 := { stood := { row := trieOfNothingUptoRow, standIns := [], harness := (true, "b1dd34c0fd3d17e426ddd7213c02501136a86689d91a7b3d7b1d0e1719d7dca2"), looks := false }, kinds := [], alts := [], laidByText := true, laidKinds := [.data, .data, .pinned], laidTests := true, laidLooks := .later }
def TrieOfNothingUptoCardSaid : Prop := Claim7.holds Tryz.pinned (.plain (OpenSpec.upto trieOfNothingSpec)) trieOfNothingUptoCard
end Rows
end Go.Proofs.YtbblckcjedjbcaaGreatDoor
