/-
  DERIVED. GIVEN WITH THE SEED: THE CARDS: each row of YtcoicoijllpgnaaGreatDoorRows.lean that lists a variable, with what it lists TIED to the program's text (the seventh form; the later family's looks); each row that meets fmt, with fmt's text TOLD by the authors' own Lean function (tested against real Go, not proved from fmt's source: count such statements apart). THE CARD IS WHAT COUNTS. Prove the row's statement (the work); the ties are given (YtcoicoijllpgnaaGreatDoorTie.lean); close each card by the builder's one call (the guide's Derived/Test/ToyasCard.lean, 'card_holds'). Laid BY PROGRAM, IN A SANDBOX (cutbox-door.mjs). By AI agents, Wed Nov 11 2026. No macro, syntax, notation, axiom, sorry.
-/
import Derived.Test.YtcoicoijllpgnaaGreatDoorRows
import GoSem.ClaimSeven
namespace Go.Proofs.YtcoicoijllpgnaaGreatDoor
namespace Rows

/-- THE TIED CARD OF 'heraldlaw9.TrieWalksAll'. -/
def trieWalksAllCard : Claim7 := { stood := { row := trieWalksAllRow, standIns := [], harness := (true, "0a6a88d6a418eb3e865ffb53ec28c5cf3de97b17af8c7f3a171ec8af9b4c3495"), looks := false }, kinds := [], alts := [], laidByText := true, laidKinds := [.data, .data, .pinned], laidTests := true, laidLooks := .later }
def TrieWalksAllCardSaid : Prop := Claim7.holds Tryz.pinned (.plain (OpenSpec.ofChange trieWalksAllSpec)) trieWalksAllCard

/-- THE TIED CARD OF 'heraldlaw9.TrieMayStop'. -/
def trieMayStopCard : Claim7 := { stood := { row := trieMayStopRow, standIns := [], harness := (true, "0a6a88d6a418eb3e865ffb53ec28c5cf3de97b17af8c7f3a171ec8af9b4c3495"), looks := false }, kinds := [], alts := [], laidByText := true, laidKinds := [.data, .data, .pinned], laidTests := true, laidLooks := .later }
def TrieMayStopCardSaid : Prop := Claim7.holds Tryz.pinned (.plain (OpenSpec.ofChange trieMayStopSpec)) trieMayStopCard

/-- THE TIED CARD OF 'heraldlaw9.TrieForgetsOrder'. -/
def trieForgetsOrderCard : Claim7 := { stood := { row := trieForgetsOrderRow, standIns := [], harness := (true, "0a6a88d6a418eb3e865ffb53ec28c5cf3de97b17af8c7f3a171ec8af9b4c3495"), looks := false }, kinds := [], alts := [], laidByText := true, laidKinds := [.data, .data, .pinned], laidTests := true, laidLooks := .later }
def TrieForgetsOrderCardSaid : Prop := Claim7.holds Tryz.pinned (.plain (OpenSpec.ofChange trieForgetsOrderSpec)) trieForgetsOrderCard

/-- THE TIED CARD OF 'heraldlaw9.TrieLeavesNothing'. -/
def trieLeavesNothingCard : Claim7 := { stood := { row := trieLeavesNothingRow, standIns := [], harness := (true, "0a6a88d6a418eb3e865ffb53ec28c5cf3de97b17af8c7f3a171ec8af9b4c3495"), looks := false }, kinds := [], alts := [], laidByText := true, laidKinds := [.data, .data, .pinned], laidTests := true, laidLooks := .later }
def TrieLeavesNothingCardSaid : Prop := Claim7.holds Tryz.pinned (.plain (OpenSpec.ofChange trieLeavesNothingSpec)) trieLeavesNothingCard

/-- THE TIED CARD OF 'heraldlaw9.TrieIsNew'. -/
def trieIsNewCard : Claim7 := { stood := { row := trieIsNewRow, standIns := [], harness := (true, "0a6a88d6a418eb3e865ffb53ec28c5cf3de97b17af8c7f3a171ec8af9b4c3495"), looks := false }, kinds := [], alts := [], laidByText := true, laidKinds := [.data, .data, .pinned], laidTests := true, laidLooks := .later }
def TrieIsNewCardSaid : Prop := Claim7.holds Tryz.pinned (.plain (OpenSpec.ofChange trieIsNewSpec)) trieIsNewCard

/-- THE SECOND FORM's CARD OF 'heraldlaw9.TrieWalksAll'. -/
def trieWalksAllUptoCard : Claim7 := { stood := { row := trieWalksAllUptoRow, standIns := [], harness := (true, "0a6a88d6a418eb3e865ffb53ec28c5cf3de97b17af8c7f3a171ec8af9b4c3495"), looks := false }, kinds := [], alts := [], laidByText := true, laidKinds := [.data, .data, .pinned], laidTests := true, laidLooks := .later }
def TrieWalksAllUptoCardSaid : Prop := Claim7.holds Tryz.pinned (.plain (OpenSpec.upto trieWalksAllSpec)) trieWalksAllUptoCard

/-- THE SECOND FORM's CARD OF 'heraldlaw9.TrieMayStop'. -/
def trieMayStopUptoCard : Claim7 := { stood := { row := trieMayStopUptoRow, standIns := [], harness := (true, "0a6a88d6a418eb3e865ffb53ec28c5cf3de97b17af8c7f3a171ec8af9b4c3495"), looks := false }, kinds := [], alts := [], laidByText := true, laidKinds := [.data, .data, .pinned], laidTests := true, laidLooks := .later }
def TrieMayStopUptoCardSaid : Prop := Claim7.holds Tryz.pinned (.plain (OpenSpec.upto trieMayStopSpec)) trieMayStopUptoCard

/-- THE SECOND FORM's CARD OF 'heraldlaw9.TrieForgetsOrder'. -/
def trieForgetsOrderUptoCard : Claim7 := { stood := { row := trieForgetsOrderUptoRow, standIns := [], harness := (true, "0a6a88d6a418eb3e865ffb53ec28c5cf3de97b17af8c7f3a171ec8af9b4c3495"), looks := false }, kinds := [], alts := [], laidByText := true, laidKinds := [.data, .data, .pinned], laidTests := true, laidLooks := .later }
def TrieForgetsOrderUptoCardSaid : Prop := Claim7.holds Tryz.pinned (.plain (OpenSpec.upto trieForgetsOrderSpec)) trieForgetsOrderUptoCard

/-- THE SECOND FORM's CARD OF 'heraldlaw9.TrieLeavesNothing'. -/
def trieLeavesNothingUptoCard : Claim7 := { stood := { row := trieLeavesNothingUptoRow, standIns := [], harness := (true, "0a6a88d6a418eb3e865ffb53ec28c5cf3de97b17af8c7f3a171ec8af9b4c3495"), looks := false }, kinds := [], alts := [], laidByText := true, laidKinds := [.data, .data, .pinned], laidTests := true, laidLooks := .later }
def TrieLeavesNothingUptoCardSaid : Prop := Claim7.holds Tryz.pinned (.plain (OpenSpec.upto trieLeavesNothingSpec)) trieLeavesNothingUptoCard

/-- THE SECOND FORM's CARD OF 'heraldlaw9.TrieIsNew'. -/
def trieIsNewUptoCard : Claim7 := { stood := { row := trieIsNewUptoRow, standIns := [], harness := (true, "0a6a88d6a418eb3e865ffb53ec28c5cf3de97b17af8c7f3a171ec8af9b4c3495"), looks := false }, kinds := [], alts := [], laidByText := true, laidKinds := [.data, .data, .pinned], laidTests := true, laidLooks := .later }
def TrieIsNewUptoCardSaid : Prop := Claim7.holds Tryz.pinned (.plain (OpenSpec.upto trieIsNewSpec)) trieIsNewUptoCard
end Rows
end Go.Proofs.YtcoicoijllpgnaaGreatDoor
