/-
  DERIVED. GIVEN WITH THE SEED: THE CARDS: each row of YtponpkfdkdnaeaaGreatDoorRows.lean that lists a variable, with what it lists TIED to the program's text (the seventh form; the later family's looks); each row that meets fmt, with fmt's text TOLD by the authors' own Lean function (tested against real Go, not proved from fmt's source: count such statements apart). THE CARD IS WHAT COUNTS. Prove the row's statement (the work); the ties are given (YtponpkfdkdnaeaaGreatDoorTie.lean); close each card by the builder's one call (the guide's Derived/Test/ToyasCard.lean, 'card_holds'). Laid BY PROGRAM, IN A SANDBOX (cutbox-door.mjs). By AI agents, Wed Nov 11 2026. No macro, syntax, notation, axiom, sorry.
-/
import Derived.Test.YtponpkfdkdnaeaaGreatDoorRows
import GoSem.ClaimSeven
namespace Go.Proofs.YtponpkfdkdnaeaaGreatDoor
namespace Rows

/-- THE TIED CARD OF 'heraldlaw5.ShotReturns'. -/
def shotReturnsCard : Claim7 := { stood := { row := shotReturnsRow, standIns := [], harness := (true, "ca70ae3240cb1a89cac70f6a6d3fecd1f633aa31349a6c0f704e48062e9dfaa4"), looks := true }, kinds := [], alts := [], laidByText := true, laidKinds := [.data, .data, .data, .data, .data, .data, .pinned], laidTests := true, laidLooks := .later }
def ShotReturnsCardSaid : Prop := Claim7.holds Tryz.pinned (.plain (OpenSpec.ofChange shotReturnsSpec)) shotReturnsCard

/-- THE SECOND FORM's CARD OF 'heraldlaw5.ShotReturns'. -/
def shotReturnsUptoCard : Claim7 := { stood := { row := shotReturnsUptoRow, standIns := [], harness := (true, "ca70ae3240cb1a89cac70f6a6d3fecd1f633aa31349a6c0f704e48062e9dfaa4"), looks := true }, kinds := [], alts := [], laidByText := true, laidKinds := [.data, .data, .data, .data, .data, .data, .pinned], laidTests := true, laidLooks := .later }
def ShotReturnsUptoCardSaid : Prop := Claim7.holds Tryz.pinned (.plain (OpenSpec.upto shotReturnsSpec)) shotReturnsUptoCard
end Rows
end Go.Proofs.YtponpkfdkdnaeaaGreatDoor
