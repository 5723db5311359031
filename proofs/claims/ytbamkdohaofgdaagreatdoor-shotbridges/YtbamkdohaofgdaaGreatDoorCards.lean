/-
  DERIVED. GIVEN WITH THE SEED: THE CARDS: each row of YtbamkdohaofgdaaGreatDoorRows.lean that lists a variable, with what it lists TIED to the program's text (the seventh form; the later family's looks); each row that meets fmt, with fmt's text TOLD by the authors' own Lean function (tested against real Go, not proved from fmt's source: count such statements apart). THE CARD IS WHAT COUNTS. Prove the row's statement (the work); the ties are given (YtbamkdohaofgdaaGreatDoorTie.lean); close each card by the builder's one call (the guide's Derived/Test/ToyasCard.lean, 'card_holds'). Laid BY PROGRAM, IN A SANDBOX (cutbox-door.mjs). By AI agents, Wed Nov 11 2026. No macro, syntax, notation, axiom, sorry.
-/
import Derived.Test.YtbamkdohaofgdaaGreatDoorRows
import GoSem.ClaimSeven
namespace Go.Proofs.YtbamkdohaofgdaaGreatDoor
namespace Rows

/-- THE TIED CARD OF 'heraldlaw5.ShotBridges'. -/
def shotBridgesCard : Claim7 := { stood := { row := shotBridgesRow, standIns := [], harness := (true, "3558218f1dc747432560e810b0023746f32bf111f62a37175cba0c98b0b04031"), looks := true }, kinds := [], alts := [], laidByText := true, laidKinds := [.data, .data, .data, .data, .data, .data, .pinned], laidTests := true, laidLooks := .later }
def ShotBridgesCardSaid : Prop := Claim7.holds Tryz.pinned (.plain (OpenSpec.ofChange shotBridgesSpec)) shotBridgesCard

/-- THE SECOND FORM's CARD OF 'heraldlaw5.ShotBridges'. -/
def shotBridgesUptoCard : Claim7 := { stood := { row := shotBridgesUptoRow, standIns := [], harness := (true, "3558218f1dc747432560e810b0023746f32bf111f62a37175cba0c98b0b04031"), looks := true }, kinds := [], alts := [], laidByText := true, laidKinds := [.data, .data, .data, .data, .data, .data, .pinned], laidTests := true, laidLooks := .later }
def ShotBridgesUptoCardSaid : Prop := Claim7.holds Tryz.pinned (.plain (OpenSpec.upto shotBridgesSpec)) shotBridgesUptoCard
end Rows
end Go.Proofs.YtbamkdohaofgdaaGreatDoor
