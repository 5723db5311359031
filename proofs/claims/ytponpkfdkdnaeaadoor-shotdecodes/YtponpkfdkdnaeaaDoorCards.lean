/-
  DERIVED. GIVEN WITH THE SEED: THE CARDS: each row of YtponpkfdkdnaeaaDoorRows.lean that lists a variable, with what it lists TIED to the program's text (the seventh form; the later family's looks); each row that meets fmt, with fmt's text TOLD by the authors' own Lean function (tested against real Go, not proved from fmt's source: count such statements apart). THE CARD IS WHAT COUNTS. Prove the row's statement (the work); the ties are given (YtponpkfdkdnaeaaDoorTie.lean); close each card by the builder's one call (the guide's Derived/Test/ToyasCard.lean, 'card_holds'). Laid BY PROGRAM, IN A SANDBOX (cutbox-door.mjs). By AI agents, Wed Nov 11 2026. No macro, syntax, notation, axiom, sorry.
-/
import Derived.Test.YtponpkfdkdnaeaaDoorRows
import GoSem.ClaimSeven
namespace Go.Proofs.YtponpkfdkdnaeaaDoor
namespace Rows

/-- THE TIED CARD OF 'heraldlaw5.ShotDecodes'. -/
def shotDecodesCard : Claim7 := { stood := { row := shotDecodesRow, standIns := [], harness := (true, "8fd12d959df98e20bd3f37406ea6c20de3de19b39e71340691ffeb87cdc5fade"), looks := false }, kinds := [], alts := [], laidByText := true, laidKinds := [.data, .data, .pinned], laidTests := true, laidLooks := .later }
def ShotDecodesCardSaid : Prop := Claim7.holds Tryd.pinned (.plain (OpenSpec.ofChange shotDecodesSpec)) shotDecodesCard

/-- THE SECOND FORM's CARD OF 'heraldlaw5.ShotDecodes'. -/
def shotDecodesUptoCard : Claim7 := { stood := { row := shotDecodesUptoRow, standIns := [], harness := (true, "8fd12d959df98e20bd3f37406ea6c20de3de19b39e71340691ffeb87cdc5fade"), looks := false }, kinds := [], alts := [], laidByText := true, laidKinds := [.data, .data, .pinned], laidTests := true, laidLooks := .later }
def ShotDecodesUptoCardSaid : Prop := Claim7.holds Tryd.pinned (.plain (OpenSpec.upto shotDecodesSpec)) shotDecodesUptoCard
end Rows
end Go.Proofs.YtponpkfdkdnaeaaDoor
