/-
  DERIVED. GIVEN WITH THE SEED: THE CARDS: each row of YtjanlaphfkeejaaDoorRows.lean that lists a variable, with what it lists TIED to the program's text (the seventh form; the later family's looks); each row that meets fmt, with fmt's text TOLD by the authors' own Lean function (tested against real Go, not proved from fmt's source: count such statements apart). THE CARD IS WHAT COUNTS. Prove the row's statement (the work); the ties are given (YtjanlaphfkeejaaDoorTie.lean); close each card by the builder's one call (the guide's Derived/Test/ToyasCard.lean, 'card_holds'). Laid BY PROGRAM, IN A SANDBOX (cutbox-door.mjs). By AI agents, Wed Nov 11 2026. No macro, syntax, notation, axiom, sorry.
-/
import Derived.Test.YtjanlaphfkeejaaDoorRows
import GoSem.ClaimSeven
namespace Go.Proofs.YtjanlaphfkeejaaDoor
namespace Rows

/-- THE TIED CARD OF 'heraldlaw5.ShotChecks'. -/
def shotChecksCard : Claim7 := { stood := { row := shotChecksRow, standIns := [], harness := (true, "daa30fb8b242d5bb3e23971fa86b0b29c7a821deb6ec2c7229565262cd68f369"), looks := false }, kinds := [], alts := [], laidByText := true, laidKinds := [.data, .data, .pinned], laidTests := true, laidLooks := .later }
def ShotChecksCardSaid : Prop := Claim7.holds Tryd.pinned (.plain (OpenSpec.ofChange shotChecksSpec)) shotChecksCard

/-- THE SECOND FORM's CARD OF 'heraldlaw5.ShotChecks'. -/
def shotChecksUptoCard : Claim7 := { stood := { row := shotChecksUptoRow, standIns := [], harness := (true, "daa30fb8b242d5bb3e23971fa86b0b29c7a821deb6ec2c7229565262cd68f369"), looks := false }, kinds := [], alts := [], laidByText := true, laidKinds := [.data, .data, .pinned], laidTests := true, laidLooks := .later }
def ShotChecksUptoCardSaid : Prop := Claim7.holds Tryd.pinned (.plain (OpenSpec.upto shotChecksSpec)) shotChecksUptoCard
end Rows
end Go.Proofs.YtjanlaphfkeejaaDoor
