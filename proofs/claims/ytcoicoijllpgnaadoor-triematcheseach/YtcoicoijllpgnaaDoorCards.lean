/-
  DERIVED. GIVEN WITH THE SEED: THE CARDS: each row of YtcoicoijllpgnaaDoorRows.lean that lists a variable, with what it lists TIED to the program's text (the seventh form; the later family's looks); each row that meets fmt, with fmt's text TOLD by the authors' own Lean function (tested against real Go, not proved from fmt's source: count such statements apart). THE CARD IS WHAT COUNTS. Prove the row's statement (the work); the ties are given (YtcoicoijllpgnaaDoorTie.lean); close each card by the builder's one call (the guide's Derived/Test/ToyasCard.lean, 'card_holds'). Laid BY PROGRAM, IN A SANDBOX (cutbox-door.mjs). By AI agents, Wed Nov 11 2026. No macro, syntax, notation, axiom, sorry.
-/
import Derived.Test.YtcoicoijllpgnaaDoorRows
import GoSem.ClaimSeven
namespace Go.Proofs.YtcoicoijllpgnaaDoor
namespace Rows

/-- THE TIED CARD OF 'heraldlaw9.TrieMatchesEach'. -/
def trieMatchesEachCard : Claim7 := { stood := { row := trieMatchesEachRow, standIns := [], harness := (true, "3cdfddcc208c6d53c019761bb50360259afd1eb25036061fbd2745b35714fea1"), looks := false }, kinds := [], alts := [], laidByText := true, laidKinds := [.data, .data, .pinned], laidTests := true, laidLooks := .later }
def TrieMatchesEachCardSaid : Prop := Claim7.holds Tryd.pinned (.plain (OpenSpec.ofChange trieMatchesEachSpec)) trieMatchesEachCard

/-- THE SECOND FORM's CARD OF 'heraldlaw9.TrieMatchesEach'. -/
def trieMatchesEachUptoCard : Claim7 := { stood := { row := trieMatchesEachUptoRow, standIns := [], harness := (true, "3cdfddcc208c6d53c019761bb50360259afd1eb25036061fbd2745b35714fea1"), looks := false }, kinds := [], alts := [], laidByText := true, laidKinds := [.data, .data, .pinned], laidTests := true, laidLooks := .later }
def TrieMatchesEachUptoCardSaid : Prop := Claim7.holds Tryd.pinned (.plain (OpenSpec.upto trieMatchesEachSpec)) trieMatchesEachUptoCard
end Rows
end Go.Proofs.YtcoicoijllpgnaaDoor
