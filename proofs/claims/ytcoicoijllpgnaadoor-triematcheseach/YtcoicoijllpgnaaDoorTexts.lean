/-
  texts of the same list twice.
-/
import Derived.Test.YtcoicoijllpgnaaDoorLists
namespace Go.Proofs.YtcoicoijllpgnaaDoor
open Go.RowKit

end Go.Proofs.YtcoicoijllpgnaaDoor
