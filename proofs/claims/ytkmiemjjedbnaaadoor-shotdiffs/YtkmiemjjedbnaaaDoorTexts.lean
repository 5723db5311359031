/-
  texts of the same list twice.
-/
import Derived.Test.YtkmiemjjedbnaaaDoorLists
namespace Go.Proofs.YtkmiemjjedbnaaaDoor
open Go.RowKit

end Go.Proofs.YtkmiemjjedbnaaaDoor
