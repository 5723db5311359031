/-
  texts of the same list twice.
-/
import Derived.Test.YtjanlaphfkeejaaDoorLists
namespace Go.Proofs.YtjanlaphfkeejaaDoor
open Go.RowKit

end Go.Proofs.YtjanlaphfkeejaaDoor
