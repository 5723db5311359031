/-
  shot: Same, by slices.Equal.
-/
import Derived.Test.YtjanlaphfkeejaaDoorSSame
namespace Go.Proofs.YtjanlaphfkeejaaDoor
open Go.RowKit Classical
set_option linter.unusedVariables false
set_option linter.unusedSimpArgs false

end Go.Proofs.YtjanlaphfkeejaaDoor
