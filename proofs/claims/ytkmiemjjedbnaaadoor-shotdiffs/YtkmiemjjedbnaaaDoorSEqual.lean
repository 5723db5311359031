/-
  shot: Same, by slices.Equal.
-/
import Derived.Test.YtkmiemjjedbnaaaDoorSSame
namespace Go.Proofs.YtkmiemjjedbnaaaDoor
open Go.RowKit Classical
set_option linter.unusedVariables false
set_option linter.unusedSimpArgs false

end Go.Proofs.YtkmiemjjedbnaaaDoor
