/-
  CONTRACTS OF THE REFERENCE'S Write. Conditions: the disk lies so; what is written lies out of it; fewer than a million writes wait.
  CONTRACTS OF THE REFERENCE'S DISK: what Write refuses, Arm, Sync. Conditions: the disk lies so.
  CONTRACT OF THE REFERENCE'S Sync. Conditions: the disk lies so.
-/
import Derived.Test.YtdojalhaklkegaaDoorPn40
import Derived.Test.YtdojalhaklkegaaDoorPn39
import Derived.StillTailTactics

namespace Go.Proofs.YtdojalhaklkegaaDoor
open Go.RowKit
set_option linter.unusedVariables false

end Go.Proofs.YtdojalhaklkegaaDoor

namespace Go.Proofs.YtdojalhaklkegaaDoor
open Go.RowKit
set_option linter.unusedVariables false

end Go.Proofs.YtdojalhaklkegaaDoor

namespace Go.Proofs.YtdojalhaklkegaaDoor
open Go.RowKit
set_option linter.unusedVariables false

end Go.Proofs.YtdojalhaklkegaaDoor
