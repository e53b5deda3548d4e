/-
  CONTRACT OF THE REFERENCE'S Tamper. Conditions: the disk lies so; the bytes lie out of it, fewer than 2^40.
  PLAIN MATHEMATICS: blocks of 256 bytes laid end to end, and what laying a block, or turning bytes, does to the whole row. Nothing of the program. Conditions: none.
  CONTRACTS OF THE REFERENCE'S New. Conditions: none.
-/
import Derived.Test.YtdojalhaklkegaaDoorPn42

namespace Go.Proofs.YtdojalhaklkegaaDoor
open Go.RowKit
set_option linter.unusedVariables false

end Go.Proofs.YtdojalhaklkegaaDoor

namespace Go.Proofs.YtdojalhaklkegaaDoor.M
set_option linter.unusedVariables false

end Go.Proofs.YtdojalhaklkegaaDoor.M

namespace Go.Proofs.YtdojalhaklkegaaDoor
open Go.RowKit
set_option linter.unusedVariables false

end Go.Proofs.YtdojalhaklkegaaDoor
