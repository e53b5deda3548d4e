/-
  CONTRACTS OF THE REFERENCE'S DISK: what Write and Sync refuse; Image, Same. Conditions: the disk lies so.
-/
import Derived.Test.YtoeighongkchnaaRefDiskY
import Derived.Test.YtoeighongkchnaaRefA
namespace Go.Proofs.Ytoeighongkchnaa
open Go.RowKit
set_option linter.unusedVariables false

end Go.Proofs.Ytoeighongkchnaa
