/-
  THE FACE OF THE CODE'S DISK (DiskOk): what each of its calls does, in the words of M.Dsk, over a predicate Dk T w g m that hides what lies where. Nothing of it is proved here: DiskIs proves it of the code. Conditions: none.
-/
import Derived.Test.YtoeighongkchnaaRefDk
import Derived.Test.YtoeighongkchnaaDiskDo
namespace Go.Proofs.Ytoeighongkchnaa
open Go.RowKit
set_option linter.unusedVariables false

end Go.Proofs.Ytoeighongkchnaa
