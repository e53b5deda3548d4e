/-
  THE REFERENCE'S DISK AS ONE THING (RefDk: what lies where is hidden), and its calls as one contract each, every case in it. Conditions: each contract's.
-/
import Derived.Test.YtoeighongkchnaaRefDiskL
import Derived.Test.YtoeighongkchnaaRefDiskR
import Derived.Test.YtoeighongkchnaaRefDiskT
import Derived.Test.YtoeighongkchnaaRefDiskC
namespace Go.Proofs.Ytoeighongkchnaa
open Go.RowKit
set_option linter.unusedVariables false

namespace M
/-- A Write: what is behind it, and its answer. -/
def Dsk.doWrite (m : Dsk) (i : Int) (b : List UInt8) : Dsk × Int :=
  if 0 ≤ i ∧ i < m.safe.length ∧ b.length = 256 then
    if m.down = true then (m, 11) else (m.write i.toNat b, if (({ m with wait := m.wait ++ [(i.toNat, b)] } : Dsk).goes).2 then 11 else 0)
  else (m, 1)
/-- A Sync: what is behind it, and its answer. -/
def Dsk.doSync (m : Dsk) : Dsk × Int :=
  if m.down = true then (m, 11) else if m.goes.2 = true then (m.goes.1, 11) else (m.goes.1.synced, 0)
/-- What a Read hands back: bytes, and its answer. -/
def Dsk.doRead (m : Dsk) (i : Int) : List UInt8 × Int := if 0 ≤ i ∧ i < m.safe.length then (m.read i.toNat, 0) else ([], 1)
end M

end Go.Proofs.Ytoeighongkchnaa
