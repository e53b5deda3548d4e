/-
  '==' OF TWO NUMBERS OF orlopref07 (arrays of 32 ints). Conditions: both are below 2^256.
  PLAIN MATHEMATICS OF HEXADECIMAL TEXTS: lists of bytes, nothing of the program. Conditions: none.
  CONTRACTS OF orlopref01.digit AND Unhex, without the library's strings (for seats that lack word.Hex). Conditions: texts of up to 2^40 bytes.
-/
import Derived.Test.YtdojalhaklkegaaDoorPn18
import Derived.ChangeKeysEq
import Derived.Laws.StructEq
import Derived.Lib.Bytealg
import Derived.Test.YtdojalhaklkegaaDoorPn1
import Derived.WalkSpells

namespace Go.Proofs.YtdojalhaklkegaaDoor
open Go.RowKit
set_option linter.unusedVariables false

end Go.Proofs.YtdojalhaklkegaaDoor

namespace Go.Proofs.YtdojalhaklkegaaDoor.M

/-- A letter's worth; 99: it is no digit. -/
def hval (c : UInt8) : Nat := if 48 ≤ c.toNat ∧ c.toNat ≤ 57 then c.toNat - 48 else if 97 ≤ c.toNat ∧ c.toNat ≤ 102 then c.toNat - 87 else 99

def good (s : List UInt8) (j : Nat) : Prop := hval (s.getD (2 * j) 0) ≤ 15 ∧ hval (s.getD (2 * j + 1) 0) ≤ 15

instance (s : List UInt8) (j : Nat) : Decidable (good s j) := by unfold good; infer_instance

/-- The row of digits. -/
def digits : List UInt8 := [48, 49, 50, 51, 52, 53, 54, 55, 56, 57, 97, 98, 99, 100, 101, 102]

end Go.Proofs.YtdojalhaklkegaaDoor.M

namespace Go.Proofs.YtdojalhaklkegaaDoor
open Go.RowKit