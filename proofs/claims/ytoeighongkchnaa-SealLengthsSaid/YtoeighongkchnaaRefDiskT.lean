/-
  CONTRACT OF THE REFERENCE'S Tamper. Conditions: the disk lies so; the bytes lie out of it, fewer than 2^40.
-/
import Derived.Test.YtoeighongkchnaaRefDiskR
namespace Go.Proofs.Ytoeighongkchnaa
open Go.RowKit
set_option linter.unusedVariables false

theorem M.turns_length (s : List (List UInt8)) (at_ : Int) (b : List UInt8) (j : Nat) : (M.turns s at_ b j).length = s.length := by
  induction j with
  | zero => rfl
  | succ j ih =>
    rw [M.turns]
    split
    · rw [M.turned1, List.length_set, ih]
    · exact ih

theorem bc_set8 (bs : List UInt8) (i : Nat) (u : UInt8) : (Lib.byteCells bs).set i (.int .u8 (u.toNat : Int)) = Lib.byteCells (bs.set i u) := by
  simp [Lib.byteCells, List.map_set]


end Go.Proofs.Ytoeighongkchnaa
