/-
  CONTRACT OF THE REFERENCE'S Crash. Conditions: the disk lies so; the list of what is kept lies out of it.
-/
import Derived.Test.YtoeighongkchnaaRefDiskZ
namespace Go.Proofs.Ytoeighongkchnaa
open Go.RowKit
set_option linter.unusedVariables false

theorem M.kept_length (s : List (List UInt8)) (c : List (Nat × List UInt8)) (k : List Bool) (j : Nat) : (M.kept s c k j).length = s.length := by
  induction j with
  | zero => rfl
  | succ j ih =>
    rw [M.kept]
    split
    · rw [List.length_set, ih]
    · exact ih

end Go.Proofs.Ytoeighongkchnaa
