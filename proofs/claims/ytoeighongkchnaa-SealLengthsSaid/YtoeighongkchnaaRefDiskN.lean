/-
  CONTRACTS OF THE REFERENCE'S New. Conditions: none.
-/
import Derived.Test.YtoeighongkchnaaRefDiskT
namespace Go.Proofs.Ytoeighongkchnaa
open Go.RowKit
set_option linter.unusedVariables false

theorem rows_row : RowTy 35 22 1 24 (.slice none 0 0) := ⟨Try.underlying35, by kernel_rfl, rfl, by decide⟩

def M.zdsk (j : Nat) : M.Dsk := ⟨List.replicate j M.zero256, [], 0, false⟩

theorem M.zdsk_next (j : Nat) : ({ M.zdsk j with safe := (M.zdsk j).safe ++ [M.zero256] } : M.Dsk) = M.zdsk (j + 1) := by
  rw [M.zdsk, M.zdsk, List.replicate_succ']

theorem M.zdsk_len (j : Nat) : (M.zdsk j).safe.length = j := List.length_replicate

end Go.Proofs.Ytoeighongkchnaa
