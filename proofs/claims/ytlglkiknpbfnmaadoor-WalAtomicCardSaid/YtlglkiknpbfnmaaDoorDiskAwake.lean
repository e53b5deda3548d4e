/-
  orloplaw09.awake, under DiskOk: it returns true. Conditions: DiskOk (proved of the code elsewhere).
-/
import Derived.Test.YtlglkiknpbfnmaaDoorDiskFace
namespace Go.Proofs.YtlglkiknpbfnmaaDoor
open Go.RowKit
set_option linter.unusedVariables false

theorem isZ_two (w : World) (t : TypeId) (a b : Bool) : IsZ (w.alloc (.cells #[.bool a, .bool b] t)) (.slice (some ⟨w.heap.size, 0, none⟩) 2 2) [a, b] := by
  refine ⟨_, 2, rfl, Nat.le_refl _, by unfold maxLen; omega, .inr ⟨w.heap.size, 0, rfl, fun i hi => ?_⟩⟩
  match i, hi with
  | 0, _ => simp
  | 1, _ => simp

end Go.Proofs.YtlglkiknpbfnmaaDoor
