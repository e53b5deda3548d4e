/-
  WHAT THE ROWS OF LAYER 14 LIST (two tables of package utf8, of which the code reads neither), and a world in which they lie so. Conditions: none.
-/
import Derived.Test.YtmheaefpbebgfaaDoorRows
import Derived.ProofKit
import Derived.LaidMore
import Derived.Lay
import Derived.OpenShut
import Derived.Stop.Joined
namespace Go.Proofs.YtmheaefpbebgfaaDoor
open Go.ChangeShapes Go.WideShapes Go.ChangeAt Go.WideMaps Go.WideElems Go.RowKit
set_option linter.unusedVariables false

/-- What the rows list. -/
def laidUtf8 : List (String × DataW Unit) := [("unicode/utf8.acceptRanges", Rows.laid_unicode_utf8_acceptRanges), ("unicode/utf8.first", Rows.laid_unicode_utf8_first)]

set_option maxRecDepth 100000 in
/-- A world that is laid so. -/
theorem laid_met (os : Os) (args : Array Value) : laidMetH Tryd.prog laidUtf8 ((World.laidAll Tryd.prog os laidUtf8).forCall (fun _ _ => 0) ⟨#[], args, []⟩).memory := by
  rw [MakeChecks.laidMetH_plain _ _ _ (by kernel_rfl)]
  exact laidMet_laidAll _ (by kernel_rfl) (by kernel_rfl)

end Go.Proofs.YtmheaefpbebgfaaDoor
