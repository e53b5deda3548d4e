/-
  THE WALK OF orloplaw02.ShaDigests: it returns true, and writes nothing that was there. Conditions: the program's two tables lie as they were laid.
-/
import Derived.Test.YtmjeilhppgdmfaaDoorShaAwake
namespace Go.Proofs.YtmjeilhppgdmfaaDoor
open Go.RowKit
set_option linter.unusedVariables false

theorem requal_yes (v1 v2 : Value) (xs : List UInt8) (w : World) (h1 : IsB w v1 xs) (h2 : IsB w v2 xs) :
    Calls Tryd.prog 8 #[v1, v2] w fun e w' => e = .returned (.bool true) ∧ Below w.heap.size w w' := by
  refine (requal_b v1 v2 xs xs w h1 h2).mono ?_
  rintro e w' ⟨rfl, k⟩
  exact ⟨by simp, k⟩

end Go.Proofs.YtmjeilhppgdmfaaDoor
