/-
  CONTRACTS OF orlopref02.K AND H: the document's tables. Conditions: none.
-/
import Derived.Test.YtmjeilhppgdmfaaDoorRefW
namespace Go.Proofs.YtmjeilhppgdmfaaDoor
open Go.RowKit
set_option linter.unusedVariables false

theorem tH_any (w : World) : Calls Tryd.prog 27 #[] w (MakesW w M.H0.l) := by
  go_enter Tryd.func27, Tryd.ntmps27
  go_wp2
  go_ret
  exact ⟨_, rfl, ownW_lit w _ _ M.H0.l (Nat.le_refl _) rfl (by decide), (Below.refl _ _).alloc (Nat.le_refl _) _⟩

theorem tK_any (w : World) : Calls Tryd.prog 28 #[] w (MakesW w M.tK) := by
  go_enter Tryd.func28, Tryd.ntmps28
  go_wp2
  go_ret
  exact ⟨_, rfl, ownW_lit w _ _ M.tK (Nat.le_refl _) rfl (by decide), (Below.refl _ _).alloc (Nat.le_refl _) _⟩

end Go.Proofs.YtmjeilhppgdmfaaDoor
