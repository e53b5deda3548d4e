/-
  orloplaw02.awake RETURNS true (what the document fixes as examples). Conditions: the program's two tables lie as they were laid.
-/
import Derived.Test.YtmjeilhppgdmfaaDoorRefSha
import Derived.Test.YtmjeilhppgdmfaaDoorWordC
import Derived.Lib.SlBytesConst
namespace Go.Proofs.YtmjeilhppgdmfaaDoor
open Go.RowKit
set_option linter.unusedVariables false

theorem isB_three (w : World) (t : TypeId) (fr : Nat × Nat) (a b c : UInt8) (x y z : Int) (ha : x = a.toNat) (hb : y = b.toNat) (hc : z = c.toNat) : IsB (w.alloc (.cells #[.int .u8 x, .int .u8 y, .int .u8 z] t fr)) (.slice (some ⟨w.heap.size, 0, none⟩) 3 3) [a, b, c] := by
  subst ha hb hc
  refine ⟨_, 3, rfl, Nat.le_refl _, by unfold maxLen; omega, .inr ⟨w.heap.size, 0, rfl, fun i hi => ?_⟩⟩
  match i, hi with
  | 0, _ => rw [World.cell?_alloc_mark]; rfl
  | 1, _ => rw [World.cell?_alloc_mark]; rfl
  | 2, _ => rw [World.cell?_alloc_mark]; rfl

theorem getD_of_take (l : List UInt8) (n i : Nat) (ys : List UInt8) (h : l.take n = ys) (hi : i < n) : l.getD i 0 = ys.getD i 0 := by
  rw [← h]
  simp [List.getD_eq_getElem?_getD, hi]

end Go.Proofs.YtmjeilhppgdmfaaDoor
