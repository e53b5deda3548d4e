/-
  FROM A STRUCT'S FIELDS' READINGS TO 'IsB' AND TO AN INTEGER: fields of one cell each. Conditions: none.
-/
import Derived.Test.YtdojalhaklkegaaDoorOpen
import Derived.Lib.SmallJoins
import Derived.ShutString
import Derived.ChangeOld
namespace Go.Proofs.YtdojalhaklkegaaDoor
open Go.ChangeShapes Go.WideShapes Go.ChangeAt Go.RowKit
set_option linter.unusedVariables false

theorem isB_of_trod {H : Type} {enc : TypeId × Value → H} {W : World} {fuel : Nat} {v : Value} {y : DataW H × List MemPlace} (h : DataW.trod enc Tryd.prog W 0 (fun _ => true) true fuel 24 [v] = some y) :
    ∃ bs, IsB W v bs ∧ ∀ n c, v = .slice none n c → c = 0 := by
  rcases open_ints Tryd.underlying24 Tryd.underlying5 (by kernel_rfl) h with ⟨hcs, _⟩ | ⟨x, l, c, zs, hcs, _, hl, hm, hz, _, hcell, hwz⟩
  · simp at hcs
    subst hcs
    exact ⟨[], IsB.nil W, fun n c h => by cases h; rfl⟩
  · simp at hcs
    subst hcs
    obtain ⟨bs, _, hb⟩ := isB_of_ints hl hm (by simpa using hz) hcell hwz
    exact ⟨bs, hb, fun n c h => by cases h⟩

theorem int_of_trod {H : Type} {enc : TypeId × Value → H} {W : World} {fuel : Nat} {v : Value} {y : DataW H × List MemPlace} (h : DataW.trod enc Tryd.prog W 0 (fun _ => true) true fuel 3 [v] = some y) :
    ∃ n : Int, v = .int .i64 n ∧ (Lit.int .i64 n).wf = true := by
  obtain ⟨x, e0, _, wx⟩ := DataW.trod_int Tryd.underlying3 h
  simp at e0
  exact ⟨x, e0, wx⟩

end Go.Proofs.YtdojalhaklkegaaDoor
