/-
  FROM THE READING OF A SLICE OF BOOLS, AND OF A SCRIPT OF STEPS (orloplaw09.Do), TO 'IsZ' AND 'IsSteps'. Conditions: none.
-/
import Derived.Test.YtlglkiknpbfnmaaDoorOpenAsk
import Derived.Test.YtlglkiknpbfnmaaDoorDiskDo
import Derived.Deep.Slices
namespace Go.Proofs.YtlglkiknpbfnmaaDoor
open Go.ChangeShapes Go.WideShapes Go.ChangeAt Go.RowKit
set_option linter.unusedVariables false

theorem z_of_trod {H : Type} {enc : TypeId × Value → H} {W : World} {fuel : Nat} {v : Value} {y : DataW H × List MemPlace} (h : DataW.trod enc Tryd.prog W 0 (fun _ => true) true fuel 35 [v] = some y) :
    ∃ ks, IsZ W v ks := by
  rcases Deep.open_slice1 Tryd.underlying35 (by kernel_rfl) h with ⟨hcs, _⟩ | ⟨x, l, c, m, n, V, D, Pl, hcs, _, hl, hm, hmm, _, hcell⟩
  · simp at hcs
    subst hcs
    exact ⟨[], IsZ.nil W⟩
  · simp at hcs
    subst hcs
    have hlm : l ≤ m := by rw [hmm]; split <;> omega
    have each : ∀ i, i < l → ∃ q : Bool, W.cell? (x.add i) = some (.bool q) := by
      intro i hi
      obtain ⟨c0, t0⟩ := hcell i (by omega)
      obtain ⟨b, e0, _⟩ := DataW.trod_bool Tryd.underlying4 t0
      simp at e0
      exact ⟨b, by rw [c0, e0]⟩
    obtain ⟨f, hf⟩ := Deep.choose_lt each
    refine ⟨(List.range l).map f, some x, c, by simp, by simp; omega, hm, ?_⟩
    by_cases h0 : l = 0
    · exact .inl (by rw [h0]; rfl)
    · obtain ⟨b, off, spot⟩ := x
      have hspot : spot = none := by simpa [Addr.add] using World.cell?_spot (hf 0 (by omega))
      subst hspot
      refine .inr ⟨b, off, rfl, fun i hi => ?_⟩
      have hi' : i < l := by simpa using hi
      have e : ((List.range l).map f).getD i false = f i := by simp [List.getD_eq_getElem?_getD, hi']
      rw [e]
      have := hf i hi'
      rwa [Addr.add_lit] at this

end Go.Proofs.YtlglkiknpbfnmaaDoor
