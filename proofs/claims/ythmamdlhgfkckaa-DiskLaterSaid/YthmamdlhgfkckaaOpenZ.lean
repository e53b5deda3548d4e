/-
  FROM THE READING OF AN ARRAY OF TWO BOOLS, BY VALUE, TO THE BOOLS. Conditions: none.
-/
import Derived.Test.YthmamdlhgfkckaaOpen
import Derived.Lib.SmallJoins
import Derived.ShutString
import Derived.ChangeOld
import Derived.Deep.Slices
namespace Go.Proofs.Ythmamdlhgfkckaa
open Go.ChangeShapes Go.WideShapes Go.ChangeAt Go.RowKit
set_option linter.unusedVariables false

theorem z2_of_trod {H : Type} {enc : TypeId × Value → H} {W : World} {base : Nat} {v : Value} {d : DataW H} {p : List MemPlace}
    (hv : Value.okWide Try.prog W .any base 56 v) (h : DataW.Trod enc Try.prog W 0 (fun _ => true) true 56 v d p) : ∃ a b, v = .agg #[.bool a, .bool b] := by
  obtain ⟨c0, c1, rfl⟩ := WideMaps.okWide_pair ⟨Try.underlying56, by kernel_rfl, by kernel_rfl, by kernel_rfl⟩ hv
  obtain ⟨fuel, hf⟩ := h
  obtain ⟨ys, m, _, _, _, hn, hi⟩ := DataW.trod_array Try.underlying56 hf
  have hc : Try.prog.cellsOf 4 = 1 := by kernel_rfl
  match ys, hn with
  | [y0, y1], _ =>
    have g0 := hi 0 (by omega)
    have g1 := hi 1 (by omega)
    rw [hc] at g0 g1
    simp [Value.cells] at g0 g1
    obtain ⟨x, e0, _⟩ := DataW.trod_bool Try.underlying4 g0
    obtain ⟨y, e1, _⟩ := DataW.trod_bool Try.underlying4 g1
    simp at e0 e1
    subst e0 e1
    exact ⟨x, y, rfl⟩

end Go.Proofs.Ythmamdlhgfkckaa
