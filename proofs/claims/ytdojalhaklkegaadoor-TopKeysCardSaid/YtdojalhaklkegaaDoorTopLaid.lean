/-
  FROM THE ROWS' LISTED VARIABLES TO 'Laid' AND 'LaidP', where a row lists chacha's table of places and sha's two tables; and the starts that the witnesses begin in. Conditions: none.
-/
import Derived.Test.YtdojalhaklkegaaDoorShaLaid
import Derived.Test.YtdojalhaklkegaaDoorChaLaid
namespace Go.Proofs.YtdojalhaklkegaaDoor
open Go.ChangeShapes Go.WideShapes Go.ChangeAt Go.WideMaps Go.WideElems Go.RowKit
set_option linter.unusedVariables false

/-- What the rows list. -/
def laidTop : List (String × DataW Unit) := [("orlop/chacha.places", Rows.laid_orlop_chacha_places), ("orlop/sha.beginning", Rows.laid_orlop_sha_beginning), ("orlop/sha.constants", Rows.laid_orlop_sha_constants)]

theorem ofT_laid {W : World} (h : laidMetH Tryd.prog laidTop W) : Laid W ∧ LaidP W := by
  rw [MakeChecks.laidMetH_plain _ _ _ (by kernel_rfl)] at h
  obtain ⟨ps, ⟨g2, t2, cs2, f2, p2, q2, hg2, ht2, hv2, hd2, ⟨g0, t0, cs0, f0, p0, q0, hg0, ht0, hv0, hd0, ⟨g1, t1, cs1, f1, p1, q1, hg1, ht1, hv1, hd1, _, _⟩, _⟩, _⟩, _, _⟩ := h
  obtain rfl := Option.some.inj (gBeg.symm.trans hg0)
  obtain rfl := Option.some.inj (gCon.symm.trans hg1)
  obtain rfl := Option.some.inj (tBeg.symm.trans ht0)
  obtain rfl := Option.some.inj (tCon.symm.trans ht1)
  obtain rfl := Option.some.inj (gPls.symm.trans hg2)
  obtain rfl := Option.some.inj (tPls.symm.trans ht2)
  have w0 := words_of_trod (l := M.H0.l) Tryd.underlying154 rfl hd0
  have w1 := words_of_trod (l := M.tK) Tryd.underlying157 rfl hd1
  have w2 := pls_of_trod hd2
  have b : ∀ i, i < 8 → W.cell? ⟨1, i, none⟩ = some (.int .u32 ((M.H0.l.getD i 0).toNat : Int)) := fun i hi => by
    have := World.var?_cell hg0 hv0 i
    rw [this]
    simpa using w0 i hi
  have c : ∀ i, i < 64 → W.cell? ⟨2, i, none⟩ = some (.int .u32 ((M.tK.getD i 0).toNat : Int)) := fun i hi => by
    have := World.var?_cell hg1 hv1 i
    rw [this]
    simpa using w1 i hi
  have d : ∀ i, i < 32 → W.cell? ⟨0, i, none⟩ = some (.int .i64 (M.pl (i / 4) (i % 4) : Nat)) := fun i hi => by
    have := World.var?_cell hg2 hv2 i
    rw [this]
    simpa using w2 i hi
  exact ⟨⟨b, c, World.block_lt_of_cell? W _ (c 0 (by decide))⟩, ⟨d, World.block_lt_of_cell? W _ (d 0 (by decide))⟩⟩

/-- The door's own heap meets the conditions. -/
theorem doorT_met (os : Os) (args : Array Value) : laidMetH Tryd.prog laidTop ((World.doorLaid Tryd.prog 32 os).forCall (fun _ _ => 0) ⟨#[], args, []⟩).memory :=
  laidMetH_of_parts3 (fuel := 8) (laidMet_of_run' 8 (by kernel_rfl) (by kernel_rfl)) (by kernel_rfl) (by kernel_rfl)

theorem doorC_met (os : Os) (args : Array Value) : laidMetH Tryd.prog laidCha ((World.doorLaid Tryd.prog 32 os).forCall (fun _ _ => 0) ⟨#[], args, []⟩).memory :=
  laidMetH_of_parts3 (fuel := 8) (laidMet_of_run' 8 (by kernel_rfl) (by kernel_rfl)) (by kernel_rfl) (by kernel_rfl)

end Go.Proofs.YtdojalhaklkegaaDoor
