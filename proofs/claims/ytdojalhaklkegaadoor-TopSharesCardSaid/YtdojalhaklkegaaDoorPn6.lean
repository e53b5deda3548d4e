/-
  FROM THE ROW's LISTED VARIABLE TO 'LaidP': chacha's table of places, cell by cell; and the start that the witness begins in. Conditions: none.
  FROM THE ROWS' LISTED VARIABLES TO 'Laid' AND 'LaidP', where a row lists chacha's table of places and sha's two tables; and the starts that the witnesses begin in. Conditions: none.
  FROM AN ARGUMENT'S READING TO 'IsB': a slice of bytes that came in. Conditions: none.
-/
import Derived.Test.YtdojalhaklkegaaDoorRows
import Derived.Test.YtdojalhaklkegaaDoorPn5
import Derived.ProofKit
import Derived.LaidMore
import Derived.OpenShut
import Derived.Stop.Joined
import Derived.Test.YtdojalhaklkegaaDoorPn4
import Derived.Test.YtdojalhaklkegaaDoorPn1

namespace Go.Proofs.YtdojalhaklkegaaDoor
open Go.ChangeShapes Go.WideShapes Go.ChangeAt Go.WideMaps Go.WideElems Go.RowKit
set_option linter.unusedVariables false

theorem gPls : Tryd.prog.globalNamed "orlop/chacha.places" = some 0 := by kernel_rfl
theorem tPls : (Tryd.prog.globals[0]?).map (·.type) = some 119 := by kernel_rfl

/-- The cells of an array of four numbers that reads as known ones. -/
theorem ints_of_trod {W : World} {enc : TypeId × Value → Unit} {sp : Nat → Bool} {held : Bool} {fuel : Nat} {cs : List Value} {p : List MemPlace} {a b c d : Int}
    (hd : DataW.trod enc Tryd.prog W 0 sp held fuel 118 cs = some (.agg [.lit (.int .i64 a), .lit (.int .i64 b), .lit (.int .i64 c), .lit (.int .i64 d)], p)) :
    cs[0]? = some (.int .i64 a) ∧ cs[1]? = some (.int .i64 b) ∧ cs[2]? = some (.int .i64 c) ∧ cs[3]? = some (.int .i64 d) := by
  obtain ⟨xs, m, rfl, hx, hlen, hn, hel⟩ := DataW.trod_array Tryd.underlying118 hd
  have c1 : Tryd.prog.cellsOf 3 = 1 := by kernel_rfl
  simp only [Prod.mk.injEq, DataW.agg.injEq] at hx
  have key : ∀ i (h : i < 4) (u : Int), (xs.map Prod.fst)[i]? = some (.lit (.int .i64 u)) → cs[i]? = some (.int .i64 u) := by
    intro i hi u hu
    have h := hel i hi
    rw [c1, Nat.mul_one] at h
    have hxi : i < xs.length := by omega
    rw [List.getElem?_eq_getElem hxi] at h
    obtain ⟨k, e1, e2, _⟩ := DataW.trod_int Tryd.underlying3 h
    rw [List.getElem?_map, List.getElem?_eq_getElem hxi] at hu
    simp only [e2, Option.map_some, Option.some.injEq, DataW.lit.injEq, Lit.int.injEq, true_and] at hu
    have e4 : (List.take 1 (List.drop i cs))[0]? = cs[i]? := by
      rw [List.getElem?_take_of_lt (by omega), List.getElem?_drop, Nat.add_zero]
    rw [← e4, e1, ← hu]
    rfl
  have e := hx.1
  refine ⟨key 0 (by decide) a ?_, key 1 (by decide) b ?_, key 2 (by decide) c ?_, key 3 (by decide) d ?_⟩ <;> rw [← e] <;> rfl

theorem pls_of_trod {W : World} {enc : TypeId × Value → Unit} {sp : Nat → Bool} {held : Bool} {fuel : Nat} {cs : List Value} {p : List MemPlace}
    (hd : DataW.trod enc Tryd.prog W 0 sp held fuel 119 cs = some (Rows.laid_orlop_chacha_places, p)) : ∀ i, i < 32 → cs[i]? = some (.int .i64 (M.pl (i / 4) (i % 4) : Nat)) := by
  obtain ⟨xs, m, rfl, hx, hlen, hn, hel⟩ := DataW.trod_array Tryd.underlying119 hd
  have c1 : Tryd.prog.cellsOf 118 = 4 := by kernel_rfl
  simp only [Rows.laid_orlop_chacha_places, Prod.mk.injEq, DataW.agg.injEq] at hx
  have e := hx.1
  have key : ∀ i (h : i < 8) (a b c d : Int), (xs.map Prod.fst)[i]? = some (.agg [.lit (.int .i64 a), .lit (.int .i64 b), .lit (.int .i64 c), .lit (.int .i64 d)]) →
      cs[i * 4]? = some (.int .i64 a) ∧ cs[i * 4 + 1]? = some (.int .i64 b) ∧ cs[i * 4 + 2]? = some (.int .i64 c) ∧ cs[i * 4 + 3]? = some (.int .i64 d) := by
    intro i hi a b c d hu
    have h := hel i hi
    rw [c1] at h
    have hxi : i < xs.length := by omega
    rw [List.getElem?_eq_getElem hxi] at h
    rw [List.getElem?_map, List.getElem?_eq_getElem hxi, Option.map_some, Option.some.injEq] at hu
    have h2 := ints_of_trod (p := xs[i].2) (a := a) (b := b) (c := c) (d := d) (by rw [h, ← hu])
    have e4 : ∀ j, j < 4 → (List.take 4 (List.drop (i * 4) cs))[j]? = cs[i * 4 + j]? := fun j hj => by
      rw [List.getElem?_take_of_lt hj, List.getElem?_drop]
    rw [e4 0 (by decide), e4 1 (by decide), e4 2 (by decide), e4 3 (by decide)] at h2
    exact h2
  rw [← e] at key
  intro i hi
  have k0 := key 0 (by decide) _ _ _ _ rfl
  have k1 := key 1 (by decide) _ _ _ _ rfl
  have k2 := key 2 (by decide) _ _ _ _ rfl
  have k3 := key 3 (by decide) _ _ _ _ rfl
  have k4 := key 4 (by decide) _ _ _ _ rfl
  have k5 := key 5 (by decide) _ _ _ _ rfl
  have k6 := key 6 (by decide) _ _ _ _ rfl
  have k7 := key 7 (by decide) _ _ _ _ rfl
  match i, hi with
  | 0, _ => exact k0.1
  | 1, _ => exact k0.2.1
  | 2, _ => exact k0.2.2.1
  | 3, _ => exact k0.2.2.2
  | 4, _ => exact k1.1
  | 5, _ => exact k1.2.1
  | 6, _ => exact k1.2.2.1
  | 7, _ => exact k1.2.2.2
  | 8, _ => exact k2.1
  | 9, _ => exact k2.2.1
  | 10, _ => exact k2.2.2.1
  | 11, _ => exact k2.2.2.2
  | 12, _ => exact k3.1
  | 13, _ => exact k3.2.1
  | 14, _ => exact k3.2.2.1
  | 15, _ => exact k3.2.2.2
  | 16, _ => exact k4.1
  | 17, _ => exact k4.2.1
  | 18, _ => exact k4.2.2.1
  | 19, _ => exact k4.2.2.2
  | 20, _ => exact k5.1
  | 21, _ => exact k5.2.1
  | 22, _ => exact k5.2.2.1
  | 23, _ => exact k5.2.2.2
  | 24, _ => exact k6.1
  | 25, _ => exact k6.2.1
  | 26, _ => exact k6.2.2.1
  | 27, _ => exact k6.2.2.2
  | 28, _ => exact k7.1
  | 29, _ => exact k7.2.1
  | 30, _ => exact k7.2.2.1
  | 31, _ => exact k7.2.2.2
  | n + 32, h => omega

end Go.Proofs.YtdojalhaklkegaaDoor

namespace Go.Proofs.YtdojalhaklkegaaDoor
open Go.ChangeShapes Go.WideShapes Go.ChangeAt Go.WideMaps Go.WideElems Go.RowKit
set_option linter.unusedVariables false

/-- What the rows list. -/
def laidTop : List (String × DataW Unit) := [("orlop/chacha.places", Rows.laid_orlop_chacha_places), ("orlop/sha.beginning", Rows.laid_orlop_sha_beginning), ("orlop/sha.constants", Rows.laid_orlop_sha_constants)]

theorem ofT_laid {W : World} (h : laidMetH Tryd.prog laidTop W) : Laid W ∧ LaidP W := by
  rw [MakeChecks.laidMetH_plain _ _ _ (by kernel_rfl)] at h
  obtain ⟨ps, ⟨g2, t2, cs2, f2, p2, q2, hg2, ht2, hv2, hd2, ⟨g0, t0, cs0, f0, p0, q0, hg0, ht0, hv0, hd0, ⟨g1, t1, cs1, f1, p1, q1, hg1, ht1, hv1, hd1, _, _⟩, _⟩, _⟩, _, _⟩ := h
  obtain rfl := Option.some.inj (gBeg.symm.trans hg0)
  obtain rfl := Option.some.inj (gCon.symm.trans hg1)
  obtain rfl := Option.some.inj (tBeg.symm.trans ht0)
  obtain rfl := Option.some.inj (tCon.symm.trans ht1)
  obtain rfl := Option.some.inj (gPls.symm.trans hg2)
  obtain rfl := Option.some.inj (tPls.symm.trans ht2)
  have w0 := words_of_trod (l := M.H0.l) Tryd.underlying154 rfl hd0
  have w1 := words_of_trod (l := M.tK) Tryd.underlying157 rfl hd1
  have w2 := pls_of_trod hd2
  have b : ∀ i, i < 8 → W.cell? ⟨1, i, none⟩ = some (.int .u32 ((M.H0.l.getD i 0).toNat : Int)) := fun i hi => by
    have := World.var?_cell hg0 hv0 i
    rw [this]
    simpa using w0 i hi
  have c : ∀ i, i < 64 → W.cell? ⟨2, i, none⟩ = some (.int .u32 ((M.tK.getD i 0).toNat : Int)) := fun i hi => by
    have := World.var?_cell hg1 hv1 i
    rw [this]
    simpa using w1 i hi
  have d : ∀ i, i < 32 → W.cell? ⟨0, i, none⟩ = some (.int .i64 (M.pl (i / 4) (i % 4) : Nat)) := fun i hi => by
    have := World.var?_cell hg2 hv2 i
    rw [this]
    simpa using w2 i hi
  exact ⟨⟨b, c, World.block_lt_of_cell? W _ (c 0 (by decide))⟩, ⟨d, World.block_lt_of_cell? W _ (d 0 (by decide))⟩⟩

/-- The door's own heap meets the conditions. -/
theorem doorT_met (os : Os) (args : Array Value) : laidMetH Tryd.prog laidTop ((World.doorLaid Tryd.prog 32 os).forCall (fun _ _ => 0) ⟨#[], args, []⟩).memory :=
  laidMetH_of_parts3 (fuel := 8) (laidMet_of_run' 8 (by kernel_rfl) (by kernel_rfl)) (by kernel_rfl) (by kernel_rfl)

end Go.Proofs.YtdojalhaklkegaaDoor

namespace Go.Proofs.YtdojalhaklkegaaDoor
open Go.RowKit

end Go.Proofs.YtdojalhaklkegaaDoor
