/-
  FROM THE ROW's LISTED VARIABLES TO 'Laid': sha's two tables, cell by cell; and the start that the witness begins in. Conditions: none.
-/
import Derived.Test.YtdojalhaklkegaaDoorRows
import Derived.Test.YtdojalhaklkegaaDoorShaWork
import Derived.ProofKit
import Derived.LaidMore
import Derived.OpenShut
import Derived.Stop.Joined
namespace Go.Proofs.YtdojalhaklkegaaDoor
open Go.ChangeShapes Go.WideShapes Go.ChangeAt Go.WideMaps Go.WideElems Go.RowKit
set_option linter.unusedVariables false

theorem gBeg : Tryd.prog.globalNamed "orlop/sha.beginning" = some 1 := by kernel_rfl
theorem gCon : Tryd.prog.globalNamed "orlop/sha.constants" = some 2 := by kernel_rfl
theorem tBeg : (Tryd.prog.globals[1]?).map (·.type) = some 154 := by kernel_rfl
theorem tCon : (Tryd.prog.globals[2]?).map (·.type) = some 157 := by kernel_rfl

/-- What the rows list. -/
def laidSha : List (String × DataW Unit) := [("orlop/sha.beginning", Rows.laid_orlop_sha_beginning), ("orlop/sha.constants", Rows.laid_orlop_sha_constants)]

/-- The cells of an array of words that reads as known words. -/
theorem words_of_trod {W : World} {enc : TypeId × Value → Unit} {sp : Nat → Bool} {held : Bool} {fuel n : Nat} {t : TypeId} {cs : List Value} {p : List MemPlace} {l : List UInt32} (ht : Tryd.prog.underlying t = some (.array n 58))
    (hl : l.length = n) (hd : DataW.trod enc Tryd.prog W 0 sp held fuel t cs = some (.agg (l.map fun x => .lit (.int .u32 (x.toNat : Int))), p)) : ∀ i, i < n → cs[i]? = some (.int .u32 ((l.getD i 0).toNat : Int)) := by
  intro i hi
  obtain ⟨xs, m, rfl, hx, hlen, hn, hel⟩ := DataW.trod_array ht hd
  have c1 : Tryd.prog.cellsOf 58 = 1 := by kernel_rfl
  have h := hel i hi
  rw [c1, Nat.mul_one] at h
  simp only [Prod.mk.injEq, DataW.agg.injEq] at hx
  have hxi : i < xs.length := by omega
  rw [List.getElem?_eq_getElem hxi] at h
  obtain ⟨k, e1, e2, _⟩ := DataW.trod_int Tryd.underlying58 h
  have e3 := congrArg (fun q => q[i]?) hx.1
  simp only [List.getElem?_map, List.getElem?_eq_getElem hxi, e2, Option.map_some] at e3
  have hli : i < l.length := by omega
  rw [List.getElem?_eq_getElem hli] at e3
  simp only [Option.map_some, Option.some.injEq, DataW.lit.injEq, Lit.int.injEq, true_and] at e3
  have e4 : (List.take 1 (List.drop i cs))[0]? = cs[i]? := by
    rw [List.getElem?_take_of_lt (by omega), List.getElem?_drop, Nat.add_zero]
  rw [← e4, e1, ← e3]
  simp [List.getD_eq_getElem?_getD, hli]

theorem of_laid {W : World} (h : laidMetH Tryd.prog laidSha W) : Laid W := by
  rw [MakeChecks.laidMetH_plain _ _ _ (by kernel_rfl)] at h
  obtain ⟨ps, ⟨g0, t0, cs0, f0, p0, q0, hg0, ht0, hv0, hd0, ⟨g1, t1, cs1, f1, p1, q1, hg1, ht1, hv1, hd1, _, _⟩, _⟩, _, _⟩ := h
  obtain rfl := Option.some.inj (gBeg.symm.trans hg0)
  obtain rfl := Option.some.inj (gCon.symm.trans hg1)
  obtain rfl := Option.some.inj (tBeg.symm.trans ht0)
  obtain rfl := Option.some.inj (tCon.symm.trans ht1)
  have w0 := words_of_trod (l := M.H0.l) Tryd.underlying154 rfl hd0
  have w1 := words_of_trod (l := M.tK) Tryd.underlying157 rfl hd1
  have b : ∀ i, i < 8 → W.cell? ⟨1, i, none⟩ = some (.int .u32 ((M.H0.l.getD i 0).toNat : Int)) := fun i hi => by
    have := World.var?_cell hg0 hv0 i
    rw [this]
    simpa using w0 i hi
  have c : ∀ i, i < 64 → W.cell? ⟨2, i, none⟩ = some (.int .u32 ((M.tK.getD i 0).toNat : Int)) := fun i hi => by
    have := World.var?_cell hg1 hv1 i
    rw [this]
    simpa using w1 i hi
  exact ⟨b, c, World.block_lt_of_cell? W _ (c 0 (by decide))⟩

end Go.Proofs.YtdojalhaklkegaaDoor
