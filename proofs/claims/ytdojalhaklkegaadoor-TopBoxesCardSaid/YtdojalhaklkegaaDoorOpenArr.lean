/-
  FROM AN ARRAY ARGUMENT'S READING TO ITS BYTES. Conditions: none.
-/
import Derived.Test.YtdojalhaklkegaaDoorOpen
import Derived.Lib.SmallJoins
import Derived.ShutString
import Derived.ChangeOld
set_option maxRecDepth 100000
namespace Go.Proofs.YtdojalhaklkegaaDoor
open Go.ChangeShapes Go.WideShapes Go.ChangeAt Go.RowKit
set_option linter.unusedVariables false

def byteAt5 : Value → UInt8
  | .int _ k => UInt8.ofNat k.toNat
  | _ => 0

theorem bytes_of_trod5 {H : Type} {enc : TypeId × Value → H} {W : World} {fuel n : Nat} {T : TypeId} {cs : List Value} {y : DataW H × List MemPlace} (hT : Tryd.prog.underlying T = some (.array n 5)) (hc : Tryd.prog.cellsOf T = n)
    (h : DataW.trod enc Tryd.prog W 0 (fun _ => true) true fuel T cs = some y) : ∃ bs : List UInt8, cs = Lib.byteCells bs ∧ bs.length = n := by
  obtain ⟨xs, m, rfl, _, hl, hn, hi⟩ := DataW.trod_array hT h
  have c1 : Tryd.prog.cellsOf 5 = 1 := by kernel_rfl
  have hcell : ∀ i, i < n → ∃ b : Nat, b < 256 ∧ cs[i]? = some (.int .u8 (b : Int)) := by
    intro i hlt
    have g := hi i hlt
    rw [c1, Nat.mul_one] at g
    have hxi : i < xs.length := by omega
    rw [List.getElem?_eq_getElem hxi] at g
    obtain ⟨k, e1, _, wk⟩ := DataW.trod_int Tryd.underlying5 g
    have bk := bounds_u8 wk
    obtain ⟨j, rfl⟩ := Int.eq_ofNat_of_zero_le bk.1
    refine ⟨j, by omega, ?_⟩
    have e4 : (List.take 1 (List.drop i cs))[0]? = cs[i]? := by
      rw [List.getElem?_take_of_lt (by omega), List.getElem?_drop, Nat.add_zero]
    rw [← e4, e1]
    rfl
  refine ⟨cs.map byteAt5, ?_, by rw [List.length_map]; omega⟩
  refine List.ext_getElem? fun i => ?_
  by_cases hlt : i < n
  · obtain ⟨b, hb, e⟩ := hcell i hlt
    rw [Lib.byteCells, List.map_map, List.getElem?_map, e]
    simp only [Option.map_some, Function.comp, byteAt5, Int.toNat_natCast, UInt8.toNat_ofNat', Nat.mod_eq_of_lt (show b < 2 ^ 8 from hb)]
  · rw [List.getElem?_eq_none (by omega), List.getElem?_eq_none (by rw [byteCells_length, List.length_map]; omega)]

theorem arr_of_trod {H : Type} {enc : TypeId × Value → H} {W : World} {base n : Nat} {T : TypeId} {v : Value} {d : DataW H} {p : List MemPlace} (hT : Tryd.prog.underlying T = some (.array n 5)) (hc : Tryd.prog.cellsOf T = n)
    (hv : Value.okWide Tryd.prog W .any base T v) (h : DataW.Trod enc Tryd.prog W 0 (fun _ => true) true T v d p) : ∃ bs : List UInt8, v = .agg (Lib.byteCells bs).toArray ∧ bs.length = n := by
  simp only [Value.okWide, hT] at hv
  obtain ⟨cs, rfl, h2, _⟩ := hv
  obtain ⟨fuel, hf⟩ := h
  obtain ⟨bs, e, hl⟩ := bytes_of_trod5 hT hc (by simpa only [Value.cells] using hf)
  exact ⟨bs, by rw [← e], hl⟩

end Go.Proofs.YtdojalhaklkegaaDoor
