/-
  FROM A STRUCT'S FIELDS' READINGS TO 'IsB' AND TO AN INTEGER: fields of one cell each. Conditions: none.
  FROM AN ARRAY ARGUMENT'S READING TO ITS BYTES. Conditions: none.
  FROM THE READING OF orloptop's Box, Pair AND Layer BY VALUE, AND OF TWO BYTES, TO THEIR FIELDS. Conditions: none.
-/
import Derived.Test.YtdojalhaklkegaaDoorPn6
import Derived.Lib.SmallJoins
import Derived.ShutString
import Derived.ChangeOld
import Derived.Deep.Slices

namespace Go.Proofs.YtdojalhaklkegaaDoor
open Go.ChangeShapes Go.WideShapes Go.ChangeAt Go.RowKit
set_option linter.unusedVariables false

end Go.Proofs.YtdojalhaklkegaaDoor

set_option maxRecDepth 100000
namespace Go.Proofs.YtdojalhaklkegaaDoor
open Go.ChangeShapes Go.WideShapes Go.ChangeAt Go.RowKit
set_option linter.unusedVariables false

def byteAt5 : Value → UInt8
  | .int _ k => UInt8.ofNat k.toNat
  | _ => 0

theorem bytes_of_trod5 {H : Type} {enc : TypeId × Value → H} {W : World} {fuel n : Nat} {T : TypeId} {cs : List Value} {y : DataW H × List MemPlace} (hT : Tryd.prog.underlying T = some (.array n 5)) (hc : Tryd.prog.cellsOf T = n)
    (h : DataW.trod enc Tryd.prog W 0 (fun _ => true) true fuel T cs = some y) : ∃ bs : List UInt8, cs = Lib.byteCells bs ∧ bs.length = n := by
  obtain ⟨xs, m, rfl, _, hl, hn, hi⟩ := DataW.trod_array hT h
  have c1 : Tryd.prog.cellsOf 5 = 1 := by kernel_rfl
  have hcell : ∀ i, i < n → ∃ b : Nat, b < 256 ∧ cs[i]? = some (.int .u8 (b : Int)) := by
    intro i hlt
    have g := hi i hlt
    rw [c1, Nat.mul_one] at g
    have hxi : i < xs.length := by omega
    rw [List.getElem?_eq_getElem hxi] at g
    obtain ⟨k, e1, _, wk⟩ := DataW.trod_int Tryd.underlying5 g
    have bk := bounds_u8 wk
    obtain ⟨j, rfl⟩ := Int.eq_ofNat_of_zero_le bk.1
    refine ⟨j, by omega, ?_⟩
    have e4 : (List.take 1 (List.drop i cs))[0]? = cs[i]? := by
      rw [List.getElem?_take_of_lt (by omega), List.getElem?_drop, Nat.add_zero]
    rw [← e4, e1]
    rfl
  refine ⟨cs.map byteAt5, ?_, by rw [List.length_map]; omega⟩
  refine List.ext_getElem? fun i => ?_
  by_cases hlt : i < n
  · obtain ⟨b, hb, e⟩ := hcell i hlt
    rw [Lib.byteCells, List.map_map, List.getElem?_map, e]
    simp only [Option.map_some, Function.comp, byteAt5, Int.toNat_natCast, UInt8.toNat_ofNat', Nat.mod_eq_of_lt (show b < 2 ^ 8 from hb)]
  · rw [List.getElem?_eq_none (by omega), List.getElem?_eq_none (by rw [byteCells_length, List.length_map]; omega)]

end Go.Proofs.YtdojalhaklkegaaDoor

namespace Go.Proofs.YtdojalhaklkegaaDoor
open Go.ChangeShapes Go.WideShapes Go.ChangeAt Go.RowKit
set_option linter.unusedVariables false
set_option maxRecDepth 100000

theorem cut_at {α : Type} (l : List α) (a n b : Nat) (h : a + n = b) : l.drop a = (l.drop a).take n ++ l.drop b := by
  rw [← h, ← List.drop_drop, List.take_append_drop]

/-- The cells of such structs. -/
def boxC (key nonce : List UInt8) (bv tv : Value) : List Value := Lib.byteCells key ++ (Lib.byteCells nonce ++ [bv, tv])
def pairC (a b key : List UInt8) : List Value := Lib.byteCells a ++ (Lib.byteCells b ++ Lib.byteCells key)
def layerC (key pre : List UInt8) (xv lv : Value) (size : Nat) : List Value := Lib.byteCells key ++ (Lib.byteCells pre ++ [xv, lv, .int .u16 (size : Int)])

theorem pair18_of_trod {H : Type} {enc : TypeId × Value → H} {W : World} {base : Nat} {v : Value} {d : DataW H} {p : List MemPlace} (hv : Value.okWide Tryd.prog W .any base 34 v)
    (h : DataW.Trod enc Tryd.prog W 0 (fun _ => true) true 34 v d p) :
    ∃ (a b key : List UInt8), v = .agg (pairC a b key).toArray ∧ a.length = 32 ∧ b.length = 32 ∧ key.length = 32 := by
  obtain ⟨cs, rfl, hsz⟩ := okWide_struct Tryd.underlying34 hv
  have hlen : cs.toList.length = 96 := hsz.trans (by kernel_rfl)
  obtain ⟨fuel, hf0⟩ := h
  obtain ⟨y0, hf⟩ : ∃ y, DataW.trod enc Tryd.prog W 0 (fun _ => true) true fuel 34 cs.toList = some y := ⟨(d, p), by simpa only [Value.cells] using hf0⟩
  have c32 : Tryd.prog.cellsOf 22 = 32 := by kernel_rfl
  obtain ⟨xs, n, _, _, _, hxl, hs⟩ := DataW.trod_struct Tryd.underlying34 hf
  obtain ⟨l, hlL⟩ : ∃ l, l = cs.toList := ⟨_, rfl⟩
  rw [← hlL] at hlen hs
  match xs, hxl with
  | [y0, y1, y2], _ =>
    have g0 : DataW.trod enc Tryd.prog W 0 (fun _ => true) true n 22 ((l.drop 0).take (Tryd.prog.cellsOf 22)) = some y0 := by simpa using hs 0 _ rfl
    have g1 : DataW.trod enc Tryd.prog W 0 (fun _ => true) true n 22 ((l.drop 32).take (Tryd.prog.cellsOf 22)) = some y1 := by simpa using hs 1 _ rfl
    have g2 : DataW.trod enc Tryd.prog W 0 (fun _ => true) true n 22 ((l.drop 64).take (Tryd.prog.cellsOf 22)) = some y2 := by simpa using hs 2 _ rfl
    rw [c32] at g0 g1 g2
    obtain ⟨a, ea, ha⟩ := bytes_of_trod5 Tryd.underlying22 c32 g0
    obtain ⟨b, eb, hb⟩ := bytes_of_trod5 Tryd.underlying22 c32 g1
    obtain ⟨key, ek, hk⟩ := bytes_of_trod5 Tryd.underlying22 c32 g2
    refine ⟨a, b, key, ?_, ha, hb, hk⟩
    have e1 := cut_at l 0 32 32 rfl
    have e2 := cut_at l 32 32 64 rfl
    rw [List.take_of_length_le (by rw [List.length_drop]; omega)] at ek
    rw [ea, List.drop_zero] at e1
    rw [eb, ek] at e2
    rw [e2] at e1
    congr 1
    apply Array.ext'
    rw [← hlL, e1]
    rfl

end Go.Proofs.YtdojalhaklkegaaDoor
