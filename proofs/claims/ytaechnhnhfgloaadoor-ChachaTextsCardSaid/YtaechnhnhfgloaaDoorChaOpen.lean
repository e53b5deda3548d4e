/-
  FROM AN orloplaw04.Ask's READING TO ITS KEY, NONCE, COUNTER AND TEXT: fields of many cells. Conditions: none.
-/
import Derived.Test.YtaechnhnhfgloaaDoorOpenAsk
import Derived.Test.YtaechnhnhfgloaaDoorChaAsk
namespace Go.Proofs.YtaechnhnhfgloaaDoor
open Go.ChangeShapes Go.WideShapes Go.ChangeAt Go.RowKit
set_option linter.unusedVariables false

def byteAt : Value → UInt8
  | .int _ k => UInt8.ofNat k.toNat
  | _ => 0

theorem bytes_of_trod {H : Type} {enc : TypeId × Value → H} {W : World} {fuel n : Nat} {T : TypeId} {cs : List Value} {y : DataW H × List MemPlace} (hT : Tryd.prog.underlying T = some (.array n 5)) (hc : Tryd.prog.cellsOf T = n)
    (h : DataW.trod enc Tryd.prog W 0 (fun _ => true) true fuel T cs = some y) : ∃ bs : List UInt8, cs = Lib.byteCells bs ∧ bs.length = n := by
  obtain ⟨xs, m, rfl, _, hl, hn, hi⟩ := DataW.trod_array hT h
  have c1 : Tryd.prog.cellsOf 5 = 1 := by kernel_rfl
  have hcell : ∀ i, i < n → ∃ b : Nat, b < 256 ∧ cs[i]? = some (.int .u8 (b : Int)) := by
    intro i hlt
    have g := hi i hlt
    rw [c1, Nat.mul_one] at g
    have hxi : i < xs.length := by omega
    rw [List.getElem?_eq_getElem hxi] at g
    obtain ⟨k, e1, _, wk⟩ := DataW.trod_int Tryd.underlying5 g
    have bk := bounds_u8 wk
    obtain ⟨j, rfl⟩ := Int.eq_ofNat_of_zero_le bk.1
    refine ⟨j, by omega, ?_⟩
    have e4 : (List.take 1 (List.drop i cs))[0]? = cs[i]? := by
      rw [List.getElem?_take_of_lt (by omega), List.getElem?_drop, Nat.add_zero]
    rw [← e4, e1]
    rfl
  refine ⟨cs.map byteAt, ?_, by rw [List.length_map]; omega⟩
  refine List.ext_getElem? fun i => ?_
  by_cases hlt : i < n
  · obtain ⟨b, hb, e⟩ := hcell i hlt
    rw [Lib.byteCells, List.map_map, List.getElem?_map, e]
    simp only [Option.map_some, Function.comp, byteAt, Int.toNat_natCast, UInt8.toNat_ofNat', Nat.mod_eq_of_lt (show b < 2 ^ 8 from hb)]
  · rw [List.getElem?_eq_none (by omega), List.getElem?_eq_none (by rw [byteCells_length, List.length_map]; omega)]

theorem ask_of_trod {H : Type} {enc : TypeId × Value → H} {W : World} {base : Nat} {v : Value} {d : DataW H} {p : List MemPlace} (hv : Value.okWide Tryd.prog W .any base 34 v)
    (h : DataW.Trod enc Tryd.prog W 0 (fun _ => true) true 34 v d p) :
    ∃ (key nonce : List UInt8) (c : UInt32) (tv : Value) (text : List UInt8), v = .agg (askC key nonce c tv).toArray ∧ key.length = 32 ∧ nonce.length = 12 ∧ IsB W tv text ∧ ∀ n c, tv = .slice none n c → c = 0 := by
  obtain ⟨cs, rfl, hsz⟩ := okWide_struct Tryd.underlying34 hv
  have hsz' : cs.toList.length = 46 := hsz.trans (by kernel_rfl)
  obtain ⟨fuel, hf⟩ := h
  obtain ⟨y0, y1, y2, y3, n, hx, hl, h0, h1, h2, h3⟩ := Joins.trod_struct4 Tryd.underlying34 hf
  obtain ⟨l, hlL⟩ : ∃ l, l = cs.toList := ⟨_, rfl⟩
  have c32 : Tryd.prog.cellsOf 31 = 32 := by kernel_rfl
  have c12 : Tryd.prog.cellsOf 32 = 12 := by kernel_rfl
  have cu : Tryd.prog.cellsOf 23 = 1 := by kernel_rfl
  have cb : Tryd.prog.cellsOf 22 = 1 := by kernel_rfl
  have g0 : DataW.trod enc Tryd.prog W 0 (fun _ => true) true n 31 ((cs.toList.drop 0).take (Tryd.prog.cellsOf 31)) = some y0 := by simpa only [Value.cells] using h0
  have g1 : DataW.trod enc Tryd.prog W 0 (fun _ => true) true n 32 ((cs.toList.drop 32).take (Tryd.prog.cellsOf 32)) = some y1 := by simpa only [Value.cells] using h1
  have g2 : DataW.trod enc Tryd.prog W 0 (fun _ => true) true n 23 ((cs.toList.drop 44).take (Tryd.prog.cellsOf 23)) = some y2 := by simpa only [Value.cells] using h2
  have g3 : DataW.trod enc Tryd.prog W 0 (fun _ => true) true n 22 ((cs.toList.drop 45).take (Tryd.prog.cellsOf 22)) = some y3 := by simpa only [Value.cells] using h3
  rw [c32, ← hlL] at g0
  rw [c12, ← hlL] at g1
  rw [cu, ← hlL] at g2
  rw [cb, ← hlL] at g3
  rw [← hlL] at hsz'
  obtain ⟨key, ek, hk⟩ := bytes_of_trod Tryd.underlying31 c32 g0
  obtain ⟨nonce, en, hn⟩ := bytes_of_trod Tryd.underlying32 c12 g1
  obtain ⟨x, ex, _, wx⟩ := DataW.trod_int Tryd.underlying23 g2
  have bx := bounds_u32 wx
  obtain ⟨j, rfl⟩ := Int.eq_ofNat_of_zero_le bx.1
  have hj : j < 4294967296 := by omega
  obtain ⟨tv, et⟩ : ∃ tv, (l.drop 45).take 1 = [tv] := List.length_eq_one_iff.1 (by rw [List.length_take, List.length_drop]; omega)
  rw [et] at g3
  obtain ⟨text, it, zt⟩ := isB_of_trod g3
  refine ⟨key, nonce, UInt32.ofNat j, tv, text, ?_, hk, hn, it, zt⟩
  have eu : (UInt32.ofNat j).toNat = j := by rw [UInt32.toNat_ofNat', Nat.mod_eq_of_lt hj]
  have e : l = askC key nonce (UInt32.ofNat j) tv := by
    rw [askC, eu, ← ek, ← en, show ([.int .u32 ((j : Nat) : Int), tv] : List Value) = [.int .u32 ((j : Nat) : Int)] ++ [tv] from rfl, ← et]
    rw [show ([.int .u32 ((j : Nat) : Int)] : List Value) = (l.drop 44).take 1 from ex.symm]
    refine List.ext_getElem? fun i => ?_
    rw [List.drop_zero]
    by_cases a : i < 32
    · rw [List.getElem?_append_left (by rw [List.length_take]; omega), List.getElem?_take_of_lt a]
    · rw [List.getElem?_append_right (by rw [List.length_take]; omega), List.length_take, Nat.min_eq_left (by omega)]
      by_cases b : i < 44
      · rw [List.getElem?_append_left (by rw [List.length_take, List.length_drop]; omega), List.getElem?_take_of_lt (by omega), List.getElem?_drop]
        congr 1
        omega
      · rw [List.getElem?_append_right (by rw [List.length_take, List.length_drop]; omega), List.length_take, List.length_drop, Nat.min_eq_left (by omega)]
        by_cases c : i < 45
        · rw [List.getElem?_append_left (by rw [List.length_take, List.length_drop]; omega), List.getElem?_take_of_lt (by omega), List.getElem?_drop]
          congr 1
          omega
        · rw [List.getElem?_append_right (by rw [List.length_take, List.length_drop]; omega), List.length_take, List.length_drop, Nat.min_eq_left (by omega)]
          by_cases f : i < 46
          · rw [List.getElem?_take_of_lt (by omega), List.getElem?_drop]
            congr 1
            omega
          · rw [List.getElem?_eq_none (by omega), List.getElem?_eq_none (by rw [List.length_take, List.length_drop]; omega)]
  rw [← e, hlL]

end Go.Proofs.YtaechnhnhfgloaaDoor
