/-
  FROM A STRUCT'S FIELDS' READINGS TO 'IsB' AND TO AN INTEGER: fields of one cell each. Conditions: none.
  FROM AN ARRAY ARGUMENT'S READING TO ITS BYTES. Conditions: none.
  FROM THE READING OF orloptop's Box, Pair AND Layer BY VALUE, AND OF TWO BYTES, TO THEIR FIELDS. Conditions: none.
-/
import Derived.Test.YtdojalhaklkegaaDoorOpen
import Derived.Lib.SmallJoins
import Derived.ShutString
import Derived.ChangeOld
import Derived.Deep.Slices

namespace Go.Proofs.YtdojalhaklkegaaDoor
open Go.ChangeShapes Go.WideShapes Go.ChangeAt Go.RowKit
set_option linter.unusedVariables false

theorem isB_of_trod {H : Type} {enc : TypeId × Value → H} {W : World} {fuel : Nat} {v : Value} {y : DataW H × List MemPlace} (h : DataW.trod enc Tryd.prog W 0 (fun _ => true) true fuel 24 [v] = some y) :
    ∃ bs, IsB W v bs ∧ ∀ n c, v = .slice none n c → c = 0 := by
  rcases open_ints Tryd.underlying24 Tryd.underlying5 (by kernel_rfl) h with ⟨hcs, _⟩ | ⟨x, l, c, zs, hcs, _, hl, hm, hz, _, hcell, hwz⟩
  · simp at hcs
    subst hcs
    exact ⟨[], IsB.nil W, fun n c h => by cases h; rfl⟩
  · simp at hcs
    subst hcs
    obtain ⟨bs, _, hb⟩ := isB_of_ints hl hm (by simpa using hz) hcell hwz
    exact ⟨bs, hb, fun n c h => by cases h⟩

theorem int_of_trod {H : Type} {enc : TypeId × Value → H} {W : World} {fuel : Nat} {v : Value} {y : DataW H × List MemPlace} (h : DataW.trod enc Tryd.prog W 0 (fun _ => true) true fuel 3 [v] = some y) :
    ∃ n : Int, v = .int .i64 n ∧ (Lit.int .i64 n).wf = true := by
  obtain ⟨x, e0, _, wx⟩ := DataW.trod_int Tryd.underlying3 h
  simp at e0
  exact ⟨x, e0, wx⟩

end Go.Proofs.YtdojalhaklkegaaDoor

set_option maxRecDepth 100000
namespace Go.Proofs.YtdojalhaklkegaaDoor
open Go.ChangeShapes Go.WideShapes Go.ChangeAt Go.RowKit
set_option linter.unusedVariables false

def byteAt5 : Value → UInt8
  | .int _ k => UInt8.ofNat k.toNat
  | _ => 0

theorem bytes_of_trod5 {H : Type} {enc : TypeId × Value → H} {W : World} {fuel n : Nat} {T : TypeId} {cs : List Value} {y : DataW H × List MemPlace} (hT : Tryd.prog.underlying T = some (.array n 5)) (hc : Tryd.prog.cellsOf T = n)
    (h : DataW.trod enc Tryd.prog W 0 (fun _ => true) true fuel T cs = some y) : ∃ bs : List UInt8, cs = Lib.byteCells bs ∧ bs.length = n := by
  obtain ⟨xs, m, rfl, _, hl, hn, hi⟩ := DataW.trod_array hT h
  have c1 : Tryd.prog.cellsOf 5 = 1 := by kernel_rfl
  have hcell : ∀ i, i < n → ∃ b : Nat, b < 256 ∧ cs[i]? = some (.int .u8 (b : Int)) := by
    intro i hlt
    have g := hi i hlt
    rw [c1, Nat.mul_one] at g
    have hxi : i < xs.length := by omega
    rw [List.getElem?_eq_getElem hxi] at g
    obtain ⟨k, e1, _, wk⟩ := DataW.trod_int Tryd.underlying5 g
    have bk := bounds_u8 wk
    obtain ⟨j, rfl⟩ := Int.eq_ofNat_of_zero_le bk.1
    refine ⟨j, by omega, ?_⟩
    have e4 : (List.take 1 (List.drop i cs))[0]? = cs[i]? := by
      rw [List.getElem?_take_of_lt (by omega), List.getElem?_drop, Nat.add_zero]
    rw [← e4, e1]
    rfl
  refine ⟨cs.map byteAt5, ?_, by rw [List.length_map]; omega⟩
  refine List.ext_getElem? fun i => ?_
  by_cases hlt : i < n
  · obtain ⟨b, hb, e⟩ := hcell i hlt
    rw [Lib.byteCells, List.map_map, List.getElem?_map, e]
    simp only [Option.map_some, Function.comp, byteAt5, Int.toNat_natCast, UInt8.toNat_ofNat', Nat.mod_eq_of_lt (show b < 2 ^ 8 from hb)]
  · rw [List.getElem?_eq_none (by omega), List.getElem?_eq_none (by rw [byteCells_length, List.length_map]; omega)]

theorem arr_of_trod {H : Type} {enc : TypeId × Value → H} {W : World} {base n : Nat} {T : TypeId} {v : Value} {d : DataW H} {p : List MemPlace} (hT : Tryd.prog.underlying T = some (.array n 5)) (hc : Tryd.prog.cellsOf T = n)
    (hv : Value.okWide Tryd.prog W .any base T v) (h : DataW.Trod enc Tryd.prog W 0 (fun _ => true) true T v d p) : ∃ bs : List UInt8, v = .agg (Lib.byteCells bs).toArray ∧ bs.length = n := by
  simp only [Value.okWide, hT] at hv
  obtain ⟨cs, rfl, h2, _⟩ := hv
  obtain ⟨fuel, hf⟩ := h
  obtain ⟨bs, e, hl⟩ := bytes_of_trod5 hT hc (by simpa only [Value.cells] using hf)
  exact ⟨bs, by rw [← e], hl⟩

end Go.Proofs.YtdojalhaklkegaaDoor

namespace Go.Proofs.YtdojalhaklkegaaDoor
open Go.ChangeShapes Go.WideShapes Go.ChangeAt Go.RowKit
set_option linter.unusedVariables false
set_option maxRecDepth 100000

theorem cut_at {α : Type} (l : List α) (a n b : Nat) (h : a + n = b) : l.drop a = (l.drop a).take n ++ l.drop b := by
  rw [← h, ← List.drop_drop, List.take_append_drop]

theorem one_left {α : Type} (l : List α) (a n : Nat) (h : l.length = n) (ha : a + 1 = n) : ∃ x, l.drop a = [x] :=
  List.length_eq_one_iff.1 (by rw [List.length_drop]; omega)

theorem one_at {α : Type} (l : List α) (a n : Nat) (h : l.length = n) (ha : a < n) : ∃ x, (l.drop a).take 1 = [x] :=
  List.length_eq_one_iff.1 (by rw [List.length_take, List.length_drop]; omega)

/-- The cells of such structs. -/
def boxC (key nonce : List UInt8) (bv tv : Value) : List Value := Lib.byteCells key ++ (Lib.byteCells nonce ++ [bv, tv])
def pairC (a b key : List UInt8) : List Value := Lib.byteCells a ++ (Lib.byteCells b ++ Lib.byteCells key)
def layerC (key pre : List UInt8) (xv lv : Value) (size : Nat) : List Value := Lib.byteCells key ++ (Lib.byteCells pre ++ [xv, lv, .int .u16 (size : Int)])

theorem box18_of_trod {H : Type} {enc : TypeId × Value → H} {W : World} {base : Nat} {v : Value} {d : DataW H} {p : List MemPlace} (hv : Value.okWide Tryd.prog W .any base 26 v)
    (h : DataW.Trod enc Tryd.prog W 0 (fun _ => true) true 26 v d p) :
    ∃ (key nonce : List UInt8) (bv tv : Value) (beside text : List UInt8), v = .agg (boxC key nonce bv tv).toArray ∧ key.length = 32 ∧ nonce.length = 12 ∧ IsB W bv beside ∧ IsB W tv text ∧ (∀ n c, bv = .slice none n c → c = 0) ∧ ∀ n c, tv = .slice none n c → c = 0 := by
  obtain ⟨cs, rfl, hsz⟩ := okWide_struct Tryd.underlying26 hv
  have hlen : cs.toList.length = 46 := hsz.trans (by kernel_rfl)
  obtain ⟨fuel, hf⟩ := h
  obtain ⟨y0, y1, y2, y3, n, hx, hl, h0, h1, h2, h3⟩ := Joins.trod_struct4 Tryd.underlying26 hf
  have c32 : Tryd.prog.cellsOf 22 = 32 := by kernel_rfl
  have c12 : Tryd.prog.cellsOf 23 = 12 := by kernel_rfl
  have cb : Tryd.prog.cellsOf 24 = 1 := by kernel_rfl
  obtain ⟨l, hlL⟩ : ∃ l, l = cs.toList := ⟨_, rfl⟩
  have g0 : DataW.trod enc Tryd.prog W 0 (fun _ => true) true n 22 ((cs.toList.drop 0).take (Tryd.prog.cellsOf 22)) = some y0 := by simpa only [Value.cells] using h0
  have g1 : DataW.trod enc Tryd.prog W 0 (fun _ => true) true n 23 ((cs.toList.drop 32).take (Tryd.prog.cellsOf 23)) = some y1 := by simpa only [Value.cells] using h1
  have g2 : DataW.trod enc Tryd.prog W 0 (fun _ => true) true n 24 ((cs.toList.drop 44).take (Tryd.prog.cellsOf 24)) = some y2 := by simpa only [Value.cells] using h2
  have g3 : DataW.trod enc Tryd.prog W 0 (fun _ => true) true n 24 ((cs.toList.drop 45).take (Tryd.prog.cellsOf 24)) = some y3 := by simpa only [Value.cells] using h3
  rw [c32, ← hlL] at g0
  rw [c12, ← hlL] at g1
  rw [cb, ← hlL] at g2
  rw [cb, ← hlL] at g3
  rw [← hlL] at hlen
  obtain ⟨key, ek, hk⟩ := bytes_of_trod5 Tryd.underlying22 c32 g0
  obtain ⟨nonce, en, hn⟩ := bytes_of_trod5 Tryd.underlying23 c12 g1
  obtain ⟨bv, eb⟩ := one_at l 44 46 hlen (by decide)
  obtain ⟨tv, et⟩ := one_left l 45 46 hlen (by decide)
  rw [eb] at g2
  rw [et, List.take_of_length_le (by simp)] at g3
  obtain ⟨beside, ib, zb⟩ := isB_of_trod g2
  obtain ⟨text, it, zt⟩ := isB_of_trod g3
  refine ⟨key, nonce, bv, tv, beside, text, ?_, hk, hn, ib, it, zb, zt⟩
  have e1 := cut_at l 0 32 32 rfl
  have e2 := cut_at l 32 12 44 rfl
  have e3 := cut_at l 44 1 45 rfl
  rw [ek, List.drop_zero] at e1
  rw [en] at e2
  rw [eb, et] at e3
  rw [e3] at e2
  rw [e2] at e1
  congr 1
  apply Array.ext'
  rw [← hlL, e1]
  rfl

theorem pair18_of_trod {H : Type} {enc : TypeId × Value → H} {W : World} {base : Nat} {v : Value} {d : DataW H} {p : List MemPlace} (hv : Value.okWide Tryd.prog W .any base 34 v)
    (h : DataW.Trod enc Tryd.prog W 0 (fun _ => true) true 34 v d p) :
    ∃ (a b key : List UInt8), v = .agg (pairC a b key).toArray ∧ a.length = 32 ∧ b.length = 32 ∧ key.length = 32 := by
  obtain ⟨cs, rfl, hsz⟩ := okWide_struct Tryd.underlying34 hv
  have hlen : cs.toList.length = 96 := hsz.trans (by kernel_rfl)
  obtain ⟨fuel, hf0⟩ := h
  obtain ⟨y0, hf⟩ : ∃ y, DataW.trod enc Tryd.prog W 0 (fun _ => true) true fuel 34 cs.toList = some y := ⟨(d, p), by simpa only [Value.cells] using hf0⟩
  have c32 : Tryd.prog.cellsOf 22 = 32 := by kernel_rfl
  obtain ⟨xs, n, _, _, _, hxl, hs⟩ := DataW.trod_struct Tryd.underlying34 hf
  obtain ⟨l, hlL⟩ : ∃ l, l = cs.toList := ⟨_, rfl⟩
  rw [← hlL] at hlen hs
  match xs, hxl with
  | [y0, y1, y2], _ =>
    have g0 : DataW.trod enc Tryd.prog W 0 (fun _ => true) true n 22 ((l.drop 0).take (Tryd.prog.cellsOf 22)) = some y0 := by simpa using hs 0 _ rfl
    have g1 : DataW.trod enc Tryd.prog W 0 (fun _ => true) true n 22 ((l.drop 32).take (Tryd.prog.cellsOf 22)) = some y1 := by simpa using hs 1 _ rfl
    have g2 : DataW.trod enc Tryd.prog W 0 (fun _ => true) true n 22 ((l.drop 64).take (Tryd.prog.cellsOf 22)) = some y2 := by simpa using hs 2 _ rfl
    rw [c32] at g0 g1 g2
    obtain ⟨a, ea, ha⟩ := bytes_of_trod5 Tryd.underlying22 c32 g0
    obtain ⟨b, eb, hb⟩ := bytes_of_trod5 Tryd.underlying22 c32 g1
    obtain ⟨key, ek, hk⟩ := bytes_of_trod5 Tryd.underlying22 c32 g2
    refine ⟨a, b, key, ?_, ha, hb, hk⟩
    have e1 := cut_at l 0 32 32 rfl
    have e2 := cut_at l 32 32 64 rfl
    rw [List.take_of_length_le (by rw [List.length_drop]; omega)] at ek
    rw [ea, List.drop_zero] at e1
    rw [eb, ek] at e2
    rw [e2] at e1
    congr 1
    apply Array.ext'
    rw [← hlL, e1]
    rfl

theorem layer18_of_trod {H : Type} {enc : TypeId × Value → H} {W : World} {base : Nat} {v : Value} {d : DataW H} {p : List MemPlace} (hv : Value.okWide Tryd.prog W .any base 46 v)
    (h : DataW.Trod enc Tryd.prog W 0 (fun _ => true) true 46 v d p) :
    ∃ (key pre : List UInt8) (xv lv : Value) (ctx layer : List UInt8) (size : Nat), v = .agg (layerC key pre xv lv size).toArray ∧ key.length = 32 ∧ pre.length = 7 ∧ IsB W xv ctx ∧ IsB W lv layer ∧ size < 65536 ∧ (∀ n c, xv = .slice none n c → c = 0) ∧ ∀ n c, lv = .slice none n c → c = 0 := by
  obtain ⟨cs, rfl, hsz⟩ := okWide_struct Tryd.underlying46 hv
  have hlen : cs.toList.length = 42 := hsz.trans (by kernel_rfl)
  obtain ⟨fuel, hf0⟩ := h
  obtain ⟨y0, hf⟩ : ∃ y, DataW.trod enc Tryd.prog W 0 (fun _ => true) true fuel 46 cs.toList = some y := ⟨(d, p), by simpa only [Value.cells] using hf0⟩
  have c32 : Tryd.prog.cellsOf 22 = 32 := by kernel_rfl
  have c7 : Tryd.prog.cellsOf 43 = 7 := by kernel_rfl
  have cb : Tryd.prog.cellsOf 24 = 1 := by kernel_rfl
  have cu : Tryd.prog.cellsOf 44 = 1 := by kernel_rfl
  obtain ⟨xs, n, _, _, _, hxl, hs⟩ := DataW.trod_struct Tryd.underlying46 hf
  obtain ⟨l, hlL⟩ : ∃ l, l = cs.toList := ⟨_, rfl⟩
  rw [← hlL] at hlen hs
  match xs, hxl with
  | [y0, y1, y2, y3, y4], _ =>
    have g0 : DataW.trod enc Tryd.prog W 0 (fun _ => true) true n 22 ((l.drop 0).take (Tryd.prog.cellsOf 22)) = some y0 := by simpa using hs 0 _ rfl
    have g1 : DataW.trod enc Tryd.prog W 0 (fun _ => true) true n 43 ((l.drop 32).take (Tryd.prog.cellsOf 43)) = some y1 := by simpa using hs 1 _ rfl
    have g2 : DataW.trod enc Tryd.prog W 0 (fun _ => true) true n 24 ((l.drop 39).take (Tryd.prog.cellsOf 24)) = some y2 := by simpa using hs 2 _ rfl
    have g3 : DataW.trod enc Tryd.prog W 0 (fun _ => true) true n 24 ((l.drop 40).take (Tryd.prog.cellsOf 24)) = some y3 := by simpa using hs 3 _ rfl
    have g4 : DataW.trod enc Tryd.prog W 0 (fun _ => true) true n 44 ((l.drop 41).take (Tryd.prog.cellsOf 44)) = some y4 := by simpa using hs 4 _ rfl
    rw [c32] at g0
    rw [c7] at g1
    rw [cb] at g2 g3
    rw [cu] at g4
    obtain ⟨key, ek, hk⟩ := bytes_of_trod5 Tryd.underlying22 c32 g0
    obtain ⟨pre, ep, hp⟩ := bytes_of_trod5 Tryd.underlying43 c7 g1
    obtain ⟨xv, ex⟩ := one_at l 39 42 hlen (by decide)
    obtain ⟨lv, el⟩ := one_at l 40 42 hlen (by decide)
    obtain ⟨sv, es⟩ := one_left l 41 42 hlen (by decide)
    rw [ex] at g2
    rw [el] at g3
    rw [es, List.take_of_length_le (by simp)] at g4
    obtain ⟨ctx, ic, zc⟩ := isB_of_trod g2
    obtain ⟨layer, il, zl⟩ := isB_of_trod g3
    obtain ⟨x4, e4, _, w4⟩ := DataW.trod_int Tryd.underlying44 g4
    simp at e4
    subst e4
    have b4 := bounds_u16 w4
    obtain ⟨n4, rfl⟩ := Int.eq_ofNat_of_zero_le b4.1
    refine ⟨key, pre, xv, lv, ctx, layer, n4, ?_, hk, hp, ic, il, by omega, zc, zl⟩
    have e1 := cut_at l 0 32 32 rfl
    have e2 := cut_at l 32 7 39 rfl
    have e3 := cut_at l 39 1 40 rfl
    have e5 := cut_at l 40 1 41 rfl
    rw [ek, List.drop_zero] at e1
    rw [ep] at e2
    rw [ex] at e3
    rw [el, es] at e5
    rw [e5] at e3
    rw [e3] at e2
    rw [e2] at e1
    congr 1
    apply Array.ext'
    rw [← hlL, e1]
    rfl

theorem two8_of_trod {H : Type} {enc : TypeId × Value → H} {W : World} {base : Nat} {v : Value} {d : DataW H} {p : List MemPlace} (hv : Value.okWide Tryd.prog W .any base 49 v)
    (h : DataW.Trod enc Tryd.prog W 0 (fun _ => true) true 49 v d p) : ∃ a b : Nat, v = .agg #[.int .u8 (a : Int), .int .u8 (b : Int)] ∧ a < 256 ∧ b < 256 := by
  obtain ⟨bs, rfl, hl⟩ := arr_of_trod (n := 2) Tryd.underlying49 (by kernel_rfl) hv h
  match bs, hl with
  | [a, b], _ => exact ⟨a.toNat, b.toNat, rfl, a.toNat_lt, b.toNat_lt⟩

end Go.Proofs.YtdojalhaklkegaaDoor
