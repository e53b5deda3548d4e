/-
  FROM THE READING OF orloplaw17.Ask AND orloplaw17.Cut BY VALUE TO THEIR FIELDS. Conditions: none.
-/
import Derived.Test.YtdojalhaklkegaaOpenAsk
import Derived.Deep.Slices
namespace Go.Proofs.Ytdojalhaklkegaa
open Go.ChangeShapes Go.WideShapes Go.ChangeAt Go.RowKit
set_option linter.unusedVariables false
set_option maxRecDepth 100000

theorem ask17_of_trod {H : Type} {enc : TypeId × Value → H} {W : World} {base : Nat} {v : Value} {d : DataW H} {p : List MemPlace} (hv : Value.okWide Try.prog W .any base 24 v)
    (h : DataW.Trod enc Try.prog W 0 (fun _ => true) true 24 v d p) :
    ∃ (kv pv xv lv : Value) (n : Int) (key pre ctx layer : List UInt8), v = .agg #[kv, pv, xv, lv, .int .i64 n] ∧ (Lit.int .i64 n).wf = true ∧ IsB W kv key ∧ IsB W pv pre ∧ IsB W xv ctx ∧ IsB W lv layer ∧ ∀ n c, xv = .slice none n c → c = 0 := by
  obtain ⟨cs, rfl, hsz⟩ := okWide_struct Try.underlying24 hv
  have hlen : cs.toList.length = 5 := hsz.trans (by kernel_rfl)
  obtain ⟨fuel, hf0⟩ := h
  obtain ⟨y0, hf⟩ : ∃ y, DataW.trod enc Try.prog W 0 (fun _ => true) true fuel 24 cs.toList = some y := ⟨(d, p), by simpa only [Value.cells] using hf0⟩
  have ci : Try.prog.cellsOf 3 = 1 := by kernel_rfl
  have cb : Try.prog.cellsOf 22 = 1 := by kernel_rfl
  obtain ⟨xs, k, _, _, _, hxl, hs⟩ := DataW.trod_struct Try.underlying24 hf
  obtain ⟨l, hl⟩ : ∃ l, l = cs.toList := ⟨_, rfl⟩
  rw [← hl] at hlen hs
  match xs, hxl, l, hlen with
  | [y0, y1, y2, y3, y4], _, [v0, v1, v2, v3, v4], _ =>
    have g0 := hs 0 _ rfl
    have g1 := hs 1 _ rfl
    have g2 := hs 2 _ rfl
    have g3 := hs 3 _ rfl
    have g4 := hs 4 _ rfl
    simp [ci, cb] at g0 g1 g2 g3 g4
    obtain ⟨b0, i0, _⟩ := isB_of_trod g0
    obtain ⟨b1, i1, _⟩ := isB_of_trod g1
    obtain ⟨b2, i2, z2⟩ := isB_of_trod g2
    obtain ⟨b3, i3, _⟩ := isB_of_trod g3
    obtain ⟨n4, rfl, w4⟩ := int_of_trod g4
    refine ⟨v0, v1, v2, v3, n4, b0, b1, b2, b3, ?_, w4, i0, i1, i2, i3, z2⟩
    congr 1
    apply Array.ext'
    rw [← hl]

theorem cut17_of_trod {H : Type} {enc : TypeId × Value → H} {W : World} {base : Nat} {v : Value} {d : DataW H} {p : List MemPlace} (hv : Value.okWide Try.prog W .any base 27 v)
    (h : DataW.Trod enc Try.prog W 0 (fun _ => true) true 27 v d p) :
    ∃ ck ca cb : Nat, v = .agg #[.int .u8 (ck : Int), .int .u16 (ca : Int), .int .u8 (cb : Int)] ∧ ck < 256 ∧ ca < 65536 ∧ cb < 256 := by
  obtain ⟨cs, rfl, hsz⟩ := okWide_struct Try.underlying27 hv
  have hlen : cs.toList.length = 3 := hsz.trans (by kernel_rfl)
  obtain ⟨fuel, hf0⟩ := h
  obtain ⟨y0, hf⟩ : ∃ y, DataW.trod enc Try.prog W 0 (fun _ => true) true fuel 27 cs.toList = some y := ⟨(d, p), by simpa only [Value.cells] using hf0⟩
  have ci : Try.prog.cellsOf 5 = 1 := by kernel_rfl
  have cu : Try.prog.cellsOf 25 = 1 := by kernel_rfl
  obtain ⟨xs, k, _, _, _, hxl, hs⟩ := DataW.trod_struct Try.underlying27 hf
  obtain ⟨l, hl⟩ : ∃ l, l = cs.toList := ⟨_, rfl⟩
  rw [← hl] at hlen hs
  match xs, hxl, l, hlen with
  | [y0, y1, y2], _, [v0, v1, v2], _ =>
    have g0 := hs 0 _ rfl
    have g1 := hs 1 _ rfl
    have g2 := hs 2 _ rfl
    simp [ci, cu] at g0 g1 g2
    obtain ⟨x0, e0, _, w0⟩ := DataW.trod_int Try.underlying5 g0
    obtain ⟨x1, e1, _, w1⟩ := DataW.trod_int Try.underlying25 g1
    obtain ⟨x2, e2, _, w2⟩ := DataW.trod_int Try.underlying5 g2
    simp at e0 e1 e2
    subst e0 e1 e2
    have b0 := bounds_u8 w0
    have b1 := bounds_u16 w1
    have b2 := bounds_u8 w2
    obtain ⟨n0, rfl⟩ := Int.eq_ofNat_of_zero_le b0.1
    obtain ⟨n1, rfl⟩ := Int.eq_ofNat_of_zero_le b1.1
    obtain ⟨n2, rfl⟩ := Int.eq_ofNat_of_zero_le b2.1
    refine ⟨n0, n1, n2, ?_, by omega, by omega, by omega⟩
    congr 1
    apply Array.ext'
    rw [← hl]

end Go.Proofs.Ytdojalhaklkegaa
