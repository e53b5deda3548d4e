/-
  FROM THE READING OF AN ARRAY OF ARRAYS OF BYTES TO ITS BYTES; FROM A SLICE OF PAIRS' (a small number, a bool) TO ITS PAIRS. Conditions: none.
-/
import Derived.Test.YtmgbcollcfeolaaOpenArr
import Derived.Deep.SlicePairs
namespace Go.Proofs.Ytmgbcollcfeolaa
open Go.ChangeShapes Go.WideShapes Go.ChangeAt Go.RowKit
set_option linter.unusedVariables false

/-- The value is a slice of the pairs ds. -/
def IsDo (w : World) (v : Value) (ds : List (Nat × Bool)) : Prop := ∃ ao cap, v = .slice ao ds.length cap ∧ ds.length ≤ cap ∧ cap ≤ maxLen ∧
  (ds = [] ∨ ∃ b off, ao = some ⟨b, off, none⟩ ∧ ∀ i, i < ds.length → w.cell? ⟨b, off + i * 2, none⟩ = some (.int .u8 ((ds.getD i (0, false)).1 : Int)) ∧ w.cell? ⟨b, off + i * 2 + 1, none⟩ = some (.bool (ds.getD i (0, false)).2) ∧ (ds.getD i (0, false)).1 < 256)

theorem arr2_of_trod {H : Type} {enc : TypeId × Value → H} {W : World} {base n m : Nat} {T e : TypeId} {v : Value} {d : DataW H} {p : List MemPlace} (hT : Try.prog.underlying T = some (.array n e)) (hc : Try.prog.cellsOf T = n * m)
    (he : Try.prog.underlying e = some (.array m 5)) (hce : Try.prog.cellsOf e = m) (hm : 0 < m)
    (hv : Value.okWide Try.prog W .any base T v) (h : DataW.Trod enc Try.prog W 0 (fun _ => true) true T v d p) : ∃ bs : List UInt8, v = .agg (Lib.byteCells bs).toArray ∧ bs.length = n * m := by
  simp only [Value.okWide, hT] at hv
  obtain ⟨arr, rfl, h2, _⟩ := hv
  obtain ⟨fuel, hf⟩ := h
  obtain ⟨cs, hcs⟩ : ∃ cs, cs = arr.toList := ⟨_, rfl⟩
  have hf' : DataW.trod enc Try.prog W 0 (fun _ => true) true fuel T cs = some (d, p) := by rw [hcs]; simpa only [Value.cells] using hf
  obtain ⟨xs, k, _, _, hl, hn, hi⟩ := DataW.trod_array hT hf'
  have hlen : cs.length = n * m := by omega
  have hcell : ∀ j, j < n * m → ∃ b : Nat, b < 256 ∧ cs[j]? = some (.int .u8 (b : Int)) := by
    intro j hj
    have hjn : j / m < n := Nat.div_lt_of_lt_mul (by rw [Nat.mul_comm]; exact hj)
    have g := hi (j / m) hjn
    have hxi : j / m < xs.length := by omega
    rw [hce, List.getElem?_eq_getElem hxi] at g
    obtain ⟨bs, e1, hb⟩ := bytes_of_trod5 he hce g
    have hjm := Nat.mod_lt j hm
    have e2 : cs[j]? = (List.take m (List.drop (j / m * m) cs))[j % m]? := by
      rw [List.getElem?_take_of_lt hjm, List.getElem?_drop, Nat.div_add_mod']
    rw [e2, e1, byteCells_getElem? _ _ (by omega)]
    exact ⟨_, UInt8.toNat_lt _, rfl⟩
  refine ⟨cs.map byteAt5, ?_, by rw [List.length_map, hlen]⟩
  have e : cs = Lib.byteCells (cs.map byteAt5) := by
    refine List.ext_getElem? fun i => ?_
    by_cases hlt : i < n * m
    · obtain ⟨b, hb, e⟩ := hcell i hlt
      rw [Lib.byteCells, List.map_map, List.getElem?_map, e]
      simp only [Option.map_some, Function.comp, byteAt5, Int.toNat_natCast, UInt8.toNat_ofNat', Nat.mod_eq_of_lt (show b < 2 ^ 8 from hb)]
    · rw [List.getElem?_eq_none (by omega), List.getElem?_eq_none (by rw [byteCells_length, List.length_map]; omega)]
  rw [← e, hcs]

theorem do_of_trod {H : Type} {enc : TypeId × Value → H} {W : World} {base : Nat} {v : Value} {d : DataW H} {p : List MemPlace} (hv : Value.okWide Try.prog W .any base 43 v)
    (h : DataW.Trod enc Try.prog W 0 (fun _ => true) true 43 v d p) : ∃ ds, IsDo W v ds := by
  obtain ⟨a, len, cap, rfl⟩ := okWide_slice Try.underlying43 hv
  obtain ⟨fuel, hf⟩ := h
  rcases Deep.open_slice_pairs Try.underlying43 Try.underlying45 (by kernel_rfl) rfl rfl (by kernel_rfl) (by kernel_rfl) hf with ⟨hcs, _⟩ | ⟨x, l, c, m, n, V0, V1, D0, D1, P0, P1, hcs, _, hl, hm, hmm, _, hcell⟩
  · simp [Value.cells] at hcs
    obtain ⟨rfl, rfl, rfl⟩ := hcs
    exact ⟨[], none, 0, rfl, Nat.zero_le _, Nat.zero_le _, .inl rfl⟩
  · simp [Value.cells] at hcs
    obtain ⟨rfl, rfl, rfl⟩ := hcs
    have hlm : len ≤ m := by rw [hmm]; split <;> omega
    have each : ∀ i, i < len → ∃ q : Nat × Bool, W.cell? (x.add (i * 2)) = some (.int .u8 (q.1 : Int)) ∧ W.cell? (x.add (i * 2 + 1)) = some (.bool q.2) ∧ q.1 < 256 := by
      intro i hi
      obtain ⟨c0, c1, t0, t1⟩ := hcell i (by omega)
      obtain ⟨z, e0, _, wz⟩ := DataW.trod_int Try.underlying5 t0
      obtain ⟨b, e1, _⟩ := DataW.trod_bool Try.underlying4 t1
      have bz := bounds_u8 wz
      obtain ⟨j, rfl⟩ := Int.eq_ofNat_of_zero_le bz.1
      simp at e0 e1
      exact ⟨(j, b), by rw [c0, e0], by rw [c1, e1], by simp; omega⟩
    obtain ⟨f, hf'⟩ := Deep.choose_lt each
    refine ⟨(List.range len).map f, some x, cap, by simp, by simp; omega, hm, ?_⟩
    by_cases h0 : len = 0
    · exact .inl (by rw [h0]; rfl)
    · obtain ⟨b, off, spot⟩ := x
      have hc := (hf' 0 (by omega)).1
      have hspot : spot = none := by simpa [Addr.add] using World.cell?_spot hc
      subst hspot
      refine .inr ⟨b, off, rfl, fun i hi => ?_⟩
      have hi' : i < len := by simpa using hi
      have e : ((List.range len).map f).getD i (0, false) = f i := by simp [List.getD_eq_getElem?_getD, hi']
      rw [e]
      obtain ⟨g0, g1, g2⟩ := hf' i hi'
      rw [Addr.add_lit] at g0 g1
      exact ⟨g0, by rw [← g1, Nat.add_assoc], g2⟩

end Go.Proofs.Ytmgbcollcfeolaa
