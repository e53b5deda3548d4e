/-
  FROM THE READING OF A TRANSACTION BY VALUE (orloplaw10.Tx), AND OF A SLICE OF THEM, TO 'TxCells' AND 'IsTxs'. Conditions: none.
-/
import Derived.Test.YtlglkiknpbfnmaaDoorOpenAsk
import Derived.Test.YtlglkiknpbfnmaaDoorOpenSteps
import Derived.Test.YtlglkiknpbfnmaaDoorWalMem
import Derived.Deep.Slices
namespace Go.Proofs.YtlglkiknpbfnmaaDoor
open Go.ChangeShapes Go.WideShapes Go.ChangeAt Go.RowKit
set_option linter.unusedVariables false
set_option maxRecDepth 100000

theorem intsT_of_trod {H : Type} {enc : TypeId × Value → H} {W : World} {fuel : Nat} {v : Value} {y : DataW H × List MemPlace} (h : DataW.trod enc Tryd.prog W 0 (fun _ => true) true fuel 33 [v] = some y) :
    ∃ ks, IsInts W v ks := by
  rcases Deep.open_slice1 Tryd.underlying33 (by kernel_rfl) h with ⟨hcs, _⟩ | ⟨x, l, c, m, n, V, D, Pl, hcs, _, hl, hm, hmm, _, hcell⟩
  · simp at hcs
    subst hcs
    exact ⟨[], none, 0, rfl, Nat.le_refl _, Nat.zero_le _, fun i hi => (by cases hi), .inl rfl⟩
  · simp at hcs
    subst hcs
    have hlm : l ≤ m := by rw [hmm]; split <;> omega
    have each : ∀ i, i < l → ∃ q : Int, W.cell? (x.add i) = some (.int .i64 q) ∧ -9223372036854775808 ≤ q ∧ q < 9223372036854775808 := by
      intro i hi
      obtain ⟨c0, t0⟩ := hcell i (by omega)
      obtain ⟨b, e0, _, wb⟩ := DataW.trod_int Tryd.underlying3 t0
      simp at e0
      have := bounds_i64 wb
      exact ⟨b, by rw [c0, e0], by omega, by omega⟩
    obtain ⟨f, hf⟩ := Deep.choose_lt each
    have eg : ∀ i, i < l → ((List.range l).map f).getD i 0 = f i := fun i hi => by simp [List.getD_eq_getElem?_getD, hi]
    refine ⟨(List.range l).map f, some x, c, by simp, by simp; omega, hm, fun i hi => ?_, ?_⟩
    · have hi' : i < l := by simpa using hi
      rw [eg i hi']
      exact (hf i hi').2
    · by_cases h0 : l = 0
      · exact .inl (by rw [h0]; rfl)
      · obtain ⟨b, off, spot⟩ := x
        have hspot : spot = none := by simpa [Addr.add] using World.cell?_spot (hf 0 (by omega)).1
        subst hspot
        refine .inr ⟨b, off, rfl, fun i hi => ?_⟩
        have hi' : i < l := by simpa using hi
        rw [eg i hi']
        have := (hf i hi').1
        rwa [Addr.add_lit] at this

/-- The cells of a transaction, as the reading of its struct has them. -/
theorem cells_of_trod {H : Type} {enc : TypeId × Value → H} {W : World} {fuel : Nat} {cs : List Value} {y : DataW H × List MemPlace} (hlen : cs.length = 6) (h : DataW.trod enc Tryd.prog W 0 (fun _ => true) true fuel 37 cs = some y) :
    ∃ t, TxCells W cs t := by
  have ci : Tryd.prog.cellsOf 3 = 1 := by kernel_rfl
  have ck : Tryd.prog.cellsOf 33 = 1 := by kernel_rfl
  have cb : Tryd.prog.cellsOf 34 = 1 := by kernel_rfl
  have cz : Tryd.prog.cellsOf 35 = 1 := by kernel_rfl
  obtain ⟨xs, k, _, _, _, hxl, hs⟩ := DataW.trod_struct Tryd.underlying37 h
  match xs, hxl, cs, hlen with
  | [y0, y1, y2, y3, y4, y5], _, [v0, v1, v2, v3, v4, v5], _ =>
    have g0 := hs 0 _ rfl
    have g1 := hs 1 _ rfl
    have g2 := hs 2 _ rfl
    have g3 := hs 3 _ rfl
    have g4 := hs 4 _ rfl
    have g5 := hs 5 _ rfl
    simp [ci, ck, cb, cz] at g0 g1 g2 g3 g4 g5
    obtain ⟨ks, ik⟩ := intsT_of_trod g0
    obtain ⟨bs, ib, _⟩ := isB_of_trod g1
    obtain ⟨n2, rfl, w2⟩ := int_of_trod g2
    obtain ⟨k3, i3⟩ := z_of_trod g3
    obtain ⟨n4, rfl, w4⟩ := int_of_trod g4
    obtain ⟨k5, i5⟩ := z_of_trod g5
    obtain ⟨ko, kc, rfl, ik1⟩ := ik
    obtain ⟨bo, bc, rfl, ib1⟩ := ib
    obtain ⟨zo, zc, rfl, iz1⟩ := i3
    obtain ⟨qo, qc, rfl, iq1⟩ := i5
    have b2 := bounds_i64 w2
    have b4 := bounds_i64 w4
    have r2 : -9223372036854775808 ≤ n2 ∧ n2 < 9223372036854775808 := by omega
    have r4 : -9223372036854775808 ≤ n4 ∧ n4 < 9223372036854775808 := by omega
    exact ⟨⟨ks, bs, n2, k3, n4, k5⟩, ko, kc, bo, bc, zo, zc, qo, qc, rfl, ⟨ko, kc, rfl, ik1⟩, ⟨bo, bc, rfl, ib1⟩, ⟨zo, zc, rfl, iz1⟩, ⟨qo, qc, rfl, iq1⟩, r2, r4⟩

theorem tx_of_trod {H : Type} {enc : TypeId × Value → H} {W : World} {base : Nat} {v : Value} {d : DataW H} {p : List MemPlace} (hv : Value.okWide Tryd.prog W .any base 37 v)
    (h : DataW.Trod enc Tryd.prog W 0 (fun _ => true) true 37 v d p) : ∃ cs t, v = .agg cs.toArray ∧ TxCells W cs t := by
  obtain ⟨cs, rfl, hsz⟩ := okWide_struct Tryd.underlying37 hv
  have hsz' : cs.toList.length = 6 := hsz.trans (by kernel_rfl)
  obtain ⟨fuel, hf⟩ := h
  obtain ⟨t, ht⟩ := cells_of_trod hsz' (by simpa only [Value.cells] using hf)
  exact ⟨cs.toList, t, by rw [Array.toArray_toList], ht⟩

theorem txs_of_trod {H : Type} {enc : TypeId × Value → H} {W : World} {base : Nat} {v : Value} {d : DataW H} {p : List MemPlace} (hv : Value.okWide Tryd.prog W .any base 22 v)
    (h : DataW.Trod enc Tryd.prog W 0 (fun _ => true) true 22 v d p) : ∃ l, IsTxs W v l := by
  obtain ⟨a, len, cap, rfl⟩ := okWide_slice Tryd.underlying22 hv
  obtain ⟨fuel, hf⟩ := h
  rcases Deep.open_slice Tryd.underlying22 hf with ⟨hcs, _⟩ | ⟨x, l, c, m, n, D, Pl, hcs, _, hl, hm, hmm, _, hx⟩
  · simp [Value.cells] at hcs
    obtain ⟨rfl, rfl, rfl⟩ := hcs
    exact ⟨[], none, 0, rfl, Nat.zero_le _, Nat.zero_le _, .inl rfl⟩
  · simp [Value.cells] at hcs
    obtain ⟨rfl, rfl, rfl⟩ := hcs
    have hlm : len ≤ m := by rw [hmm]; split <;> omega
    have ce : Tryd.prog.cellsOf 37 = 6 := by kernel_rfl
    simp only [ce] at hx
    obtain ⟨b, off, spot⟩ := x
    by_cases h0 : len = 0
    · subst h0
      exact ⟨[], _, cap, rfl, Nat.zero_le _, hm, .inl rfl⟩
    · have hspot : spot = none := by
        obtain ⟨cs', h1, _⟩ := hx 0 (by omega)
        obtain ⟨_, hlen, hcell⟩ := World.cells?_some h1
        have q := hcell 0 (by omega)
        rw [List.getElem?_eq_getElem (show 0 < cs'.length by omega)] at q
        simpa [Addr.add] using World.cell?_spot q
      subst hspot
      have each : ∀ i, i < len → ∃ t cs, TxCells W cs t ∧ ∀ j, j < 6 → W.cell? ⟨b, off + i * 6 + j, none⟩ = some (cs.getD j undef) := by
        intro i hi
        obtain ⟨cs', h1, h2⟩ := hx i (by omega)
        obtain ⟨_, hlen, hcell⟩ := World.cells?_some h1
        obtain ⟨t, ht⟩ := cells_of_trod hlen h2
        refine ⟨t, cs', ht, fun j hj => ?_⟩
        have e := hcell j (by omega)
        rw [Addr.add_lit, Addr.add_lit] at e
        rw [List.getElem?_eq_getElem (by omega)] at e
        rw [List.getD_eq_getElem?_getD, List.getElem?_eq_getElem (by omega)]
        exact e
      obtain ⟨f, hf'⟩ := Deep.choose_lt each
      refine ⟨(List.range len).map f, some ⟨b, off, none⟩, cap, by simp, by simp; omega, hm, .inr ⟨b, off, rfl, fun i hi => ?_⟩⟩
      have hi' : i < len := by simpa using hi
      have e : ((List.range len).map f).getD i M.Tx.none = f i := by simp [List.getD_eq_getElem?_getD, hi']
      rw [e]
      exact hf' i hi'

end Go.Proofs.YtlglkiknpbfnmaaDoor
