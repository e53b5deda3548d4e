/-
  FROM THE READING OF A SLICE OF BOOLS, AND OF A SCRIPT OF STEPS (orloplaw09.Do), TO 'IsZ' AND 'IsSteps'. Conditions: none.
-/
import Derived.Test.YthmamdlhgfkckaaOpenAsk
import Derived.Test.YthmamdlhgfkckaaDiskDo
import Derived.Deep.Slices
namespace Go.Proofs.Ythmamdlhgfkckaa
open Go.ChangeShapes Go.WideShapes Go.ChangeAt Go.RowKit
set_option linter.unusedVariables false

theorem z_of_trod {H : Type} {enc : TypeId × Value → H} {W : World} {fuel : Nat} {v : Value} {y : DataW H × List MemPlace} (h : DataW.trod enc Try.prog W 0 (fun _ => true) true fuel 33 [v] = some y) :
    ∃ ks, IsZ W v ks := by
  rcases Deep.open_slice1 Try.underlying33 (by kernel_rfl) h with ⟨hcs, _⟩ | ⟨x, l, c, m, n, V, D, Pl, hcs, _, hl, hm, hmm, _, hcell⟩
  · simp at hcs
    subst hcs
    exact ⟨[], IsZ.nil W⟩
  · simp at hcs
    subst hcs
    have hlm : l ≤ m := by rw [hmm]; split <;> omega
    have each : ∀ i, i < l → ∃ q : Bool, W.cell? (x.add i) = some (.bool q) := by
      intro i hi
      obtain ⟨c0, t0⟩ := hcell i (by omega)
      obtain ⟨b, e0, _⟩ := DataW.trod_bool Try.underlying4 t0
      simp at e0
      exact ⟨b, by rw [c0, e0]⟩
    obtain ⟨f, hf⟩ := Deep.choose_lt each
    refine ⟨(List.range l).map f, some x, c, by simp, by simp; omega, hm, ?_⟩
    by_cases h0 : l = 0
    · exact .inl (by rw [h0]; rfl)
    · obtain ⟨b, off, spot⟩ := x
      have hspot : spot = none := by simpa [Addr.add] using World.cell?_spot (hf 0 (by omega))
      subst hspot
      refine .inr ⟨b, off, rfl, fun i hi => ?_⟩
      have hi' : i < l := by simpa using hi
      have e : ((List.range l).map f).getD i false = f i := by simp [List.getD_eq_getElem?_getD, hi']
      rw [e]
      have := hf i hi'
      rwa [Addr.add_lit] at this

theorem steps_of_trod {H : Type} {enc : TypeId × Value → H} {W : World} {base : Nat} {v : Value} {d : DataW H} {p : List MemPlace} (hv : Value.okWide Try.prog W .any base 23 v)
    (h : DataW.Trod enc Try.prog W 0 (fun _ => true) true 23 v d p) : ∃ l, IsSteps W v l := by
  obtain ⟨a, len, cap, rfl⟩ := okWide_slice Try.underlying23 hv
  obtain ⟨fuel, hf⟩ := h
  rcases Deep.open_slice Try.underlying23 hf with ⟨hcs, _⟩ | ⟨x, l, c, m, n, D, Pl, hcs, _, hl, hm, hmm, _, hx⟩
  · simp [Value.cells] at hcs
    obtain ⟨rfl, rfl, rfl⟩ := hcs
    exact ⟨[], none, 0, rfl, Nat.zero_le _, Nat.zero_le _, .inl rfl⟩
  · simp [Value.cells] at hcs
    obtain ⟨rfl, rfl, rfl⟩ := hcs
    have hlm : len ≤ m := by rw [hmm]; split <;> omega
    have ce : Try.prog.cellsOf 35 = 4 := by kernel_rfl
    have ci : Try.prog.cellsOf 3 = 1 := by kernel_rfl
    have cb : Try.prog.cellsOf 22 = 1 := by kernel_rfl
    have cz : Try.prog.cellsOf 33 = 1 := by kernel_rfl
    simp only [ce] at hx
    obtain ⟨b, off, spot⟩ := x
    by_cases h0 : len = 0
    · subst h0
      exact ⟨[], _, cap, rfl, Nat.zero_le _, hm, .inl rfl⟩
    · have hspot : spot = none := by
        obtain ⟨cs', h1, _⟩ := hx 0 (by omega)
        obtain ⟨_, hlen, hcell⟩ := World.cells?_some h1
        have q := hcell 0 (by omega)
        rw [List.getElem?_eq_getElem (show 0 < cs'.length by omega)] at q
        simpa [Addr.add] using World.cell?_spot q
      subst hspot
      have each : ∀ i, i < len → ∃ a, StepAt W b (off + i * 4) a := by
        intro i hi
        obtain ⟨cs', h1, h2⟩ := hx i (by omega)
        obtain ⟨_, hlen, hcell⟩ := World.cells?_some h1
        obtain ⟨xs, k, _, _, _, hxl, hs⟩ := DataW.trod_struct Try.underlying35 h2
        match xs, hxl, cs', hlen with
        | [y0, y1, y2, y3], _, [v0, v1, v2, v3], _ =>
          have g0 := hs 0 _ rfl
          have g1 := hs 1 _ rfl
          have g2 := hs 2 _ rfl
          have g3 := hs 3 _ rfl
          simp [ci, cb, cz] at g0 g1 g2 g3
          have e0 := hcell 0 (by omega)
          have e1 := hcell 1 (by omega)
          have e2 := hcell 2 (by omega)
          have e3 := hcell 3 (by omega)
          rw [Addr.add_lit, Addr.add_lit] at e0 e1 e2 e3
          simp at e0 e1 e2 e3
          obtain ⟨n0, rfl, w0⟩ := int_of_trod g0
          obtain ⟨n1, rfl, w1⟩ := int_of_trod g1
          obtain ⟨bs, ib, hn⟩ := isB_of_trod g2
          obtain ⟨ks, iz⟩ := z_of_trod g3
          obtain ⟨bo, bc, rfl, ib1⟩ := ib
          obtain ⟨ko, kc, rfl, iz1⟩ := iz
          exact ⟨⟨n0, n1, bs, ks⟩, bo, bc, ko, kc, e0, e1, e2, e3, ⟨bo, bc, rfl, ib1⟩, fun e => hn _ _ (by rw [e]), ⟨ko, kc, rfl, iz1⟩, w0, w1⟩
      obtain ⟨f, hf'⟩ := Deep.choose_lt each
      refine ⟨(List.range len).map f, some ⟨b, off, none⟩, cap, by simp, by simp; omega, hm, .inr ⟨b, off, rfl, fun i hi => ?_⟩⟩
      have hi' : i < len := by simpa using hi
      have e : ((List.range len).map f).getD i M.Step.none = f i := by simp [List.getD_eq_getElem?_getD, hi']
      rw [e]
      exact hf' i hi'

end Go.Proofs.Ythmamdlhgfkckaa
