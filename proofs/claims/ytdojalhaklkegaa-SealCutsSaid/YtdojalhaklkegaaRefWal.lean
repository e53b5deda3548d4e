/-
  CONTRACTS OF orlopref10.May AND Same. Conditions: the list and the rows lie so.
-/
import Derived.Test.YtdojalhaklkegaaWalMem
namespace Go.Proofs.Ytdojalhaklkegaa
open Go.RowKit
set_option linter.unusedVariables false

def M.Fits (n : Nat) (c : Int × List UInt8) : Prop := 0 ≤ c.1 ∧ c.1 < (n : Int) ∧ c.2.length = 256

theorem M.may_iff (n : Nat) (l : M.CL) : M.May n l ↔ l.length ≤ 40 ∧ ∀ i, i < l.length → M.Fits n (l.getD i (0, [])) := by
  constructor
  · rintro ⟨h1, h2⟩
    refine ⟨h1, fun i hi => h2 _ ?_⟩
    rw [List.getD_eq_getElem?_getD, List.getElem?_eq_getElem hi]
    exact List.getElem_mem hi
  · rintro ⟨h1, h2⟩
    refine ⟨h1, fun c hc => ?_⟩
    obtain ⟨i, hi, rfl⟩ := List.mem_iff_getElem.1 hc
    have := h2 i hi
    rwa [List.getD_eq_getElem?_getD, List.getElem?_eq_getElem hi] at this

theorem M.take_succ_rows (A B : List (List UInt8)) (k : Nat) (ha : k < A.length) (hb : k < B.length) : A.take (k + 1) = B.take (k + 1) ↔ A.take k = B.take k ∧ A.getD k [] = B.getD k [] := by
  rw [List.take_add_one, List.take_add_one, List.getElem?_eq_getElem ha, List.getElem?_eq_getElem hb, List.getD_eq_getElem?_getD, List.getD_eq_getElem?_getD, List.getElem?_eq_getElem ha, List.getElem?_eq_getElem hb]
  simp only [Option.toList, Option.getD_some]
  constructor
  · intro h
    have := List.append_inj h (by rw [List.length_take, List.length_take]; omega)
    exact ⟨this.1, by simpa using this.2⟩
  · rintro ⟨h1, h2⟩
    rw [h1, h2]

end Go.Proofs.Ytdojalhaklkegaa
