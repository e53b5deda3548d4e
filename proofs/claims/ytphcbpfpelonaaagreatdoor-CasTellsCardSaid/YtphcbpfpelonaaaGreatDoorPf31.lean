/-
  'append' AND '[:]' OF SLICES OF FILES: as run equations, as steps. Conditions: as each says.
  CONTRACTS OF orlopref11.At, Free, drop, put, Copy. Conditions: the files lie so.
  CONTRACT OF orlopref11.drop. Conditions: the files lie so, out of their box.
-/
import Derived.Test.YtphcbpfpelonaaaGreatDoorPf30
import Derived.Test.YtphcbpfpelonaaaGreatDoorFileE
import Derived.Test.YtphcbpfpelonaaaGreatDoorPf3

namespace Go.Proofs.YtphcbpfpelonaaaGreatDoor
open Go.RowKit
set_option linter.unusedVariables false
set_option maxRecDepth 100000

end Go.Proofs.YtphcbpfpelonaaaGreatDoor

namespace Go.Proofs.YtphcbpfpelonaaaGreatDoor
open Go.RowKit
set_option linter.unusedVariables false
set_option maxRecDepth 100000

theorem wrap_id {x : Int} (h : -4611686018427387904 ≤ x ∧ x ≤ 4611686018427387904) : wrap64 x = x := by unfold wrap64; omega

theorem need_le2 {q : Nat} (h : q ≤ 1099511627776) : M.need q ≤ 4294967297 := by rw [M.need]; omega

theorem free_bound {n z nd : Int} (j : Nat) (h1 : -1099511627776 - 4294967297 * (j : Int) ≤ z ∧ z ≤ 1099511627776) (h2 : 0 ≤ nd ∧ nd ≤ 4294967297) (h3 : j < 1000) : (-1099511627776 - 4294967297 * ((j + 1 : Nat) : Int) ≤ z - nd ∧ z - nd ≤ 1099511627776) ∧ wrap64 (z - nd) = z - nd := by
  refine ⟨by omega, wrap_id (by omega)⟩

/-- Where a file stands; -1: nowhere. -/
def M.atI (F : M.Fs) (k : List UInt8) : Int := if M.atF F k < F.length then ((M.atF F k : Nat) : Int) else -1

theorem M.atF_le (F : M.Fs) (k : List UInt8) : M.atF F k ≤ F.length := List.findIdx_le_length

theorem M.atF_here {F : M.Fs} {k : List UInt8} {i : Nat} (hi : i < F.length) (h : ∀ j, j < i → (F.getD j default).nm ≠ k) (e : (F.getD i default).nm = k) : M.atF F k = i := by
  rw [M.atF, List.findIdx_eq hi]
  have g : ∀ j, (hj : j < F.length) → F.getD j default = F[j] := fun j hj => by rw [List.getD_eq_getElem?_getD, List.getElem?_eq_getElem hj]; rfl
  refine ⟨by rw [← g i hi, e]; simp, fun j hj => ?_⟩
  have := h j hj
  rw [g j (by omega)] at this
  simpa using this

theorem M.atF_none {F : M.Fs} {k : List UInt8} (h : ∀ j, j < F.length → (F.getD j default).nm ≠ k) : M.atF F k = F.length := by
  rw [M.atF, List.findIdx_eq_length]
  intro q hq
  obtain ⟨j, hj, rfl⟩ := List.mem_iff_getElem.1 hq
  have := h j hj
  rw [List.getD_eq_getElem?_getD, List.getElem?_eq_getElem hj] at this
  simpa using this

theorem str_eq (a b : List UInt8) : ((⟨a.toArray⟩ : ByteArray).toList == (⟨b.toArray⟩ : ByteArray).toList) = decide (a = b) := by
  rw [ByteArray.toList_mk, ByteArray.toList_mk]
  by_cases h : a = b
  · rw [h]; simp
  · rw [decide_eq_false h]; simpa using h

theorem M.freeF_next (n : Int) (F : M.Fs) (k : Nat) (hk : k < F.length) : M.freeF n (F.take (k + 1)) = M.freeF n (F.take k) - ((M.need (F.getD k default).data.length : Nat) : Int) := by
  rw [M.freeF, List.take_add_one, List.getElem?_eq_getElem hk, List.foldl_append, List.getD_eq_getElem?_getD, List.getElem?_eq_getElem hk]
  rfl

end Go.Proofs.YtphcbpfpelonaaaGreatDoor

namespace Go.Proofs.YtphcbpfpelonaaaGreatDoor
open Go.RowKit
set_option linter.unusedVariables false
set_option maxRecDepth 100000

theorem M.fdrop_none {F : M.Fs} {k : List UInt8} (h : ¬ M.atF F k < F.length) : M.fdrop F k = F := by
  rw [M.fdrop, List.take_of_length_le (by omega), List.drop_eq_nil_of_le (by omega), List.append_nil]

end Go.Proofs.YtphcbpfpelonaaaGreatDoor
