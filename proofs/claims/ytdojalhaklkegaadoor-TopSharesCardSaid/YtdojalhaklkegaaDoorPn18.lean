/-
  CONTRACTS OF orlopref07.Rest, From, Bytes AND Small. Conditions: numbers below 2^256.
  CONTRACTS OF orlopref07.From, Bytes AND Small. Conditions: none but that the numbers are below 2^256.
  PLAIN MATHEMATICS OF orlopref07.fold: one round of it, and why it ends. Nothing of the program. Conditions: as each says.
-/
import Derived.Test.YtdojalhaklkegaaDoorPn17
import Derived.Test.YtdojalhaklkegaaDoorPn1

namespace Go.Proofs.YtdojalhaklkegaaDoor
open Go.RowKit
set_option linter.unusedVariables false

/-- The cells are those of a number below 2^256. -/
def IsN (L : List Value) (v : Nat) : Prop := L = nm v ∧ v < 256 ^ 32

theorem IsN.len {L : List Value} {v : Nat} (h : IsN L v) : L.length = 32 := by rw [h.1]; exact nm_length v

theorem IsN.one {L : List Value} {v : Nat} (h : IsN L v) : ∀ u ∈ L, u.oneCell' = true := by rw [h.1]; exact nm_one v

end Go.Proofs.YtdojalhaklkegaaDoor

namespace Go.Proofs.YtdojalhaklkegaaDoor
open Go.RowKit
set_option linter.unusedVariables false

namespace M

/-- The number that 32 bytes tell. -/
def told (b : List UInt8) : Nat := gl b 32 % 2 ^ 255

end M

end Go.Proofs.YtdojalhaklkegaaDoor

namespace Go.Proofs.YtdojalhaklkegaaDoor.M
set_option linter.unusedVariables false

/-- How great the places may be. -/
def FB (l : List Nat) : Prop := (l.length ≤ 63 ∧ ∀ i, l.getD i 0 ≤ 2097152) ∨ (l.length ≤ 32 ∧ ∀ i, l.getD i 0 ≤ 134217728)

theorem FB.le {l : List Nat} (h : FB l) (i : Nat) : l.getD i 0 ≤ 134217728 := by
  rcases h with h | h
  · have := h.2 i; omega
  · exact h.2 i

theorem FB.len {l : List Nat} (h : FB l) : l.length ≤ 63 := by rcases h with h | h <;> omega

/-- The places beyond, 38 times. -/
def nx (l : List Nat) : List Nat := (l.drop 32).map (38 * ·)

end Go.Proofs.YtdojalhaklkegaaDoor.M
