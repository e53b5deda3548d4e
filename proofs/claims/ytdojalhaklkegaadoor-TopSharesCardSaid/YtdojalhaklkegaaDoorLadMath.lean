/-
  THE LADDER'S PLAIN MATHEMATICS: a step of a bit, the state behind j bits, what it tells. Nothing of the program. Conditions: none.
-/
import Derived.Test.YtdojalhaklkegaaDoorPn1
namespace Go.Proofs.YtdojalhaklkegaaDoor
set_option linter.unusedVariables false

namespace M

/-- A step of the ladder, by q. -/
def lstep (q u x2 z2 x3 z3 : Nat) : Nat × Nat × Nat × Nat :=
  let a := (x2 + z2) % q
  let b := (x2 + (q - z2)) % q
  let aa := a * a % q
  let bb := b * b % q
  let e := (aa + (q - bb)) % q
  let d := (x3 + (q - z3)) % q * a % q
  let c := (x3 + z3) % q * b % q
  (aa * bb % q, e * ((aa + 121665 * e % q) % q) % q, (d + c) % q * ((d + c) % q) % q, u * ((d + (q - c)) % q * ((d + (q - c)) % q) % q) % q)

/-- .. of a bit: changed about ahead and behind, if it is 1. -/
def lbit (q u : Nat) : Nat → Nat × Nat × Nat × Nat → Nat × Nat × Nat × Nat
  | 1, (x2, z2, x3, z3) => match lstep q u x3 z3 x2 z2 with | (p, r, s, t) => (s, t, p, r)
  | _, (x2, z2, x3, z3) => lstep q u x2 z2 x3 z3

/-- Bit i of a scalar. -/
def kbit (ks : List UInt8) (i : Nat) : Nat := (ks.getD (i / 8) 0).toNat / 2 ^ (i % 8) % 2

/-- The ladder behind j bits. -/
def lad (q : Nat) (ks : List UInt8) (u : Nat) : Nat → Nat × Nat × Nat × Nat
  | 0 => (1, 0, u, 1)
  | j + 1 => lbit q u (kbit ks (254 - j)) (lad q ks u j)

/-- What the ladder tells. -/
def ladder (q : Nat) (ks : List UInt8) (u : Nat) : Nat :=
  match lad q ks u 255 with | (x2, z2, _, _) => x2 * (z2 ^ (q - 2) % q) % q

end M

end Go.Proofs.YtdojalhaklkegaaDoor
