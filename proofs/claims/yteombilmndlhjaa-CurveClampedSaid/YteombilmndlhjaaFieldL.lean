/-
  PLAIN MATHEMATICS OF package field: numbers by 2^255 - 19 in five limbs of 51 bits and a little. Nothing of the program but the shape of an element's cells. Conditions: as each says.
-/
import Derived.Test.YteombilmndlhjaaFieldMath
import Derived.Test.YteombilmndlhjaaLimbs
namespace Go.Proofs.Yteombilmndlhjaa
open Go.RowKit
set_option linter.unusedVariables false

namespace M

/-- The number of five limbs. -/
def V5 (a b c d e : Nat) : Nat := a + b * 2251799813685248 + c * 5070602400912917605986812821504 + d * 11417981541647679048466287755595961091061972992 + e * 25711008708143844408671393477458601640355247900524685364822016

/-- What limbs of 64 bits come to, what goes over carried once. -/
theorem car_ok (n0 n1 n2 n3 n4 : Nat) (h0 : n0 < 18446744073709551616) (h1 : n1 < 18446744073709551616) (h2 : n2 < 18446744073709551616) (h3 : n3 < 18446744073709551616) (h4 : n4 < 18446744073709551616) :
    V5 (n0 % 2251799813685248 + 19 * (n4 / 2251799813685248)) (n1 % 2251799813685248 + n0 / 2251799813685248) (n2 % 2251799813685248 + n1 / 2251799813685248) (n3 % 2251799813685248 + n2 / 2251799813685248) (n4 % 2251799813685248 + n3 / 2251799813685248) + n4 / 2251799813685248 * Q = V5 n0 n1 n2 n3 n4 := by
  unfold V5 Q
  omega

/-- Twice the prime, in limbs. -/
theorem sub_ok (a b c d e a' b' c' d' e' : Nat) (h0 : a' ≤ a + 4503599627370458) (h1 : b' ≤ b + 4503599627370494) (h2 : c' ≤ c + 4503599627370494) (h3 : d' ≤ d + 4503599627370494) (h4 : e' ≤ e + 4503599627370494) :
    V5 (a + 4503599627370458 - a') (b + 4503599627370494 - b') (c + 4503599627370494 - c') (d + 4503599627370494 - d') (e + 4503599627370494 - e') + V5 a' b' c' d' e' = V5 a b c d e + 2 * Q := by
  unfold V5 Q
  omega

theorem add_ok (a b c d e a' b' c' d' e' : Nat) : V5 (a + a') (b + b') (c + c') (d + d') (e + e') = V5 a b c d e + V5 a' b' c' d' e' := by
  unfold V5
  omega

/-- Five sums of products, carried among themselves, are the product of both numbers, by the prime. -/
theorem mul_ok (a0 a1 a2 a3 a4 b0 b1 b2 b3 b4 : Nat) : ∃ k,
    V5 (a0 * b0 + 19 * (a1 * b4) + 19 * (a2 * b3) + 19 * (a3 * b2) + 19 * (a4 * b1)) (a0 * b1 + a1 * b0 + 19 * (a2 * b4) + 19 * (a3 * b3) + 19 * (a4 * b2)) (a0 * b2 + a1 * b1 + a2 * b0 + 19 * (a3 * b4) + 19 * (a4 * b3)) (a0 * b3 + a1 * b2 + a2 * b1 + a3 * b0 + 19 * (a4 * b4)) (a0 * b4 + a1 * b3 + a2 * b2 + a3 * b1 + a4 * b0) + k * Q = V5 a0 a1 a2 a3 a4 * V5 b0 b1 b2 b3 b4 := by
  refine ⟨(a1 * b4 + a2 * b3 + a3 * b2 + a4 * b1) + (a2 * b4 + a3 * b3 + a4 * b2) * 2251799813685248 + (a3 * b4 + a4 * b3) * 5070602400912917605986812821504 + a4 * b4 * 11417981541647679048466287755595961091061972992, ?_⟩
  rw [Nat.add_mul, Nat.add_mul, Nat.add_mul]
  conv => rhs; unfold V5
  rw [five_cols, five_rows, five_rows, five_rows, five_rows, five_rows]
  unfold V5 Q
  generalize a0 * b0 = p00
  generalize a0 * b1 = p01
  generalize a0 * b2 = p02
  generalize a0 * b3 = p03
  generalize a0 * b4 = p04
  generalize a1 * b0 = p10
  generalize a1 * b1 = p11
  generalize a1 * b2 = p12
  generalize a1 * b3 = p13
  generalize a1 * b4 = p14
  generalize a2 * b0 = p20
  generalize a2 * b1 = p21
  generalize a2 * b2 = p22
  generalize a2 * b3 = p23
  generalize a2 * b4 = p24
  generalize a3 * b0 = p30
  generalize a3 * b1 = p31
  generalize a3 * b2 = p32
  generalize a3 * b3 = p33
  generalize a3 * b4 = p34
  generalize a4 * b0 = p40
  generalize a4 * b1 = p41
  generalize a4 * b2 = p42
  generalize a4 * b3 = p43
  generalize a4 * b4 = p44
  omega

/-- What five sums hand on: each sum's limb, and what goes over from the one ahead. -/
theorem over_ok (s0 s1 s2 s3 s4 : Nat) : V5 (s0 % 2251799813685248 + 19 * (s4 / 2251799813685248)) (s1 % 2251799813685248 + s0 / 2251799813685248) (s2 % 2251799813685248 + s1 / 2251799813685248) (s3 % 2251799813685248 + s2 / 2251799813685248) (s4 % 2251799813685248 + s3 / 2251799813685248) + s4 / 2251799813685248 * Q = V5 s0 s1 s2 s3 s4 := by
  unfold V5 Q
  omega

theorem mod_of_add {x y k q : Nat} (h : x + k * q = y) : x % q = y % q := by rw [← h, Nat.add_mul_mod_self_right]

end M

/-- An element's cells: five limbs, each below 2^51 + 2^18, of the number n by the prime. -/
def Fl (L : List Value) (n : Nat) : Prop := ∃ a b c d e : Nat, L = uc [a, b, c, d, e] ∧ (a < 2251799813947392 ∧ b < 2251799813947392 ∧ c < 2251799813947392 ∧ d < 2251799813947392 ∧ e < 2251799813947392) ∧ M.V5 a b c d e % M.Q = n

/-- The call hands back an element. -/
def GivesE (Fe : List Value → Nat → Prop) (w : World) (n : Nat) (e : Ending) (w' : World) : Prop := ∃ L : List Value, e = .returned (.agg L.toArray) ∧ Fe L n ∧ Below w.heap.size w w'

theorem GivesE.mono {Fe : List Value → Nat → Prop} {w w1 : World} {n : Nat} {e : Ending} {w' : World} (h : GivesE Fe w1 n e w') (k : Below w.heap.size w w1) : GivesE Fe w n e w' := by
  obtain ⟨L, h1, h2, h3⟩ := h
  exact ⟨L, h1, h2, k.trans (h3.mono k.size)⟩

/-- The call hands back two elements. -/
def GivesEE (Fe : List Value → Nat → Prop) (w : World) (m n : Nat) (e : Ending) (w' : World) : Prop := ∃ K L : List Value, e = .returned (.tuple #[.agg K.toArray, .agg L.toArray]) ∧ Fe K m ∧ Fe L n ∧ Below w.heap.size w w'

theorem Fl.len {L : List Value} {n : Nat} (h : Fl L n) : L.length = 5 := by
  obtain ⟨a, b, c, d, e, rfl, _⟩ := h
  rw [uc_length]
  rfl

theorem Fl.one {L : List Value} {n : Nat} (h : Fl L n) : ∀ u ∈ L, u.oneCell' = true := by
  obtain ⟨a, b, c, d, e, rfl, _⟩ := h
  exact uc_one _

theorem Fl.lt {L : List Value} {n : Nat} (h : Fl L n) : n < M.Q := by
  obtain ⟨a, b, c, d, e, _, _, rfl⟩ := h
  exact Nat.mod_lt _ M.Q_pos

end Go.Proofs.Yteombilmndlhjaa
