/-
  CONTRACTS OF math/bits.RotateLeft32, sha.ror AND orlopref02.ror: a number of 32 bits turned right. Conditions: the places are 1 to 31.
-/
import Derived.Test.YtdojalhaklkegaaBase
import Derived.Test.YtdojalhaklkegaaShaMath
import Derived.WalkSpells
namespace Go.Proofs.Ytdojalhaklkegaa
open Go.RowKit
set_option linter.unusedVariables false

theorem ret_w32 {a b : Int} (h : a = b) : Ending.returned (.int .u32 a) = .returned (.int .u32 b) := by rw [h]

theorem w_lt (x : UInt32) : x.toNat < 4294967296 := x.toNat_lt

theorem w_xor (a b : UInt32) : bits BinOp.xor .u32 (a.toNat : Int) (b.toNat : Int) = ((a ^^^ b).toNat : Int) := by
  rw [u32_xor_nat _ _ (w_lt a) (w_lt b), UInt32.toNat_xor]

theorem w_and (a b : UInt32) : bits BinOp.and .u32 (a.toNat : Int) (b.toNat : Int) = ((a &&& b).toNat : Int) := by
  rw [u32_and_nat _ _ (w_lt a) (w_lt b), UInt32.toNat_and]

theorem w_or (a b : UInt32) : bits BinOp.or .u32 (a.toNat : Int) (b.toNat : Int) = ((a ||| b).toNat : Int) := by
  rw [u32_or_nat _ _ (w_lt a) (w_lt b), UInt32.toNat_or]

theorem w_add (a b : UInt32) : ((a.toNat : Int) + (b.toNat : Int)) % 4294967296 = ((a + b).toNat : Int) := by
  rw [UInt32.toNat_add]
  omega

theorem w_wrap (a b : UInt32) : IntKind.u32.wrap ((a.toNat : Int) + (b.toNat : Int)) = ((a + b).toNat : Int) := w_add a b

theorem w_not (a : UInt32) : bits BinOp.xor .u32 IntKind.u32.max (a.toNat : Int) = ((~~~ a).toNat : Int) := by
  have h : (4294967295 ^^^ a.toNat) = (~~~ a).toNat := by
    have e := congrArg BitVec.toNat (BitVec.allOnes_xor (x := a.toBitVec))
    rw [BitVec.toNat_xor] at e
    exact e
  rw [show IntKind.u32.max = ((4294967295 : Nat) : Int) from rfl, u32_xor_nat _ _ (by decide) (w_lt a), h]

theorem ror_toNat (x : UInt32) (n : Nat) : (M.ror x n).toNat = (x.toNat / 2 ^ n ||| x.toNat * 2 ^ (32 - n) % 4294967296) := by
  have h := w_lt x
  have e1 : x.toNat / 2 ^ n < 2 ^ 32 := Nat.lt_of_le_of_lt (Nat.div_le_self _ _) h
  have e2 : x.toNat * 2 ^ (32 - n) % 4294967296 < 2 ^ 32 := Nat.mod_lt _ (by decide)
  have e3 : (x.toNat / 2 ^ n ||| x.toNat * 2 ^ (32 - n) % 4294967296) < 4294967296 := Nat.or_lt_two_pow e1 e2
  rw [M.ror, UInt32.toNat_ofNat', Nat.mod_eq_of_lt e3]

theorem ror_spelled (x : UInt32) (n : Nat) (h1 : 1 ≤ n) (h2 : n ≤ 31) :
    bits BinOp.or IntKind.u32 ((x.toNat : Int) / 2 ^ n) ((x.toNat : Int) * 2 ^ (32 - n) % 4294967296) = ((M.ror x n).toNat : Int) := by
  have h := w_lt x
  have e1 : x.toNat / 2 ^ n < 4294967296 := Nat.lt_of_le_of_lt (Nat.div_le_self _ _) h
  have e2 : x.toNat * 2 ^ (32 - n) % 4294967296 < 4294967296 := Nat.mod_lt _ (by decide)
  have c1 : (x.toNat : Int) / 2 ^ n = ((x.toNat / 2 ^ n : Nat) : Int) := by simp
  have c2 : (x.toNat : Int) * 2 ^ (32 - n) % 4294967296 = ((x.toNat * 2 ^ (32 - n) % 4294967296 : Nat) : Int) := by simp
  rw [c1, c2, u32_or_nat _ _ e1 e2, ror_toNat x n]

theorem ror_spelled2 (x : UInt32) (m : Nat) (h1 : 1 ≤ m) (h2 : m ≤ 31) :
    bits BinOp.or IntKind.u32 ((x.toNat : Int) * 2 ^ m % 4294967296) ((x.toNat : Int) / 2 ^ (32 - m)) = ((M.ror x (32 - m)).toNat : Int) := by
  have h := w_lt x
  have e1 : x.toNat / 2 ^ (32 - m) < 4294967296 := Nat.lt_of_le_of_lt (Nat.div_le_self _ _) h
  have e2 : x.toNat * 2 ^ m % 4294967296 < 4294967296 := Nat.mod_lt _ (by decide)
  have c1 : (x.toNat : Int) / 2 ^ (32 - m) = ((x.toNat / 2 ^ (32 - m) : Nat) : Int) := by simp
  have c2 : (x.toNat : Int) * 2 ^ m % 4294967296 = ((x.toNat * 2 ^ m % 4294967296 : Nat) : Int) := by simp
  rw [c1, c2, u32_or_nat _ _ e2 e1, ror_toNat x (32 - m), Nat.or_comm, show 32 - (32 - m) = m by omega]

theorem neg_and (m : Nat) (h1 : 1 ≤ m) (h2 : m ≤ 31) : bits BinOp.and IntKind.u64 (IntKind.u64.wrap (-((32 - m : Nat) : Int))) 31 = (m : Int) := by
  have e : IntKind.u64.wrap (-((32 - m : Nat) : Int)) = ((18446744073709551584 + m : Nat) : Int) := by
    rw [show IntKind.u64.wrap (-((32 - m : Nat) : Int)) = (-((32 - m : Nat) : Int)) % 18446744073709551616 from rfl]
    omega
  rw [e, show (31 : Int) = ((31 : Nat) : Int) from rfl, u64_and_nat _ _ (by omega) (by omega), show (31 : Nat) = 2 ^ 5 - 1 from rfl, Nat.and_two_pow_sub_one_eq_mod]
  congr 1
  omega

end Go.Proofs.Ytdojalhaklkegaa
