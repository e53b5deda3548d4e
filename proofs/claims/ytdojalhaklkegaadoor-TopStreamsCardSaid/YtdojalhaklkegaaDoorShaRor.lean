/-
  CONTRACTS OF math/bits.RotateLeft32, sha.ror AND orlopref02.ror: a number of 32 bits turned right. Conditions: the places are 1 to 31.
-/
import Derived.Test.YtdojalhaklkegaaDoorPtN
import Derived.Test.YtdojalhaklkegaaDoorShaMath
import Derived.WalkSpells
namespace Go.Proofs.YtdojalhaklkegaaDoor
open Go.RowKit
set_option linter.unusedVariables false

theorem ret_w32 {a b : Int} (h : a = b) : Ending.returned (.int .u32 a) = .returned (.int .u32 b) := by rw [h]

theorem w_lt (x : UInt32) : x.toNat < 4294967296 := x.toNat_lt

theorem w_xor (a b : UInt32) : bits BinOp.xor .u32 (a.toNat : Int) (b.toNat : Int) = ((a ^^^ b).toNat : Int) := by
  rw [u32_xor_nat _ _ (w_lt a) (w_lt b), UInt32.toNat_xor]

theorem w_and (a b : UInt32) : bits BinOp.and .u32 (a.toNat : Int) (b.toNat : Int) = ((a &&& b).toNat : Int) := by
  rw [u32_and_nat _ _ (w_lt a) (w_lt b), UInt32.toNat_and]

theorem w_or (a b : UInt32) : bits BinOp.or .u32 (a.toNat : Int) (b.toNat : Int) = ((a ||| b).toNat : Int) := by
  rw [u32_or_nat _ _ (w_lt a) (w_lt b), UInt32.toNat_or]

theorem w_add (a b : UInt32) : ((a.toNat : Int) + (b.toNat : Int)) % 4294967296 = ((a + b).toNat : Int) := by
  rw [UInt32.toNat_add]
  omega

theorem w_wrap (a b : UInt32) : IntKind.u32.wrap ((a.toNat : Int) + (b.toNat : Int)) = ((a + b).toNat : Int) := w_add a b

theorem w_not (a : UInt32) : bits BinOp.xor .u32 IntKind.u32.max (a.toNat : Int) = ((~~~ a).toNat : Int) := by
  have h : (4294967295 ^^^ a.toNat) = (~~~ a).toNat := by
    have e := congrArg BitVec.toNat (BitVec.allOnes_xor (x := a.toBitVec))
    rw [BitVec.toNat_xor] at e
    exact e
  rw [show IntKind.u32.max = ((4294967295 : Nat) : Int) from rfl, u32_xor_nat _ _ (by decide) (w_lt a), h]

theorem ror_toNat (x : UInt32) (n : Nat) : (M.ror x n).toNat = (x.toNat / 2 ^ n ||| x.toNat * 2 ^ (32 - n) % 4294967296) := by
  have h := w_lt x
  have e1 : x.toNat / 2 ^ n < 2 ^ 32 := Nat.lt_of_le_of_lt (Nat.div_le_self _ _) h
  have e2 : x.toNat * 2 ^ (32 - n) % 4294967296 < 2 ^ 32 := Nat.mod_lt _ (by decide)
  have e3 : (x.toNat / 2 ^ n ||| x.toNat * 2 ^ (32 - n) % 4294967296) < 4294967296 := Nat.or_lt_two_pow e1 e2
  rw [M.ror, UInt32.toNat_ofNat', Nat.mod_eq_of_lt e3]

theorem ror_spelled (x : UInt32) (n : Nat) (h1 : 1 ≤ n) (h2 : n ≤ 31) :
    bits BinOp.or IntKind.u32 ((x.toNat : Int) / 2 ^ n) ((x.toNat : Int) * 2 ^ (32 - n) % 4294967296) = ((M.ror x n).toNat : Int) := by
  have h := w_lt x
  have e1 : x.toNat / 2 ^ n < 4294967296 := Nat.lt_of_le_of_lt (Nat.div_le_self _ _) h
  have e2 : x.toNat * 2 ^ (32 - n) % 4294967296 < 4294967296 := Nat.mod_lt _ (by decide)
  have c1 : (x.toNat : Int) / 2 ^ n = ((x.toNat / 2 ^ n : Nat) : Int) := by simp
  have c2 : (x.toNat : Int) * 2 ^ (32 - n) % 4294967296 = ((x.toNat * 2 ^ (32 - n) % 4294967296 : Nat) : Int) := by simp
  rw [c1, c2, u32_or_nat _ _ e1 e2, ror_toNat x n]

theorem ror_spelled2 (x : UInt32) (m : Nat) (h1 : 1 ≤ m) (h2 : m ≤ 31) :
    bits BinOp.or IntKind.u32 ((x.toNat : Int) * 2 ^ m % 4294967296) ((x.toNat : Int) / 2 ^ (32 - m)) = ((M.ror x (32 - m)).toNat : Int) := by
  have h := w_lt x
  have e1 : x.toNat / 2 ^ (32 - m) < 4294967296 := Nat.lt_of_le_of_lt (Nat.div_le_self _ _) h
  have e2 : x.toNat * 2 ^ m % 4294967296 < 4294967296 := Nat.mod_lt _ (by decide)
  have c1 : (x.toNat : Int) / 2 ^ (32 - m) = ((x.toNat / 2 ^ (32 - m) : Nat) : Int) := by simp
  have c2 : (x.toNat : Int) * 2 ^ m % 4294967296 = ((x.toNat * 2 ^ m % 4294967296 : Nat) : Int) := by simp
  rw [c1, c2, u32_or_nat _ _ e2 e1, ror_toNat x (32 - m), Nat.or_comm, show 32 - (32 - m) = m by omega]

theorem neg_and (m : Nat) (h1 : 1 ≤ m) (h2 : m ≤ 31) : bits BinOp.and IntKind.u64 (IntKind.u64.wrap (-((32 - m : Nat) : Int))) 31 = (m : Int) := by
  have e : IntKind.u64.wrap (-((32 - m : Nat) : Int)) = ((18446744073709551584 + m : Nat) : Int) := by
    rw [show IntKind.u64.wrap (-((32 - m : Nat) : Int)) = (-((32 - m : Nat) : Int)) % 18446744073709551616 from rfl]
    omega
  rw [e, show (31 : Int) = ((31 : Nat) : Int) from rfl, u64_and_nat _ _ (by omega) (by omega), show (31 : Nat) = 2 ^ 5 - 1 from rfl, Nat.and_two_pow_sub_one_eq_mod]
  congr 1
  omega

theorem left_any (x : UInt32) (m : Nat) (w : World) (h1 : 1 ≤ m) (h2 : m ≤ 31) :
    Calls Tryd.prog 105 #[.int .u32 x.toNat, .int .i64 (-((32 - m : Nat) : Int))] w fun e w' => e = .returned (.int .u32 (M.ror x (32 - m)).toNat) ∧ w' = w := by
  have hk := neg_and m h1 h2
  obtain ⟨z, hz⟩ : ∃ z : Int, z = -((32 - m : Nat) : Int) := ⟨_, rfl⟩
  rw [← hz] at hk ⊢
  clear hz
  go_enter Tryd.func105, Tryd.ntmps105
  go_wp2
  go_ret
  exact ⟨ret_w32 (ror_spelled2 x m h1 h2), rfl⟩

theorem sror_any (x : UInt32) (n : Nat) (w : World) (h1 : 1 ≤ n) (h2 : n ≤ 31) :
    Calls Tryd.prog 115 #[.int .u32 x.toNat, .int .i64 n] w fun e w' => e = .returned (.int .u32 (M.ror x n).toNat) ∧ w' = w := by
  obtain ⟨m, rfl⟩ : ∃ m, n = 32 - m := ⟨32 - n, by omega⟩
  have h3 : 1 ≤ m := by omega
  have h4 : m ≤ 31 := by omega
  have K := fun w => left_any x m w h3 h4
  obtain ⟨p, hp⟩ : ∃ p, p = 32 - m := ⟨_, rfl⟩
  rw [← hp] at K h1 h2 ⊢
  clear hp h3 h4
  go_enter Tryd.func115, Tryd.ntmps115
  go_wp2_with (go_at_call 105; go_must (refine (K _).mono ?_); rintro e w1 ⟨rfl, rfl⟩)
  go_ret
  exact ⟨rfl, rfl⟩

/-- At a literal. -/
theorem sror_lit (x : UInt32) (z : Int) (w : World) (h1 : 1 ≤ z) (h2 : z ≤ 31) :
    Calls Tryd.prog 115 #[.int .u32 x.toNat, .int .i64 z] w fun e w' => e = .returned (.int .u32 (M.ror x z.toNat).toNat) ∧ w' = w := by
  have h := sror_any x z.toNat w (by omega) (by omega)
  rw [show ((z.toNat : Nat) : Int) = z by omega] at h
  exact h

end Go.Proofs.YtdojalhaklkegaaDoor
