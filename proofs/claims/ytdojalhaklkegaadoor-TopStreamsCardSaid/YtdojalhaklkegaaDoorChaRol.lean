/-
  CONTRACTS OF math/bits.RotateLeft32 (to the left), orlopref04.rol AND orlopref04.quarter. Conditions: the places are 1 to 31.
-/
import Derived.Test.YtdojalhaklkegaaDoorShaRor
import Derived.Test.YtdojalhaklkegaaDoorChaMath
namespace Go.Proofs.YtdojalhaklkegaaDoor
open Go.RowKit
set_option linter.unusedVariables false

theorem results_tmp4 {fn : Func} {t u v x : Tmp} (h : fn.results = #[.tmp t, .tmp u, .tmp v, .tmp x]) (tmps : Array Value) (P : Program) (w : World) :
    (results fn tmps).run P w = .ok (.tuple #[tmps.getD t undef, tmps.getD u undef, tmps.getD v undef, tmps.getD x undef]) w := by
  simp [results, h, go_sem]

theorem and31 (m : Nat) (h : m ≤ 31) : bits BinOp.and IntKind.u64 (m : Int) 31 = (m : Int) := by
  rw [show (31 : Int) = ((31 : Nat) : Int) from rfl, u64_and_nat _ _ (by omega) (by omega), show (31 : Nat) = 2 ^ 5 - 1 from rfl, Nat.and_two_pow_sub_one_eq_mod]
  congr 1
  omega

theorem rotl_any (x : UInt32) (m : Nat) (w : World) (h1 : 1 ≤ m) (h2 : m ≤ 31) :
    Calls Tryd.prog 105 #[.int .u32 x.toNat, .int .i64 m] w fun e w' => e = .returned (.int .u32 (M.rol x m).toNat) ∧ w' = w := by
  have hk := and31 m h2
  go_enter Tryd.func105, Tryd.ntmps105
  go_wp2
  go_ret
  exact ⟨ret_w32 (ror_spelled2 x m h1 h2), rfl⟩

/-- At a literal. -/
theorem rotl_lit (x : UInt32) (z : Int) (w : World) (h1 : 1 ≤ z) (h2 : z ≤ 31) :
    Calls Tryd.prog 105 #[.int .u32 x.toNat, .int .i64 z] w fun e w' => e = .returned (.int .u32 (M.rol x z.toNat).toNat) ∧ w' = w := by
  have h := rotl_any x z.toNat w (by omega) (by omega)
  rw [show ((z.toNat : Nat) : Int) = z by omega] at h
  exact h

/-- The same, the result under a name. -/
theorem rotl_ex (x : UInt32) (z : Int) (w : World) (h1 : 1 ≤ z) (h2 : z ≤ 31) :
    Calls Tryd.prog 105 #[.int .u32 x.toNat, .int .i64 z] w fun e w' => ∃ y, Hid (y = M.rol x z.toNat) ∧ e = .returned (.int .u32 y.toNat) ∧ w' = w :=
  (rotl_lit x z w h1 h2).mono fun _ _ ⟨h, k⟩ => ⟨_, rfl, h, k⟩

end Go.Proofs.YtdojalhaklkegaaDoor
