/-
  CONTRACTS OF math/bits.RotateLeft32 (to the left), orlopref04.rol AND orlopref04.quarter. Conditions: the places are 1 to 31.
-/
import Derived.Test.YtogklpeehfoijaaDoorShaRor
import Derived.Test.YtogklpeehfoijaaDoorChaMath
namespace Go.Proofs.YtogklpeehfoijaaDoor
open Go.RowKit
set_option linter.unusedVariables false

theorem results_tmp4 {fn : Func} {t u v x : Tmp} (h : fn.results = #[.tmp t, .tmp u, .tmp v, .tmp x]) (tmps : Array Value) (P : Program) (w : World) :
    (results fn tmps).run P w = .ok (.tuple #[tmps.getD t undef, tmps.getD u undef, tmps.getD v undef, tmps.getD x undef]) w := by
  simp [results, h, go_sem]

theorem and31 (m : Nat) (h : m ≤ 31) : bits BinOp.and IntKind.u64 (m : Int) 31 = (m : Int) := by
  rw [show (31 : Int) = ((31 : Nat) : Int) from rfl, u64_and_nat _ _ (by omega) (by omega), show (31 : Nat) = 2 ^ 5 - 1 from rfl, Nat.and_two_pow_sub_one_eq_mod]
  congr 1
  omega

theorem rotl_any (x : UInt32) (m : Nat) (w : World) (h1 : 1 ≤ m) (h2 : m ≤ 31) :
    Calls Tryd.prog 49 #[.int .u32 x.toNat, .int .i64 m] w fun e w' => e = .returned (.int .u32 (M.rol x m).toNat) ∧ w' = w := by
  have hk := and31 m h2
  go_enter Tryd.func49, Tryd.ntmps49
  go_wp2
  go_ret
  exact ⟨ret_w32 (ror_spelled2 x m h1 h2), rfl⟩

theorem rrol_any (x : UInt32) (m : Nat) (w : World) (h1 : 1 ≤ m) (h2 : m ≤ 31) :
    Calls Tryd.prog 47 #[.int .u32 x.toNat, .int .i64 m] w fun e w' => e = .returned (.int .u32 (M.rol x m).toNat) ∧ w' = w := by
  go_enter Tryd.func47, Tryd.ntmps47
  go_wp2
  go_ret
  exact ⟨ret_w32 (ror_spelled2 x m h1 h2), rfl⟩

/-- At a literal. -/
theorem rotl_lit (x : UInt32) (z : Int) (w : World) (h1 : 1 ≤ z) (h2 : z ≤ 31) :
    Calls Tryd.prog 49 #[.int .u32 x.toNat, .int .i64 z] w fun e w' => e = .returned (.int .u32 (M.rol x z.toNat).toNat) ∧ w' = w := by
  have h := rotl_any x z.toNat w (by omega) (by omega)
  rw [show ((z.toNat : Nat) : Int) = z by omega] at h
  exact h

theorem rrol_lit (x : UInt32) (z : Int) (w : World) (h1 : 1 ≤ z) (h2 : z ≤ 31) :
    Calls Tryd.prog 47 #[.int .u32 x.toNat, .int .i64 z] w fun e w' => e = .returned (.int .u32 (M.rol x z.toNat).toNat) ∧ w' = w := by
  have h := rrol_any x z.toNat w (by omega) (by omega)
  rw [show ((z.toNat : Nat) : Int) = z by omega] at h
  exact h

/-- The same, the result under a name. -/
theorem rotl_ex (x : UInt32) (z : Int) (w : World) (h1 : 1 ≤ z) (h2 : z ≤ 31) :
    Calls Tryd.prog 49 #[.int .u32 x.toNat, .int .i64 z] w fun e w' => ∃ y, Hid (y = M.rol x z.toNat) ∧ e = .returned (.int .u32 y.toNat) ∧ w' = w :=
  (rotl_lit x z w h1 h2).mono fun _ _ ⟨h, k⟩ => ⟨_, rfl, h, k⟩

theorem rrol_ex (x : UInt32) (z : Int) (w : World) (h1 : 1 ≤ z) (h2 : z ≤ 31) :
    Calls Tryd.prog 47 #[.int .u32 x.toNat, .int .i64 z] w fun e w' => ∃ y, Hid (y = M.rol x z.toNat) ∧ e = .returned (.int .u32 y.toNat) ∧ w' = w :=
  (rrol_lit x z w h1 h2).mono fun _ _ ⟨h, k⟩ => ⟨_, rfl, h, k⟩

theorem rquarter_any (a b c d : UInt32) (w : World) :
    Calls Tryd.prog 33 #[.int .u32 a.toNat, .int .u32 b.toNat, .int .u32 c.toNat, .int .u32 d.toNat] w fun e w' =>
      e = .returned (.tuple #[.int .u32 (M.qr a b c d).1.toNat, .int .u32 (M.qr a b c d).2.1.toNat, .int .u32 (M.qr a b c d).2.2.1.toNat, .int .u32 (M.qr a b c d).2.2.2.toNat]) ∧ w' = w := by
  obtain ⟨q, hq⟩ : ∃ q, Hid (q = M.qr a b c d) := ⟨_, rfl⟩
  rw [← hq.out]
  go_enter Tryd.func33, Tryd.ntmps33
  go_wp2_with fail
  simp only [w_wrap, w_xor, w_add]
  obtain ⟨a1, ha1⟩ : ∃ x, Hid (x = a + b) := ⟨_, rfl⟩
  rw [← ha1.out]
  refine (rrol_ex _ _ _ (by decide) (by decide)).mono ?_
  rintro e4 w4 ⟨d1, hd1, rfl, rfl⟩
  go_wp2_with fail
  simp only [w_wrap, w_xor, w_add]
  obtain ⟨c1, hc1⟩ : ∃ x, Hid (x = c + d1) := ⟨_, rfl⟩
  rw [← hc1.out]
  refine (rrol_ex _ _ _ (by decide) (by decide)).mono ?_
  rintro e4 w4 ⟨b1, hb1, rfl, rfl⟩
  go_wp2_with fail
  simp only [w_wrap, w_xor, w_add]
  obtain ⟨a2, ha2⟩ : ∃ x, Hid (x = a1 + b1) := ⟨_, rfl⟩
  rw [← ha2.out]
  refine (rrol_ex _ _ _ (by decide) (by decide)).mono ?_
  rintro e4 w4 ⟨d2, hd2, rfl, rfl⟩
  go_wp2_with fail
  simp only [w_wrap, w_xor, w_add]
  obtain ⟨c2, hc2⟩ : ∃ x, Hid (x = c1 + d2) := ⟨_, rfl⟩
  rw [← hc2.out]
  refine (rrol_ex _ _ _ (by decide) (by decide)).mono ?_
  rintro e4 w4 ⟨b2, hb2, rfl, rfl⟩
  go_wp2
  have e : q = (a2, b2, c2, d2) := by
    rw [hq.out, hb2.out, hc2.out, hd2.out, ha2.out, hb1.out, hc1.out, hd1.out, ha1.out]
    rfl
  subst e
  refine bodyPost_ret (results_tmp4 rfl _ _ _) rfl ?_
  exact ⟨rfl, rfl⟩

end Go.Proofs.YtogklpeehfoijaaDoor
