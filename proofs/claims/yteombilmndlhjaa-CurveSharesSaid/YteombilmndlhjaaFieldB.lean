/-
  CONTRACTS OF field.carried, product, plus, limb AND over: limbs of 64 bits, and numbers of 128. Conditions: as each says.
-/
import Derived.Test.YteombilmndlhjaaFieldL
import Derived.Test.YteombilmndlhjaaHeldA
namespace Go.Proofs.Yteombilmndlhjaa
open Go.RowKit
set_option linter.unusedVariables false

def z5 : List Value := List.replicate 5 (.int .u64 0)

theorem z5_len : z5.length = 5 := List.length_replicate

theorem z5_arr : z5.toArray = #[Value.int .u64 0, Value.int .u64 0, Value.int .u64 0, Value.int .u64 0, Value.int .u64 0] := rfl

theorem wpList_load_el {ops : Array Oper} {rest : List Oper} {o : Oper} {a : Act} {w : World} {Q : Exit → Act → World → Prop} (hg : o.guard = none) (x : Operand) (ho : o.op = .load 40 x) (b : Nat) (hx : a.eval x = .pointer (some ⟨b, 0, none⟩)) (L : List Value) (hb : Blk w b 40 L) (hl : L.length = 5)
    (h : wpList Try.prog ops Q rest (a.put o.dst (.agg L.toArray)) w) : wpList Try.prog ops Q (o :: rest) a w :=
  wpList_load_mid hg 40 x ho b 0 hx L _ (hb.range 0 _ [] (by simp)) Try.underlying40 rfl (by rw [hl]; kernel_rfl) h

theorem wpList_store_el {ops : Array Oper} {rest : List Oper} {o : Oper} {a : Act} {w : World} {Q : Exit → Act → World → Prop} (hg : o.guard = none) (hd : o.dst = none) (x y : Operand) (ho : o.op = .store 40 x y) (b : Nat) (hx : a.eval x = .pointer (some ⟨b, 0, none⟩)) (L M : List Value) (hy : a.eval y = .agg L.toArray) (hb : Blk w b 40 M) (hm : M.length = 5) (hl : L.length = 5) (h1 : ∀ u ∈ L, u.oneCell' = true)
    (h : ∀ w', Blk w' b 40 L → Only b w w' → wpList Try.prog ops Q rest a w') : wpList Try.prog ops Q (o :: rest) a w :=
  wpList_store_blk hg 40 x y ho b L.toArray hx hy 40 M hb (by rw [List.size_toArray, hl]; kernel_rfl) (by rw [List.size_toArray, hm, hl]) h1 (fun w' h2 h3 => by rw [hd]; exact h w' h2 h3)

set_option maxHeartbeats 1000000 in
/-- carried: the element of five numbers of 64 bits. -/
theorem fcarried_any (n0 n1 n2 n3 n4 : Nat) (w : World) (h0 : n0 < 18446744073709551616) (h1 : n1 < 18446744073709551616) (h2 : n2 < 18446744073709551616) (h3 : n3 < 18446744073709551616) (h4 : n4 < 18446744073709551616) (n : Nat) (hn : M.V5 n0 n1 n2 n3 n4 % M.Q = n) :
    Calls Try.prog 48 #[.int .u64 (n0 : Int), .int .u64 (n1 : Int), .int .u64 (n2 : Int), .int .u64 (n3 : Int), .int .u64 (n4 : Int)] w (GivesE Fl w n) := by
  have hcar := M.car_ok n0 n1 n2 n3 n4 h0 h1 h2 h3 h4
  obtain ⟨m0, e0⟩ : ∃ v, v = n0 % 2251799813685248 := ⟨_, rfl⟩
  obtain ⟨m1, e1⟩ : ∃ v, v = n1 % 2251799813685248 := ⟨_, rfl⟩
  obtain ⟨m2, e2⟩ : ∃ v, v = n2 % 2251799813685248 := ⟨_, rfl⟩
  obtain ⟨m3, e3⟩ : ∃ v, v = n3 % 2251799813685248 := ⟨_, rfl⟩
  obtain ⟨m4, e4⟩ : ∃ v, v = n4 % 2251799813685248 := ⟨_, rfl⟩
  obtain ⟨q0, d0⟩ : ∃ v, v = n0 / 2251799813685248 := ⟨_, rfl⟩
  obtain ⟨q1, d1⟩ : ∃ v, v = n1 / 2251799813685248 := ⟨_, rfl⟩
  obtain ⟨q2, d2⟩ : ∃ v, v = n2 / 2251799813685248 := ⟨_, rfl⟩
  obtain ⟨q3, d3⟩ : ∃ v, v = n3 / 2251799813685248 := ⟨_, rfl⟩
  obtain ⟨q4, d4⟩ : ∃ v, v = n4 / 2251799813685248 := ⟨_, rfl⟩
  rw [← e0, ← e1, ← e2, ← e3, ← e4, ← d0, ← d1, ← d2, ← d3, ← d4] at hcar
  obtain ⟨p, hp⟩ : ∃ v, v = 19 * q4 := ⟨_, rfl⟩
  obtain ⟨r0, hr0⟩ : ∃ v, v = m0 + p := ⟨_, rfl⟩
  obtain ⟨r1, hr1⟩ : ∃ v, v = m1 + q0 := ⟨_, rfl⟩
  obtain ⟨r2, hr2⟩ : ∃ v, v = m2 + q1 := ⟨_, rfl⟩
  obtain ⟨r3, hr3⟩ : ∃ v, v = m3 + q2 := ⟨_, rfl⟩
  obtain ⟨r4, hr4⟩ : ∃ v, v = m4 + q3 := ⟨_, rfl⟩
  rw [← hp, ← hr0, ← hr1, ← hr2, ← hr3, ← hr4] at hcar
  obtain ⟨L, hL⟩ : ∃ L, L = uc [r0, r1, r2, r3, r4] := ⟨_, rfl⟩
  have HF : Hid (Fl L n) := ⟨r0, r1, r2, r3, r4, hL, ⟨by omega, by omega, by omega, by omega, by omega⟩, by rw [M.mod_of_add hcar, hn]⟩
  have a0 : bits BinOp.and .u64 (n0 : Int) 2251799813685247 = (m0 : Int) := by rw [e0]; exact n_and n0 51 h0 (by decide)
  have a1 : bits BinOp.and .u64 (n1 : Int) 2251799813685247 = (m1 : Int) := by rw [e1]; exact n_and n1 51 h1 (by decide)
  have a2 : bits BinOp.and .u64 (n2 : Int) 2251799813685247 = (m2 : Int) := by rw [e2]; exact n_and n2 51 h2 (by decide)
  have a3 : bits BinOp.and .u64 (n3 : Int) 2251799813685247 = (m3 : Int) := by rw [e3]; exact n_and n3 51 h3 (by decide)
  have a4 : bits BinOp.and .u64 (n4 : Int) 2251799813685247 = (m4 : Int) := by rw [e4]; exact n_and n4 51 h4 (by decide)
  have s0 : (n0 : Int) / 2251799813685248 = (q0 : Int) := by omega
  have s1 : (n1 : Int) / 2251799813685248 = (q1 : Int) := by omega
  have s2 : (n2 : Int) / 2251799813685248 = (q2 : Int) := by omega
  have s3 : (n3 : Int) / 2251799813685248 = (q3 : Int) := by omega
  have s4 : (n4 : Int) / 2251799813685248 = (q4 : Int) := by omega
  have t4 : IntKind.u64.wrap (19 * (q4 : Int)) = (p : Int) := by rw [IntKind.wrap_u64]; omega
  have t4' : (19 * (q4 : Int)) % 18446744073709551616 = (p : Int) := by omega
  have u0 : IntKind.u64.wrap ((m0 : Int) + (p : Int)) = (r0 : Int) := by rw [IntKind.wrap_u64]; omega
  have u1 : IntKind.u64.wrap ((m1 : Int) + (q0 : Int)) = (r1 : Int) := by rw [IntKind.wrap_u64]; omega
  have u2 : IntKind.u64.wrap ((m2 : Int) + (q1 : Int)) = (r2 : Int) := by rw [IntKind.wrap_u64]; omega
  have u3 : IntKind.u64.wrap ((m3 : Int) + (q2 : Int)) = (r3 : Int) := by rw [IntKind.wrap_u64]; omega
  have u4 : IntKind.u64.wrap ((m4 : Int) + (q3 : Int)) = (r4 : Int) := by rw [IntKind.wrap_u64]; omega
  have u0' : ((m0 : Int) + (p : Int)) % 18446744073709551616 = (r0 : Int) := by omega
  have u1' : ((m1 : Int) + (q0 : Int)) % 18446744073709551616 = (r1 : Int) := by omega
  have u2' : ((m2 : Int) + (q1 : Int)) % 18446744073709551616 = (r2 : Int) := by omega
  have u3' : ((m3 : Int) + (q2 : Int)) % 18446744073709551616 = (r3 : Int) := by omega
  have u4' : ((m4 : Int) + (q3 : Int)) % 18446744073709551616 = (r4 : Int) := by omega
  have HL : Hid (L.toArray = #[.int .u64 (r0 : Int), .int .u64 (r1 : Int), .int .u64 (r2 : Int), .int .u64 (r3 : Int), .int .u64 (r4 : Int)]) := by rw [hL]; rfl
  have B0 : Hid (Blk (w.alloc (.cells #[.int .u64 0, .int .u64 0, .int .u64 0, .int .u64 0, .int .u64 0] 40)) w.heap.size 40 z5) := Blk.newAt _ _ _ _ _ rfl rfl
  have K0 : Hid (Below w.heap.size w (w.alloc (.cells #[.int .u64 0, .int .u64 0, .int .u64 0, .int .u64 0, .int .u64 0] 40))) := (Below.refl _ _).alloc (Nat.le_refl _) _
  clear hcar hL e0 e1 e2 e3 e4 d0 d1 d2 d3 d4 hp hr0 hr1 hr2 hr3 hr4 h0 h1 h2 h3 h4 hn
  go_enter Try.func48, Try.ntmps48
  go_wp2_with (rw [← HL.out]; refine wpList_store_el rfl rfl (.tmp 10) (.tmp 38) rfl w.heap.size rfl L z5 rfl B0.out z5_len HF.out.len HF.out.one ?_; intro w3 hb3 ho3)
  exact bodyPost_ret (results_cell_row rfl _ _ w.heap.size _ _ _ _ rfl hb3 Try.underlying40 rfl (by rw [List.size_toArray, HF.out.len]; kernel_rfl)) rfl ⟨L, rfl, HF.out, K0.out.trans (ho3.below K0.out.size (Nat.le_refl _))⟩

/-! numbers of 128 bits -/

/-- A number of 128 bits, as cells: the upper half, and the lower one. -/
def wd (s : Nat) : List Value := uc [s / 18446744073709551616, s % 18446744073709551616]

theorem wd_len (s : Nat) : (wd s).length = 2 := rfl

theorem wd_one (s : Nat) : ∀ u ∈ wd s, u.oneCell' = true := uc_one _

/-- The call hands back a number of 128 bits. -/
def GivesW (w : World) (s : Nat) (e : Ending) (w' : World) : Prop := ∃ L : List Value, e = .returned (.agg L.toArray) ∧ L = wd s ∧ Below w.heap.size w w'

def z2 : List Value := [.int .u64 0, .int .u64 0]

theorem wpList_store_wide {ops : Array Oper} {rest : List Oper} {o : Oper} {a : Act} {w : World} {Q : Exit → Act → World → Prop} (hg : o.guard = none) (hd : o.dst = none) (x y : Operand) (ho : o.op = .store 70 x y) (b : Nat) (hx : a.eval x = .pointer (some ⟨b, 0, none⟩)) (L M : List Value) (hy : a.eval y = .agg L.toArray) (hb : Blk w b 70 M) (hm : M.length = 2) (hl : L.length = 2) (h1 : ∀ u ∈ L, u.oneCell' = true)
    (h : ∀ w', Blk w' b 70 L → Only b w w' → wpList Try.prog ops Q rest a w') : wpList Try.prog ops Q (o :: rest) a w :=
  wpList_store_blk hg 70 x y ho b L.toArray hx hy 70 M hb (by rw [List.size_toArray, hl]; kernel_rfl) (by rw [List.size_toArray, hm, hl]) h1 (fun w' h2 h3 => by rw [hd]; exact h w' h2 h3)

set_option maxHeartbeats 1000000 in
theorem product_any (x y : Nat) (w : World) (hx : x < 18446744073709551616) (hy : y < 18446744073709551616) :
    Calls Try.prog 46 #[.int .u64 (x : Int), .int .u64 (y : Int)] w (GivesW w (x * y)) := by
  have C := Lib.hid (fun w => mul64_any x y hx hy w)
  obtain ⟨L, hL⟩ : ∃ L, L = wd (x * y) := ⟨_, rfl⟩
  obtain ⟨hi, hhi⟩ : ∃ v, v = x * y / 18446744073709551616 := ⟨_, rfl⟩
  obtain ⟨lo, hlo⟩ : ∃ v, v = x * y % 18446744073709551616 := ⟨_, rfl⟩
  rw [← hhi, ← hlo] at C
  have HL : Hid (L.toArray = #[.int .u64 (hi : Int), .int .u64 (lo : Int)]) := by rw [hL, hhi, hlo]; rfl
  have HF : Hid (L = wd (x * y)) := hL
  have HLL : Hid (L.length = 2) := by rw [hL]; rfl
  have HL1 : Hid (∀ u ∈ L, u.oneCell' = true) := by rw [hL]; exact wd_one _
  have B0 : Hid (Blk (w.alloc (.cells #[.int .u64 0, .int .u64 0] 70)) w.heap.size 70 z2) := Blk.newAt _ _ _ _ _ rfl rfl
  have K0 : Hid (Below w.heap.size w (w.alloc (.cells #[.int .u64 0, .int .u64 0] 70))) := (Below.refl _ _).alloc (Nat.le_refl _) _
  clear hL hhi hlo hx hy
  go_enter Try.func46, Try.ntmps46
  go_wp2_with fail
  refine (C.out _).mono ?_
  rintro e w' ⟨rfl, rfl⟩
  go_wp2_with (rw [← HL.out]; refine wpList_store_wide rfl rfl (.tmp 4) (.tmp 15) rfl w.heap.size rfl L z2 rfl B0.out rfl HLL.out HL1.out ?_; intro w3 hb3 ho3)
  exact bodyPost_ret (results_cell_row rfl _ _ w.heap.size _ _ _ _ rfl hb3 Try.underlying70 rfl (by rw [List.size_toArray, HLL.out]; kernel_rfl)) rfl ⟨L, rfl, HF.out, K0.out.trans (ho3.below K0.out.size (Nat.le_refl _))⟩

end Go.Proofs.Yteombilmndlhjaa
