/-
  CONTRACT OF orlopref07.Invert: the power p - 2, bit by bit. Conditions: the number is below 2^256.
  PLAIN MATHEMATICS OF package field: numbers by 2^255 - 19 in five limbs of 51 bits and a little. Nothing of the program but the shape of an element's cells. Conditions: as each says.
  CONTRACTS OF field.carried, product, plus, limb AND over: limbs of 64 bits, and numbers of 128. Conditions: as each says.
-/
import Derived.Test.YtdojalhaklkegaaDoorPn19
import Derived.Test.YtdojalhaklkegaaDoorPn17
import Derived.Test.YtdojalhaklkegaaDoorPn8
import Derived.Test.YtdojalhaklkegaaDoorPn10

namespace Go.Proofs.YtdojalhaklkegaaDoor
open Go.RowKit
set_option linter.unusedVariables false

namespace M

end M

end Go.Proofs.YtdojalhaklkegaaDoor

namespace Go.Proofs.YtdojalhaklkegaaDoor
open Go.RowKit
set_option linter.unusedVariables false

namespace M

/-- The number of five limbs. -/
def V5 (a b c d e : Nat) : Nat := a + b * 2251799813685248 + c * 5070602400912917605986812821504 + d * 11417981541647679048466287755595961091061972992 + e * 25711008708143844408671393477458601640355247900524685364822016

/-- What limbs of 64 bits come to, what goes over carried once. -/
theorem car_ok (n0 n1 n2 n3 n4 : Nat) (h0 : n0 < 18446744073709551616) (h1 : n1 < 18446744073709551616) (h2 : n2 < 18446744073709551616) (h3 : n3 < 18446744073709551616) (h4 : n4 < 18446744073709551616) :
    V5 (n0 % 2251799813685248 + 19 * (n4 / 2251799813685248)) (n1 % 2251799813685248 + n0 / 2251799813685248) (n2 % 2251799813685248 + n1 / 2251799813685248) (n3 % 2251799813685248 + n2 / 2251799813685248) (n4 % 2251799813685248 + n3 / 2251799813685248) + n4 / 2251799813685248 * Q = V5 n0 n1 n2 n3 n4 := by
  unfold V5 Q
  omega

/-- Twice the prime, in limbs. -/
theorem sub_ok (a b c d e a' b' c' d' e' : Nat) (h0 : a' ≤ a + 4503599627370458) (h1 : b' ≤ b + 4503599627370494) (h2 : c' ≤ c + 4503599627370494) (h3 : d' ≤ d + 4503599627370494) (h4 : e' ≤ e + 4503599627370494) :
    V5 (a + 4503599627370458 - a') (b + 4503599627370494 - b') (c + 4503599627370494 - c') (d + 4503599627370494 - d') (e + 4503599627370494 - e') + V5 a' b' c' d' e' = V5 a b c d e + 2 * Q := by
  unfold V5 Q
  omega

theorem add_ok (a b c d e a' b' c' d' e' : Nat) : V5 (a + a') (b + b') (c + c') (d + d') (e + e') = V5 a b c d e + V5 a' b' c' d' e' := by
  unfold V5
  omega

/-- Five sums of products, carried among themselves, are the product of both numbers, by the prime. -/
theorem mul_ok (a0 a1 a2 a3 a4 b0 b1 b2 b3 b4 : Nat) : ∃ k,
    V5 (a0 * b0 + 19 * (a1 * b4) + 19 * (a2 * b3) + 19 * (a3 * b2) + 19 * (a4 * b1)) (a0 * b1 + a1 * b0 + 19 * (a2 * b4) + 19 * (a3 * b3) + 19 * (a4 * b2)) (a0 * b2 + a1 * b1 + a2 * b0 + 19 * (a3 * b4) + 19 * (a4 * b3)) (a0 * b3 + a1 * b2 + a2 * b1 + a3 * b0 + 19 * (a4 * b4)) (a0 * b4 + a1 * b3 + a2 * b2 + a3 * b1 + a4 * b0) + k * Q = V5 a0 a1 a2 a3 a4 * V5 b0 b1 b2 b3 b4 := by
  refine ⟨(a1 * b4 + a2 * b3 + a3 * b2 + a4 * b1) + (a2 * b4 + a3 * b3 + a4 * b2) * 2251799813685248 + (a3 * b4 + a4 * b3) * 5070602400912917605986812821504 + a4 * b4 * 11417981541647679048466287755595961091061972992, ?_⟩
  rw [Nat.add_mul, Nat.add_mul, Nat.add_mul]
  conv => rhs; unfold V5
  rw [five_cols, five_rows, five_rows, five_rows, five_rows, five_rows]
  unfold V5 Q
  generalize a0 * b0 = p00
  generalize a0 * b1 = p01
  generalize a0 * b2 = p02
  generalize a0 * b3 = p03
  generalize a0 * b4 = p04
  generalize a1 * b0 = p10
  generalize a1 * b1 = p11
  generalize a1 * b2 = p12
  generalize a1 * b3 = p13
  generalize a1 * b4 = p14
  generalize a2 * b0 = p20
  generalize a2 * b1 = p21
  generalize a2 * b2 = p22
  generalize a2 * b3 = p23
  generalize a2 * b4 = p24
  generalize a3 * b0 = p30
  generalize a3 * b1 = p31
  generalize a3 * b2 = p32
  generalize a3 * b3 = p33
  generalize a3 * b4 = p34
  generalize a4 * b0 = p40
  generalize a4 * b1 = p41
  generalize a4 * b2 = p42
  generalize a4 * b3 = p43
  generalize a4 * b4 = p44
  omega

/-- What five sums hand on: each sum's limb, and what goes over from the one ahead. -/
theorem over_ok (s0 s1 s2 s3 s4 : Nat) : V5 (s0 % 2251799813685248 + 19 * (s4 / 2251799813685248)) (s1 % 2251799813685248 + s0 / 2251799813685248) (s2 % 2251799813685248 + s1 / 2251799813685248) (s3 % 2251799813685248 + s2 / 2251799813685248) (s4 % 2251799813685248 + s3 / 2251799813685248) + s4 / 2251799813685248 * Q = V5 s0 s1 s2 s3 s4 := by
  unfold V5 Q
  omega

theorem mod_of_add {x y k q : Nat} (h : x + k * q = y) : x % q = y % q := by rw [← h, Nat.add_mul_mod_self_right]

end M

/-- An element's cells: five limbs, each below 2^51 + 2^18, of the number n by the prime. -/
def Fl (L : List Value) (n : Nat) : Prop := ∃ a b c d e : Nat, L = uc [a, b, c, d, e] ∧ (a < 2251799813947392 ∧ b < 2251799813947392 ∧ c < 2251799813947392 ∧ d < 2251799813947392 ∧ e < 2251799813947392) ∧ M.V5 a b c d e % M.Q = n

/-- The call hands back an element. -/
def GivesE (Fe : List Value → Nat → Prop) (w : World) (n : Nat) (e : Ending) (w' : World) : Prop := ∃ L : List Value, e = .returned (.agg L.toArray) ∧ Fe L n ∧ Below w.heap.size w w'

theorem GivesE.mono {Fe : List Value → Nat → Prop} {w w1 : World} {n : Nat} {e : Ending} {w' : World} (h : GivesE Fe w1 n e w') (k : Below w.heap.size w w1) : GivesE Fe w n e w' := by
  obtain ⟨L, h1, h2, h3⟩ := h
  exact ⟨L, h1, h2, k.trans (h3.mono k.size)⟩

/-- The call hands back two elements. -/
def GivesEE (Fe : List Value → Nat → Prop) (w : World) (m n : Nat) (e : Ending) (w' : World) : Prop := ∃ K L : List Value, e = .returned (.tuple #[.agg K.toArray, .agg L.toArray]) ∧ Fe K m ∧ Fe L n ∧ Below w.heap.size w w'

theorem Fl.len {L : List Value} {n : Nat} (h : Fl L n) : L.length = 5 := by
  obtain ⟨a, b, c, d, e, rfl, _⟩ := h
  rw [uc_length]
  rfl

theorem Fl.one {L : List Value} {n : Nat} (h : Fl L n) : ∀ u ∈ L, u.oneCell' = true := by
  obtain ⟨a, b, c, d, e, rfl, _⟩ := h
  exact uc_one _

theorem Fl.lt {L : List Value} {n : Nat} (h : Fl L n) : n < M.Q := by
  obtain ⟨a, b, c, d, e, _, _, rfl⟩ := h
  exact Nat.mod_lt _ M.Q_pos

end Go.Proofs.YtdojalhaklkegaaDoor

namespace Go.Proofs.YtdojalhaklkegaaDoor
open Go.RowKit
set_option linter.unusedVariables false

def z5 : List Value := List.replicate 5 (.int .u64 0)

theorem z5_len : z5.length = 5 := List.length_replicate

theorem z5_arr : z5.toArray = #[Value.int .u64 0, Value.int .u64 0, Value.int .u64 0, Value.int .u64 0, Value.int .u64 0] := rfl

theorem wpList_load_el {ops : Array Oper} {rest : List Oper} {o : Oper} {a : Act} {w : World} {Q : Exit → Act → World → Prop} (hg : o.guard = none) (x : Operand) (ho : o.op = .load 62 x) (b : Nat) (hx : a.eval x = .pointer (some ⟨b, 0, none⟩)) (L : List Value) (hb : Blk w b 62 L) (hl : L.length = 5)
    (h : wpList Tryd.prog ops Q rest (a.put o.dst (.agg L.toArray)) w) : wpList Tryd.prog ops Q (o :: rest) a w :=
  wpList_load_mid hg 62 x ho b 0 hx L _ (hb.range 0 _ [] (by simp)) Tryd.underlying62 rfl (by rw [hl]; kernel_rfl) h

theorem wpList_store_el {ops : Array Oper} {rest : List Oper} {o : Oper} {a : Act} {w : World} {Q : Exit → Act → World → Prop} (hg : o.guard = none) (hd : o.dst = none) (x y : Operand) (ho : o.op = .store 62 x y) (b : Nat) (hx : a.eval x = .pointer (some ⟨b, 0, none⟩)) (L M : List Value) (hy : a.eval y = .agg L.toArray) (hb : Blk w b 62 M) (hm : M.length = 5) (hl : L.length = 5) (h1 : ∀ u ∈ L, u.oneCell' = true)
    (h : ∀ w', Blk w' b 62 L → Only b w w' → wpList Tryd.prog ops Q rest a w') : wpList Tryd.prog ops Q (o :: rest) a w :=
  wpList_store_blk hg 62 x y ho b L.toArray hx hy 62 M hb (by rw [List.size_toArray, hl]; kernel_rfl) (by rw [List.size_toArray, hm, hl]) h1 (fun w' h2 h3 => by rw [hd]; exact h w' h2 h3)

set_option maxHeartbeats 1000000 in
/-- carried: the element of five numbers of 64 bits. -/
theorem fcarried_any (n0 n1 n2 n3 n4 : Nat) (w : World) (h0 : n0 < 18446744073709551616) (h1 : n1 < 18446744073709551616) (h2 : n2 < 18446744073709551616) (h3 : n3 < 18446744073709551616) (h4 : n4 < 18446744073709551616) (n : Nat) (hn : M.V5 n0 n1 n2 n3 n4 % M.Q = n) :
    Calls Tryd.prog 91 #[.int .u64 (n0 : Int), .int .u64 (n1 : Int), .int .u64 (n2 : Int), .int .u64 (n3 : Int), .int .u64 (n4 : Int)] w (GivesE Fl w n) := by
  have hcar := M.car_ok n0 n1 n2 n3 n4 h0 h1 h2 h3 h4
  obtain ⟨m0, e0⟩ : ∃ v, v = n0 % 2251799813685248 := ⟨_, rfl⟩
  obtain ⟨m1, e1⟩ : ∃ v, v = n1 % 2251799813685248 := ⟨_, rfl⟩
  obtain ⟨m2, e2⟩ : ∃ v, v = n2 % 2251799813685248 := ⟨_, rfl⟩
  obtain ⟨m3, e3⟩ : ∃ v, v = n3 % 2251799813685248 := ⟨_, rfl⟩
  obtain ⟨m4, e4⟩ : ∃ v, v = n4 % 2251799813685248 := ⟨_, rfl⟩
  obtain ⟨q0, d0⟩ : ∃ v, v = n0 / 2251799813685248 := ⟨_, rfl⟩
  obtain ⟨q1, d1⟩ : ∃ v, v = n1 / 2251799813685248 := ⟨_, rfl⟩
  obtain ⟨q2, d2⟩ : ∃ v, v = n2 / 2251799813685248 := ⟨_, rfl⟩
  obtain ⟨q3, d3⟩ : ∃ v, v = n3 / 2251799813685248 := ⟨_, rfl⟩
  obtain ⟨q4, d4⟩ : ∃ v, v = n4 / 2251799813685248 := ⟨_, rfl⟩
  rw [← e0, ← e1, ← e2, ← e3, ← e4, ← d0, ← d1, ← d2, ← d3, ← d4] at hcar
  obtain ⟨p, hp⟩ : ∃ v, v = 19 * q4 := ⟨_, rfl⟩
  obtain ⟨r0, hr0⟩ : ∃ v, v = m0 + p := ⟨_, rfl⟩
  obtain ⟨r1, hr1⟩ : ∃ v, v = m1 + q0 := ⟨_, rfl⟩
  obtain ⟨r2, hr2⟩ : ∃ v, v = m2 + q1 := ⟨_, rfl⟩
  obtain ⟨r3, hr3⟩ : ∃ v, v = m3 + q2 := ⟨_, rfl⟩
  obtain ⟨r4, hr4⟩ : ∃ v, v = m4 + q3 := ⟨_, rfl⟩
  rw [← hp, ← hr0, ← hr1, ← hr2, ← hr3, ← hr4] at hcar
  obtain ⟨L, hL⟩ : ∃ L, L = uc [r0, r1, r2, r3, r4] := ⟨_, rfl⟩
  have HF : Hid (Fl L n) := ⟨r0, r1, r2, r3, r4, hL, ⟨by omega, by omega, by omega, by omega, by omega⟩, by rw [M.mod_of_add hcar, hn]⟩
  have a0 : bits BinOp.and .u64 (n0 : Int) 2251799813685247 = (m0 : Int) := by rw [e0]; exact n_and n0 51 h0 (by decide)
  have a1 : bits BinOp.and .u64 (n1 : Int) 2251799813685247 = (m1 : Int) := by rw [e1]; exact n_and n1 51 h1 (by decide)
  have a2 : bits BinOp.and .u64 (n2 : Int) 2251799813685247 = (m2 : Int) := by rw [e2]; exact n_and n2 51 h2 (by decide)
  have a3 : bits BinOp.and .u64 (n3 : Int) 2251799813685247 = (m3 : Int) := by rw [e3]; exact n_and n3 51 h3 (by decide)
  have a4 : bits BinOp.and .u64 (n4 : Int) 2251799813685247 = (m4 : Int) := by rw [e4]; exact n_and n4 51 h4 (by decide)
  have s0 : (n0 : Int) / 2251799813685248 = (q0 : Int) := by omega
  have s1 : (n1 : Int) / 2251799813685248 = (q1 : Int) := by omega
  have s2 : (n2 : Int) / 2251799813685248 = (q2 : Int) := by omega
  have s3 : (n3 : Int) / 2251799813685248 = (q3 : Int) := by omega
  have s4 : (n4 : Int) / 2251799813685248 = (q4 : Int) := by omega
  have t4 : IntKind.u64.wrap (19 * (q4 : Int)) = (p : Int) := by rw [IntKind.wrap_u64]; omega
  have t4' : (19 * (q4 : Int)) % 18446744073709551616 = (p : Int) := by omega
  have u0 : IntKind.u64.wrap ((m0 : Int) + (p : Int)) = (r0 : Int) := by rw [IntKind.wrap_u64]; omega
  have u1 : IntKind.u64.wrap ((m1 : Int) + (q0 : Int)) = (r1 : Int) := by rw [IntKind.wrap_u64]; omega
  have u2 : IntKind.u64.wrap ((m2 : Int) + (q1 : Int)) = (r2 : Int) := by rw [IntKind.wrap_u64]; omega
  have u3 : IntKind.u64.wrap ((m3 : Int) + (q2 : Int)) = (r3 : Int) := by rw [IntKind.wrap_u64]; omega
  have u4 : IntKind.u64.wrap ((m4 : Int) + (q3 : Int)) = (r4 : Int) := by rw [IntKind.wrap_u64]; omega
  have u0' : ((m0 : Int) + (p : Int)) % 18446744073709551616 = (r0 : Int) := by omega
  have u1' : ((m1 : Int) + (q0 : Int)) % 18446744073709551616 = (r1 : Int) := by omega
  have u2' : ((m2 : Int) + (q1 : Int)) % 18446744073709551616 = (r2 : Int) := by omega
  have u3' : ((m3 : Int) + (q2 : Int)) % 18446744073709551616 = (r3 : Int) := by omega
  have u4' : ((m4 : Int) + (q3 : Int)) % 18446744073709551616 = (r4 : Int) := by omega
  have HL : Hid (L.toArray = #[.int .u64 (r0 : Int), .int .u64 (r1 : Int), .int .u64 (r2 : Int), .int .u64 (r3 : Int), .int .u64 (r4 : Int)]) := by rw [hL]; rfl
  have B0 : Hid (Blk (w.alloc (.cells #[.int .u64 0, .int .u64 0, .int .u64 0, .int .u64 0, .int .u64 0] 62)) w.heap.size 62 z5) := Blk.newAt _ _ _ _ _ rfl rfl
  have K0 : Hid (Below w.heap.size w (w.alloc (.cells #[.int .u64 0, .int .u64 0, .int .u64 0, .int .u64 0, .int .u64 0] 62))) := (Below.refl _ _).alloc (Nat.le_refl _) _
  clear hcar hL e0 e1 e2 e3 e4 d0 d1 d2 d3 d4 hp hr0 hr1 hr2 hr3 hr4 h0 h1 h2 h3 h4 hn
  go_enter Tryd.func91, Tryd.ntmps91
  go_wp2_with (rw [← HL.out]; refine wpList_store_el rfl rfl (.tmp 10) (.tmp 38) rfl w.heap.size rfl L z5 rfl B0.out z5_len HF.out.len HF.out.one ?_; intro w3 hb3 ho3)
  exact bodyPost_ret (results_cell_row rfl _ _ w.heap.size _ _ _ _ rfl hb3 Tryd.underlying62 rfl (by rw [List.size_toArray, HF.out.len]; kernel_rfl)) rfl ⟨L, rfl, HF.out, K0.out.trans (ho3.below K0.out.size (Nat.le_refl _))⟩

/-! numbers of 128 bits -/

/-- A number of 128 bits, as cells: the upper half, and the lower one. -/
def wd (s : Nat) : List Value := uc [s / 18446744073709551616, s % 18446744073709551616]

theorem wd_one (s : Nat) : ∀ u ∈ wd s, u.oneCell' = true := uc_one _

/-- The call hands back a number of 128 bits. -/
def GivesW (w : World) (s : Nat) (e : Ending) (w' : World) : Prop := ∃ L : List Value, e = .returned (.agg L.toArray) ∧ L = wd s ∧ Below w.heap.size w w'

def z2 : List Value := [.int .u64 0, .int .u64 0]

theorem wpList_store_wide {ops : Array Oper} {rest : List Oper} {o : Oper} {a : Act} {w : World} {Q : Exit → Act → World → Prop} (hg : o.guard = none) (hd : o.dst = none) (x y : Operand) (ho : o.op = .store 136 x y) (b : Nat) (hx : a.eval x = .pointer (some ⟨b, 0, none⟩)) (L M : List Value) (hy : a.eval y = .agg L.toArray) (hb : Blk w b 136 M) (hm : M.length = 2) (hl : L.length = 2) (h1 : ∀ u ∈ L, u.oneCell' = true)
    (h : ∀ w', Blk w' b 136 L → Only b w w' → wpList Tryd.prog ops Q rest a w') : wpList Tryd.prog ops Q (o :: rest) a w :=
  wpList_store_blk hg 136 x y ho b L.toArray hx hy 136 M hb (by rw [List.size_toArray, hl]; kernel_rfl) (by rw [List.size_toArray, hm, hl]) h1 (fun w' h2 h3 => by rw [hd]; exact h w' h2 h3)

set_option maxHeartbeats 1000000 in
theorem product_any (x y : Nat) (w : World) (hx : x < 18446744073709551616) (hy : y < 18446744073709551616) :
    Calls Tryd.prog 89 #[.int .u64 (x : Int), .int .u64 (y : Int)] w (GivesW w (x * y)) := by
  have C := Lib.hid (fun w => mul64_any x y hx hy w)
  obtain ⟨L, hL⟩ : ∃ L, L = wd (x * y) := ⟨_, rfl⟩
  obtain ⟨hi, hhi⟩ : ∃ v, v = x * y / 18446744073709551616 := ⟨_, rfl⟩
  obtain ⟨lo, hlo⟩ : ∃ v, v = x * y % 18446744073709551616 := ⟨_, rfl⟩
  rw [← hhi, ← hlo] at C
  have HL : Hid (L.toArray = #[.int .u64 (hi : Int), .int .u64 (lo : Int)]) := by rw [hL, hhi, hlo]; rfl
  have HF : Hid (L = wd (x * y)) := hL
  have HLL : Hid (L.length = 2) := by rw [hL]; rfl
  have HL1 : Hid (∀ u ∈ L, u.oneCell' = true) := by rw [hL]; exact wd_one _
  have B0 : Hid (Blk (w.alloc (.cells #[.int .u64 0, .int .u64 0] 136)) w.heap.size 136 z2) := Blk.newAt _ _ _ _ _ rfl rfl
  have K0 : Hid (Below w.heap.size w (w.alloc (.cells #[.int .u64 0, .int .u64 0] 136))) := (Below.refl _ _).alloc (Nat.le_refl _) _
  clear hL hhi hlo hx hy
  go_enter Tryd.func89, Tryd.ntmps89
  go_wp2_with fail
  refine (C.out _).mono ?_
  rintro e w' ⟨rfl, rfl⟩
  go_wp2_with (rw [← HL.out]; refine wpList_store_wide rfl rfl (.tmp 4) (.tmp 15) rfl w.heap.size rfl L z2 rfl B0.out rfl HLL.out HL1.out ?_; intro w3 hb3 ho3)
  exact bodyPost_ret (results_cell_row rfl _ _ w.heap.size _ _ _ _ rfl hb3 Tryd.underlying136 rfl (by rw [List.size_toArray, HLL.out]; kernel_rfl)) rfl ⟨L, rfl, HF.out, K0.out.trans (ho3.below K0.out.size (Nat.le_refl _))⟩

end Go.Proofs.YtdojalhaklkegaaDoor
