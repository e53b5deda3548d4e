/-
  CONTRACTS OF (field.Elem).Mul, Square AND Times. Conditions: the cells are elements'. (Written by gen_fmul.py.)
-/
import Derived.Test.YtdojalhaklkegaaDoorFieldW
namespace Go.Proofs.YtdojalhaklkegaaDoor
open Go.RowKit
set_option linter.unusedVariables false

theorem p_le (x y : Nat) (hx : x < 2251799813947392) (hy : y < 2251799813947392) : x * y ≤ 5070602402093508793934406483881 := Nat.le_trans (Nat.mul_le_mul (Nat.le_of_lt_succ hx) (Nat.le_of_lt_succ hy)) (by decide)

theorem p_19 (x y : Nat) : x * (19 * y) = 19 * (x * y) := by rw [Nat.mul_left_comm]

theorem product_at (x y t : Nat) (w : World) (ht : t = x * y) (hx : x < 18446744073709551616) (hy : y < 18446744073709551616) :
    Calls Tryd.prog 89 #[.int .u64 (x : Int), .int .u64 (y : Int)] w (GivesW w t) := by rw [ht]; exact product_any x y w hx hy

theorem wplus_at (s x y t : Nat) (w : World) (S : List Value) (hS : Hid (S = wd s)) (ht : t = s + x * y) (hx : x < 18446744073709551616) (hy : y < 18446744073709551616) (hb : t < 340282366920938463463374607431768211456) :
    Calls Tryd.prog 90 #[.agg S.toArray, .int .u64 (x : Int), .int .u64 (y : Int)] w (GivesW w t) := by rw [ht]; exact wplus_any s x y w hx hy (by rw [← ht]; exact hb) S hS.out

theorem wlimb_at (s t : Nat) (w : World) (S : List Value) (hS : Hid (S = wd s)) (ht : t = s % 2251799813685248) :
    Calls Tryd.prog 92 #[.agg S.toArray] w fun e w' => e = .returned (.int .u64 (t : Int)) ∧ Below w.heap.size w w' := by rw [ht]; exact wlimb_any s w S hS.out

theorem wover_at (s t : Nat) (w : World) (S : List Value) (hS : Hid (S = wd s)) (ht : t = s / 2251799813685248) (hb : s < 10384593717069655257060992658440192) :
    Calls Tryd.prog 93 #[.agg S.toArray] w fun e w' => e = .returned (.int .u64 (t : Int)) ∧ Below w.heap.size w w' := by rw [ht]; exact wover_any s w S hS.out (Nat.lt_trans hb (by decide))

theorem wide_len {S : List Value} {s : Nat} (h : Hid (S = wd s)) : S.length = 2 := by rw [h.out]; rfl

theorem wide_one {S : List Value} {s : Nat} (h : Hid (S = wd s)) : ∀ u ∈ S, u.oneCell' = true := by rw [h.out]; exact wd_one _

/-- The five sums of products, stage by stage. -/
def Sums (a0 a1 a2 a3 a4 b0 b1 b2 b3 b4 c1 c2 c3 c4 s00 s01 s02 s03 s04 s10 s11 s12 s13 s14 s20 s21 s22 s23 s24 s30 s31 s32 s33 s34 s40 s41 s42 s43 s44 : Nat) : Prop := s00 = a0 * b0 ∧ s01 = s00 + a1 * c4 ∧ s02 = s01 + a2 * c3 ∧ s03 = s02 + a3 * c2 ∧ s04 = s03 + a4 * c1 ∧ s10 = a0 * b1 ∧ s11 = s10 + a1 * b0 ∧ s12 = s11 + a2 * c4 ∧ s13 = s12 + a3 * c3 ∧ s14 = s13 + a4 * c2 ∧ s20 = a0 * b2 ∧ s21 = s20 + a1 * b1 ∧ s22 = s21 + a2 * b0 ∧ s23 = s22 + a3 * c4 ∧ s24 = s23 + a4 * c3 ∧ s30 = a0 * b3 ∧ s31 = s30 + a1 * b2 ∧ s32 = s31 + a2 * b1 ∧ s33 = s32 + a3 * b0 ∧ s34 = s33 + a4 * c4 ∧ s40 = a0 * b4 ∧ s41 = s40 + a1 * b3 ∧ s42 = s41 + a2 * b2 ∧ s43 = s42 + a3 * b1 ∧ s44 = s43 + a4 * b0

def SumsB (s00 s01 s02 s03 s04 s10 s11 s12 s13 s14 s20 s21 s22 s23 s24 s30 s31 s32 s33 s34 s40 s41 s42 s43 s44 : Nat) : Prop := s00 < 10384593717069655257060992658440192 ∧ s01 < 10384593717069655257060992658440192 ∧ s02 < 10384593717069655257060992658440192 ∧ s03 < 10384593717069655257060992658440192 ∧ s04 < 10384593717069655257060992658440192 ∧ s10 < 10384593717069655257060992658440192 ∧ s11 < 10384593717069655257060992658440192 ∧ s12 < 10384593717069655257060992658440192 ∧ s13 < 10384593717069655257060992658440192 ∧ s14 < 10384593717069655257060992658440192 ∧ s20 < 10384593717069655257060992658440192 ∧ s21 < 10384593717069655257060992658440192 ∧ s22 < 10384593717069655257060992658440192 ∧ s23 < 10384593717069655257060992658440192 ∧ s24 < 10384593717069655257060992658440192 ∧ s30 < 10384593717069655257060992658440192 ∧ s31 < 10384593717069655257060992658440192 ∧ s32 < 10384593717069655257060992658440192 ∧ s33 < 10384593717069655257060992658440192 ∧ s34 < 10384593717069655257060992658440192 ∧ s40 < 10384593717069655257060992658440192 ∧ s41 < 10384593717069655257060992658440192 ∧ s42 < 10384593717069655257060992658440192 ∧ s43 < 10384593717069655257060992658440192 ∧ s44 < 10384593717069655257060992658440192

theorem sums_bound (a0 a1 a2 a3 a4 b0 b1 b2 b3 b4 c1 c2 c3 c4 s00 s01 s02 s03 s04 s10 s11 s12 s13 s14 s20 s21 s22 s23 s24 s30 s31 s32 s33 s34 s40 s41 s42 s43 s44 : Nat) (la0 : a0 < 2251799813947392) (la1 : a1 < 2251799813947392) (la2 : a2 < 2251799813947392) (la3 : a3 < 2251799813947392) (la4 : a4 < 2251799813947392) (lb0 : b0 < 2251799813947392) (lb1 : b1 < 2251799813947392) (lb2 : b2 < 2251799813947392) (lb3 : b3 < 2251799813947392) (lb4 : b4 < 2251799813947392)
    (hc1 : c1 = 19 * b1) (hc2 : c2 = 19 * b2) (hc3 : c3 = 19 * b3) (hc4 : c4 = 19 * b4) (hs : Sums a0 a1 a2 a3 a4 b0 b1 b2 b3 b4 c1 c2 c3 c4 s00 s01 s02 s03 s04 s10 s11 s12 s13 s14 s20 s21 s22 s23 s24 s30 s31 s32 s33 s34 s40 s41 s42 s43 s44) :
    SumsB s00 s01 s02 s03 s04 s10 s11 s12 s13 s14 s20 s21 s22 s23 s24 s30 s31 s32 s33 s34 s40 s41 s42 s43 s44 ∧ s44 < 25353012010467543969672032419406 ∧ ∃ k, M.V5 s04 s14 s24 s34 s44 + k * M.Q = M.V5 a0 a1 a2 a3 a4 * M.V5 b0 b1 b2 b3 b4 := by
  obtain ⟨hs00, hs01, hs02, hs03, hs04, hs10, hs11, hs12, hs13, hs14, hs20, hs21, hs22, hs23, hs24, hs30, hs31, hs32, hs33, hs34, hs40, hs41, hs42, hs43, hs44⟩ := hs
  have q00 := p_le a0 b0 la0 lb0
  have q01 := p_le a0 b1 la0 lb1
  have q02 := p_le a0 b2 la0 lb2
  have q03 := p_le a0 b3 la0 lb3
  have q04 := p_le a0 b4 la0 lb4
  have q10 := p_le a1 b0 la1 lb0
  have q11 := p_le a1 b1 la1 lb1
  have q12 := p_le a1 b2 la1 lb2
  have q13 := p_le a1 b3 la1 lb3
  have q14 := p_le a1 b4 la1 lb4
  have q20 := p_le a2 b0 la2 lb0
  have q21 := p_le a2 b1 la2 lb1
  have q22 := p_le a2 b2 la2 lb2
  have q23 := p_le a2 b3 la2 lb3
  have q24 := p_le a2 b4 la2 lb4
  have q30 := p_le a3 b0 la3 lb0
  have q31 := p_le a3 b1 la3 lb1
  have q32 := p_le a3 b2 la3 lb2
  have q33 := p_le a3 b3 la3 lb3
  have q34 := p_le a3 b4 la3 lb4
  have q40 := p_le a4 b0 la4 lb0
  have q41 := p_le a4 b1 la4 lb1
  have q42 := p_le a4 b2 la4 lb2
  have q43 := p_le a4 b3 la4 lb3
  have q44 := p_le a4 b4 la4 lb4
  have e0 : s04 = a0 * b0 + 19 * (a1 * b4) + 19 * (a2 * b3) + 19 * (a3 * b2) + 19 * (a4 * b1) := by rw [hs04, hs03, hs02, hs01, hs00, hc4, p_19, hc3, p_19, hc2, p_19, hc1, p_19]
  have e1 : s14 = a0 * b1 + a1 * b0 + 19 * (a2 * b4) + 19 * (a3 * b3) + 19 * (a4 * b2) := by rw [hs14, hs13, hs12, hs11, hs10, hc4, p_19, hc3, p_19, hc2, p_19]
  have e2 : s24 = a0 * b2 + a1 * b1 + a2 * b0 + 19 * (a3 * b4) + 19 * (a4 * b3) := by rw [hs24, hs23, hs22, hs21, hs20, hc4, p_19, hc3, p_19]
  have e3 : s34 = a0 * b3 + a1 * b2 + a2 * b1 + a3 * b0 + 19 * (a4 * b4) := by rw [hs34, hs33, hs32, hs31, hs30, hc4, p_19]
  have e4 : s44 = a0 * b4 + a1 * b3 + a2 * b2 + a3 * b1 + a4 * b0 := by rw [hs44, hs43, hs42, hs41, hs40]
  have l04 : s04 < 10384593717069655257060992658440192 := by rw [e0]; clear hs00 hs01 hs02 hs03 hs04; omega
  have l14 : s14 < 10384593717069655257060992658440192 := by rw [e1]; clear hs10 hs11 hs12 hs13 hs14; omega
  have l24 : s24 < 10384593717069655257060992658440192 := by rw [e2]; clear hs20 hs21 hs22 hs23 hs24; omega
  have l34 : s34 < 10384593717069655257060992658440192 := by rw [e3]; clear hs30 hs31 hs32 hs33 hs34; omega
  have l44 : s44 < 10384593717069655257060992658440192 := by rw [e4]; clear hs40 hs41 hs42 hs43 hs44; omega
  have l03 : s03 < 10384593717069655257060992658440192 := Nat.lt_of_le_of_lt (by rw [hs04]; exact Nat.le_add_right _ _) l04
  have l02 : s02 < 10384593717069655257060992658440192 := Nat.lt_of_le_of_lt (by rw [hs03]; exact Nat.le_add_right _ _) l03
  have l01 : s01 < 10384593717069655257060992658440192 := Nat.lt_of_le_of_lt (by rw [hs02]; exact Nat.le_add_right _ _) l02
  have l00 : s00 < 10384593717069655257060992658440192 := Nat.lt_of_le_of_lt (by rw [hs01]; exact Nat.le_add_right _ _) l01
  have l13 : s13 < 10384593717069655257060992658440192 := Nat.lt_of_le_of_lt (by rw [hs14]; exact Nat.le_add_right _ _) l14
  have l12 : s12 < 10384593717069655257060992658440192 := Nat.lt_of_le_of_lt (by rw [hs13]; exact Nat.le_add_right _ _) l13
  have l11 : s11 < 10384593717069655257060992658440192 := Nat.lt_of_le_of_lt (by rw [hs12]; exact Nat.le_add_right _ _) l12
  have l10 : s10 < 10384593717069655257060992658440192 := Nat.lt_of_le_of_lt (by rw [hs11]; exact Nat.le_add_right _ _) l11
  have l23 : s23 < 10384593717069655257060992658440192 := Nat.lt_of_le_of_lt (by rw [hs24]; exact Nat.le_add_right _ _) l24
  have l22 : s22 < 10384593717069655257060992658440192 := Nat.lt_of_le_of_lt (by rw [hs23]; exact Nat.le_add_right _ _) l23
  have l21 : s21 < 10384593717069655257060992658440192 := Nat.lt_of_le_of_lt (by rw [hs22]; exact Nat.le_add_right _ _) l22
  have l20 : s20 < 10384593717069655257060992658440192 := Nat.lt_of_le_of_lt (by rw [hs21]; exact Nat.le_add_right _ _) l21
  have l33 : s33 < 10384593717069655257060992658440192 := Nat.lt_of_le_of_lt (by rw [hs34]; exact Nat.le_add_right _ _) l34
  have l32 : s32 < 10384593717069655257060992658440192 := Nat.lt_of_le_of_lt (by rw [hs33]; exact Nat.le_add_right _ _) l33
  have l31 : s31 < 10384593717069655257060992658440192 := Nat.lt_of_le_of_lt (by rw [hs32]; exact Nat.le_add_right _ _) l32
  have l30 : s30 < 10384593717069655257060992658440192 := Nat.lt_of_le_of_lt (by rw [hs31]; exact Nat.le_add_right _ _) l31
  have l43 : s43 < 10384593717069655257060992658440192 := Nat.lt_of_le_of_lt (by rw [hs44]; exact Nat.le_add_right _ _) l44
  have l42 : s42 < 10384593717069655257060992658440192 := Nat.lt_of_le_of_lt (by rw [hs43]; exact Nat.le_add_right _ _) l43
  have l41 : s41 < 10384593717069655257060992658440192 := Nat.lt_of_le_of_lt (by rw [hs42]; exact Nat.le_add_right _ _) l42
  have l40 : s40 < 10384593717069655257060992658440192 := Nat.lt_of_le_of_lt (by rw [hs41]; exact Nat.le_add_right _ _) l41
  refine ⟨⟨l00, l01, l02, l03, l04, l10, l11, l12, l13, l14, l20, l21, l22, l23, l24, l30, l31, l32, l33, l34, l40, l41, l42, l43, l44⟩, by rw [e4]; clear hs40 hs41 hs42 hs43 hs44; omega, ?_⟩
  rw [e0, e1, e2, e3, e4]
  exact M.mul_ok a0 a1 a2 a3 a4 b0 b1 b2 b3 b4

/-- What is handed on. -/
def Outs (s04 s14 s24 s34 s44 m0 m1 m2 m3 m4 o0 o1 o2 o3 o4 p n0 n1 n2 n3 n4 : Nat) : Prop := m0 = s04 % 2251799813685248 ∧ o0 = s04 / 2251799813685248 ∧ m1 = s14 % 2251799813685248 ∧ o1 = s14 / 2251799813685248 ∧ m2 = s24 % 2251799813685248 ∧ o2 = s24 / 2251799813685248 ∧ m3 = s34 % 2251799813685248 ∧ o3 = s34 / 2251799813685248 ∧ m4 = s44 % 2251799813685248 ∧ o4 = s44 / 2251799813685248 ∧ p = 19 * o4 ∧ n0 = m0 + p ∧ n1 = m1 + o0 ∧ n2 = m2 + o1 ∧ n3 = m3 + o2 ∧ n4 = m4 + o3

theorem outs_ok (s04 s14 s24 s34 s44 m0 m1 m2 m3 m4 o0 o1 o2 o3 o4 p n0 n1 n2 n3 n4 N k : Nat) (h : Outs s04 s14 s24 s34 s44 m0 m1 m2 m3 m4 o0 o1 o2 o3 o4 p n0 n1 n2 n3 n4) (l0 : s04 < 10384593717069655257060992658440192) (l1 : s14 < 10384593717069655257060992658440192) (l2 : s24 < 10384593717069655257060992658440192) (l3 : s34 < 10384593717069655257060992658440192) (l4 : s44 < 25353012010467543969672032419406) (hN : M.V5 s04 s14 s24 s34 s44 + k * M.Q = N) :
    (p < 18446744073709551616 ∧ n0 < 18446744073709551616 ∧ n1 < 18446744073709551616 ∧ n2 < 18446744073709551616 ∧ n3 < 18446744073709551616 ∧ n4 < 18446744073709551616) ∧ M.V5 n0 n1 n2 n3 n4 % M.Q = N % M.Q := by
  obtain ⟨hm0, ho0, hm1, ho1, hm2, ho2, hm3, ho3, hm4, ho4, hp, hn0, hn1, hn2, hn3, hn4⟩ := h
  have g := M.over_ok s04 s14 s24 s34 s44
  rw [← hm0, ← hm1, ← hm2, ← hm3, ← hm4, ← ho0, ← ho1, ← ho2, ← ho3, ← ho4, ← hp, ← hn0, ← hn1, ← hn2, ← hn3, ← hn4] at g
  refine ⟨?_, by rw [M.mod_of_add g, M.mod_of_add hN]⟩
  clear g hN
  omega

/-- The facts of a walk: words that don't wrap. -/
def Wr (x y : Int) : Prop := IntKind.u64.wrap x = y

set_option maxRecDepth 100000 in
set_option maxHeartbeats 8000000 in
theorem fmul_any (A B : List Value) (x y : Nat) (w : World) (hA : Fl A x) (hB : Fl B y) :
    Calls Tryd.prog 61 #[.agg A.toArray, .agg B.toArray] w (GivesE Fl w (x * y % M.Q)) := by
  obtain ⟨a0, a1, a2, a3, a4, ha, ⟨la0, la1, la2, la3, la4⟩, hx⟩ := hA
  obtain ⟨b0, b1, b2, b3, b4, hb, ⟨lb0, lb1, lb2, lb3, lb4⟩, hyy⟩ := hB
  obtain ⟨r, hr⟩ : ∃ r, r = x * y % M.Q := ⟨_, rfl⟩
  rw [← hr]
  obtain ⟨c1, hc1⟩ : ∃ v, v = 19 * b1 := ⟨_, rfl⟩
  obtain ⟨c2, hc2⟩ : ∃ v, v = 19 * b2 := ⟨_, rfl⟩
  obtain ⟨c3, hc3⟩ : ∃ v, v = 19 * b3 := ⟨_, rfl⟩
  obtain ⟨c4, hc4⟩ : ∃ v, v = 19 * b4 := ⟨_, rfl⟩
  obtain ⟨s00, hs00⟩ : ∃ v, v = a0 * b0 := ⟨_, rfl⟩
  obtain ⟨s01, hs01⟩ : ∃ v, v = s00 + a1 * c4 := ⟨_, rfl⟩
  obtain ⟨s02, hs02⟩ : ∃ v, v = s01 + a2 * c3 := ⟨_, rfl⟩
  obtain ⟨s03, hs03⟩ : ∃ v, v = s02 + a3 * c2 := ⟨_, rfl⟩
  obtain ⟨s04, hs04⟩ : ∃ v, v = s03 + a4 * c1 := ⟨_, rfl⟩
  obtain ⟨s10, hs10⟩ : ∃ v, v = a0 * b1 := ⟨_, rfl⟩
  obtain ⟨s11, hs11⟩ : ∃ v, v = s10 + a1 * b0 := ⟨_, rfl⟩
  obtain ⟨s12, hs12⟩ : ∃ v, v = s11 + a2 * c4 := ⟨_, rfl⟩
  obtain ⟨s13, hs13⟩ : ∃ v, v = s12 + a3 * c3 := ⟨_, rfl⟩
  obtain ⟨s14, hs14⟩ : ∃ v, v = s13 + a4 * c2 := ⟨_, rfl⟩
  obtain ⟨s20, hs20⟩ : ∃ v, v = a0 * b2 := ⟨_, rfl⟩
  obtain ⟨s21, hs21⟩ : ∃ v, v = s20 + a1 * b1 := ⟨_, rfl⟩
  obtain ⟨s22, hs22⟩ : ∃ v, v = s21 + a2 * b0 := ⟨_, rfl⟩
  obtain ⟨s23, hs23⟩ : ∃ v, v = s22 + a3 * c4 := ⟨_, rfl⟩
  obtain ⟨s24, hs24⟩ : ∃ v, v = s23 + a4 * c3 := ⟨_, rfl⟩
  obtain ⟨s30, hs30⟩ : ∃ v, v = a0 * b3 := ⟨_, rfl⟩
  obtain ⟨s31, hs31⟩ : ∃ v, v = s30 + a1 * b2 := ⟨_, rfl⟩
  obtain ⟨s32, hs32⟩ : ∃ v, v = s31 + a2 * b1 := ⟨_, rfl⟩
  obtain ⟨s33, hs33⟩ : ∃ v, v = s32 + a3 * b0 := ⟨_, rfl⟩
  obtain ⟨s34, hs34⟩ : ∃ v, v = s33 + a4 * c4 := ⟨_, rfl⟩
  obtain ⟨s40, hs40⟩ : ∃ v, v = a0 * b4 := ⟨_, rfl⟩
  obtain ⟨s41, hs41⟩ : ∃ v, v = s40 + a1 * b3 := ⟨_, rfl⟩
  obtain ⟨s42, hs42⟩ : ∃ v, v = s41 + a2 * b2 := ⟨_, rfl⟩
  obtain ⟨s43, hs43⟩ : ∃ v, v = s42 + a3 * b1 := ⟨_, rfl⟩
  obtain ⟨s44, hs44⟩ : ∃ v, v = s43 + a4 * b0 := ⟨_, rfl⟩
  have HS : Hid (Sums a0 a1 a2 a3 a4 b0 b1 b2 b3 b4 c1 c2 c3 c4 s00 s01 s02 s03 s04 s10 s11 s12 s13 s14 s20 s21 s22 s23 s24 s30 s31 s32 s33 s34 s40 s41 s42 s43 s44) := ⟨hs00, hs01, hs02, hs03, hs04, hs10, hs11, hs12, hs13, hs14, hs20, hs21, hs22, hs23, hs24, hs30, hs31, hs32, hs33, hs34, hs40, hs41, hs42, hs43, hs44⟩
  clear hs00 hs01 hs02 hs03 hs04 hs10 hs11 hs12 hs13 hs14 hs20 hs21 hs22 hs23 hs24 hs30 hs31 hs32 hs33 hs34 hs40 hs41 hs42 hs43 hs44
  obtain ⟨hsb, hs44, kk, hkk⟩ := sums_bound a0 a1 a2 a3 a4 b0 b1 b2 b3 b4 c1 c2 c3 c4 s00 s01 s02 s03 s04 s10 s11 s12 s13 s14 s20 s21 s22 s23 s24 s30 s31 s32 s33 s34 s40 s41 s42 s43 s44 la0 la1 la2 la3 la4 lb0 lb1 lb2 lb3 lb4 hc1 hc2 hc3 hc4 HS.out
  have HB : Hid (SumsB s00 s01 s02 s03 s04 s10 s11 s12 s13 s14 s20 s21 s22 s23 s24 s30 s31 s32 s33 s34 s40 s41 s42 s43 s44) := hsb
  obtain ⟨m0, hm0⟩ : ∃ v, v = s04 % 2251799813685248 := ⟨_, rfl⟩
  obtain ⟨o0, ho0⟩ : ∃ v, v = s04 / 2251799813685248 := ⟨_, rfl⟩
  obtain ⟨m1, hm1⟩ : ∃ v, v = s14 % 2251799813685248 := ⟨_, rfl⟩
  obtain ⟨o1, ho1⟩ : ∃ v, v = s14 / 2251799813685248 := ⟨_, rfl⟩
  obtain ⟨m2, hm2⟩ : ∃ v, v = s24 % 2251799813685248 := ⟨_, rfl⟩
  obtain ⟨o2, ho2⟩ : ∃ v, v = s24 / 2251799813685248 := ⟨_, rfl⟩
  obtain ⟨m3, hm3⟩ : ∃ v, v = s34 % 2251799813685248 := ⟨_, rfl⟩
  obtain ⟨o3, ho3⟩ : ∃ v, v = s34 / 2251799813685248 := ⟨_, rfl⟩
  obtain ⟨m4, hm4⟩ : ∃ v, v = s44 % 2251799813685248 := ⟨_, rfl⟩
  obtain ⟨o4, ho4⟩ : ∃ v, v = s44 / 2251799813685248 := ⟨_, rfl⟩
  obtain ⟨p, hp⟩ : ∃ v, v = 19 * o4 := ⟨_, rfl⟩
  obtain ⟨n0, hn0⟩ : ∃ v, v = m0 + p := ⟨_, rfl⟩
  obtain ⟨n1, hn1⟩ : ∃ v, v = m1 + o0 := ⟨_, rfl⟩
  obtain ⟨n2, hn2⟩ : ∃ v, v = m2 + o1 := ⟨_, rfl⟩
  obtain ⟨n3, hn3⟩ : ∃ v, v = m3 + o2 := ⟨_, rfl⟩
  obtain ⟨n4, hn4⟩ : ∃ v, v = m4 + o3 := ⟨_, rfl⟩
  have HO : Hid (Outs s04 s14 s24 s34 s44 m0 m1 m2 m3 m4 o0 o1 o2 o3 o4 p n0 n1 n2 n3 n4) := ⟨hm0, ho0, hm1, ho1, hm2, ho2, hm3, ho3, hm4, ho4, hp, hn0, hn1, hn2, hn3, hn4⟩
  obtain ⟨⟨lp, ln0, ln1, ln2, ln3, ln4⟩, hv⟩ := outs_ok _ _ _ _ _ _ _ _ _ _ _ _ _ _ _ _ _ _ _ _ _ _ kk HO.out hsb.2.2.2.2.1 hsb.2.2.2.2.2.2.2.2.2.1 hsb.2.2.2.2.2.2.2.2.2.2.2.2.2.2.1 hsb.2.2.2.2.2.2.2.2.2.2.2.2.2.2.2.2.2.2.2.1 hs44 hkk
  have hv' : M.V5 n0 n1 n2 n3 n4 % M.Q = r := by rw [hv, hr, Nat.mul_mod, hx, hyy]
  have C := Lib.hid (fun w => fcarried_any n0 n1 n2 n3 n4 w ln0 ln1 ln2 ln3 ln4 r hv')
  have HX : Hid ((a0 < 18446744073709551616 ∧ a1 < 18446744073709551616 ∧ a2 < 18446744073709551616 ∧ a3 < 18446744073709551616 ∧ a4 < 18446744073709551616) ∧ (b0 < 18446744073709551616 ∧ b1 < 18446744073709551616 ∧ b2 < 18446744073709551616 ∧ b3 < 18446744073709551616 ∧ b4 < 18446744073709551616) ∧ (c1 < 18446744073709551616 ∧ c2 < 18446744073709551616 ∧ c3 < 18446744073709551616 ∧ c4 < 18446744073709551616)) := by rw [Hid]; omega
  have HW : Hid (Wr (19 * (b1 : Int)) c1 ∧ Wr (19 * (b2 : Int)) c2 ∧ Wr (19 * (b3 : Int)) c3 ∧ Wr (19 * (b4 : Int)) c4) := by
    refine ⟨?_, ?_, ?_, ?_⟩ <;> (rw [Wr, IntKind.wrap_u64]; omega)
  have HZ : Hid (Wr (19 * (o4 : Int)) p ∧ Wr ((m0 : Int) + (p : Int)) n0 ∧ Wr ((m1 : Int) + (o0 : Int)) n1 ∧ Wr ((m2 : Int) + (o1 : Int)) n2 ∧ Wr ((m3 : Int) + (o2 : Int)) n3 ∧ Wr ((m4 : Int) + (o3 : Int)) n4) := by
    refine ⟨?_, ?_, ?_, ?_, ?_, ?_⟩ <;> (rw [Wr, IntKind.wrap_u64]; clear hm0 hm1 hm2 hm3 hm4 ho0 ho1 ho2 ho3 ho4; omega)
  obtain ⟨g, hg⟩ : ∃ g, g = w.heap.size := ⟨_, rfl⟩
  obtain ⟨W, hW⟩ : ∃ W, Hid (W = ((w.alloc (.cells A.toArray 62)).alloc (.cells B.toArray 62)).alloc (.cells z5.toArray 62)) := ⟨_, rfl⟩
  have A0 : Blk W g 62 A := by rw [hW.out, hg]; exact ((Blk.newAt _ _ _ _ _ rfl (by simp)).alloc _).alloc _
  have A1 : Blk W (g + 1) 62 B := by rw [hW.out, hg]; exact (Blk.newAt _ _ _ _ _ (by simp) (by simp)).alloc _
  have A2 : Hid (Blk W (g + 1 + 1) 62 z5) := by rw [hW.out, hg]; exact Blk.newAt _ _ _ _ _ (by simp) (by simp)
  have K0 : Hid (Below w.heap.size w W) := by rw [hW.out]; exact (((Below.refl _ _).alloc (Nat.le_refl _) _).alloc (by simp) _).alloc (by simp; omega) _
  have HG : Hid (w.heap.size ≤ g + 1 + 1) := by rw [Hid]; omega
  have f0 : W.cell? ⟨g, 0, none⟩ = some (.int .u64 (a0 : Int)) := by rw [A0.cell, ha]; rfl
  have f1 : W.cell? ⟨g, 1, none⟩ = some (.int .u64 (a1 : Int)) := by rw [A0.cell, ha]; rfl
  have f2 : W.cell? ⟨g, 2, none⟩ = some (.int .u64 (a2 : Int)) := by rw [A0.cell, ha]; rfl
  have f3 : W.cell? ⟨g, 3, none⟩ = some (.int .u64 (a3 : Int)) := by rw [A0.cell, ha]; rfl
  have f4 : W.cell? ⟨g, 4, none⟩ = some (.int .u64 (a4 : Int)) := by rw [A0.cell, ha]; rfl
  have HY : Hid (W.cell? ⟨g + 1, 0, none⟩ = some (.int .u64 (b0 : Int)) ∧ W.cell? ⟨g + 1, 1, none⟩ = some (.int .u64 (b1 : Int)) ∧ W.cell? ⟨g + 1, 2, none⟩ = some (.int .u64 (b2 : Int)) ∧ W.cell? ⟨g + 1, 3, none⟩ = some (.int .u64 (b3 : Int)) ∧ W.cell? ⟨g + 1, 4, none⟩ = some (.int .u64 (b4 : Int))) := by
    refine ⟨?_, ?_, ?_, ?_, ?_⟩ <;> (rw [A1.cell, hb]; rfl)
  clear A0 A1 ha hb hv hv' hr hx hyy hkk hp lp hsb hs44 hc1 hc2 hc3 hc4 hm0 ho0 hn0 la0 lb0 ln0 hm1 ho1 hn1 la1 lb1 ln1 hm2 ho2 hn2 la2 lb2 ln2 hm3 ho3 hn3 la3 lb3 ln3 hm4 ho4 hn4 la4 lb4 ln4
  go_enter Tryd.func61, Tryd.ntmps61
  go_upto_region 1 with fail
  rw [← z5_arr, ← hW.out, ← hg]
  clear hW hg
  go_quiet (fail)
  obtain ⟨V1, hV1⟩ : ∃ x, Hid (x = W.drewN nq) := ⟨_, rfl⟩
  rw [← hV1.out]
  have j0 : V1.cell? ⟨g + 1, 0, none⟩ = some (.int .u64 (b0 : Int)) := by rw [hV1.out]; exact HY.out.1
  have j1 : V1.cell? ⟨g + 1, 1, none⟩ = some (.int .u64 (b1 : Int)) := by rw [hV1.out]; exact HY.out.2.1
  have j2 : V1.cell? ⟨g + 1, 2, none⟩ = some (.int .u64 (b2 : Int)) := by rw [hV1.out]; exact HY.out.2.2.1
  have j3 : V1.cell? ⟨g + 1, 3, none⟩ = some (.int .u64 (b3 : Int)) := by rw [hV1.out]; exact HY.out.2.2.2.1
  have j4 : V1.cell? ⟨g + 1, 4, none⟩ = some (.int .u64 (b4 : Int)) := by rw [hV1.out]; exact HY.out.2.2.2.2
  have D2 : Hid (Blk V1 (g + 1 + 1) 62 z5) := by rw [hV1.out]; exact A2.out.drewN _
  have D0 : Hid (Below w.heap.size w V1) := by rw [hV1.out]; exact drewN_below K0.out _
  clear f0 f1 f2 f3 f4 HY A2 K0 hV1
  go_upto_region 2 with fail
  go_quiet (fail)
  obtain ⟨V2, hV2⟩ : ∃ x, Hid (x = V1.drewN nq) := ⟨_, rfl⟩
  rw [← hV2.out]
  have E2 : Hid (Blk V2 (g + 1 + 1) 62 z5) := by rw [hV2.out]; exact D2.out.drewN _
  have E0 : Hid (Below w.heap.size w V2) := by rw [hV2.out]; exact drewN_below D0.out _
  clear j0 j1 j2 j3 j4 D2 D0 hV2
  obtain ⟨x1, x2, x3, x4⟩ := HW.out
  unfold Wr at x1 x2 x3 x4
  go_upto_region 4 with fail
  clear HW x1 x2 x3 x4
  go_wp2_with fail
  refine (product_at a0 b0 s00 _ HS.out.1 HX.out.1.1 HX.out.2.1.1).mono ?_
  rintro e w00 ⟨T00, rfl, hT00, k00⟩
  have HT00 := Lib.hid hT00
  have K00 : Hid (Below V2.heap.size V2 w00) := k00
  clear k00 hT00
  go_wp2_with fail
  refine (wplus_at s00 a1 c4 s01 _ T00 HT00 HS.out.2.1 HX.out.1.2.1 HX.out.2.2.2.2.2 (Nat.lt_trans HB.out.2.1 (by decide))).mono ?_
  rintro e w01 ⟨T01, rfl, hT01, k01⟩
  have HT01 := Lib.hid hT01
  have K01 : Hid (Below V2.heap.size V2 w01) := K00.out.trans (k01.mono K00.out.size)
  clear k01 hT01 HT00 K00
  go_wp2_with fail
  refine (wplus_at s01 a2 c3 s02 _ T01 HT01 HS.out.2.2.1 HX.out.1.2.2.1 HX.out.2.2.2.2.1 (Nat.lt_trans HB.out.2.2.1 (by decide))).mono ?_
  rintro e w02 ⟨T02, rfl, hT02, k02⟩
  have HT02 := Lib.hid hT02
  have K02 : Hid (Below V2.heap.size V2 w02) := K01.out.trans (k02.mono K01.out.size)
  clear k02 hT02 HT01 K01
  go_wp2_with fail
  refine (wplus_at s02 a3 c2 s03 _ T02 HT02 HS.out.2.2.2.1 HX.out.1.2.2.2.1 HX.out.2.2.2.1 (Nat.lt_trans HB.out.2.2.2.1 (by decide))).mono ?_
  rintro e w03 ⟨T03, rfl, hT03, k03⟩
  have HT03 := Lib.hid hT03
  have K03 : Hid (Below V2.heap.size V2 w03) := K02.out.trans (k03.mono K02.out.size)
  clear k03 hT03 HT02 K02
  go_wp2_with fail
  refine (wplus_at s03 a4 c1 s04 _ T03 HT03 HS.out.2.2.2.2.1 HX.out.1.2.2.2.2 HX.out.2.2.1 (Nat.lt_trans HB.out.2.2.2.2.1 (by decide))).mono ?_
  rintro e w04 ⟨T04, rfl, hT04, k04⟩
  have HT04 := Lib.hid hT04
  have K04 : Hid (Below V2.heap.size V2 w04) := K03.out.trans (k04.mono K03.out.size)
  clear k04 hT04 HT03 K03
  obtain ⟨g0, hg0⟩ : ∃ v, v = w04.heap.size := ⟨_, rfl⟩
  have N0 : Blk (w04.alloc (.cells #[.int .u64 0, .int .u64 0] 136)) g0 136 z2 := Blk.newAt _ _ _ _ _ hg0 rfl
  have HGG0 : Hid (g + 1 + 1 < g0) := by have h := E2.out.lt; have := K04.out.size; rw [Hid, hg0]; omega
  go_wp2_with (rw [← hg0]; refine wpList_store_wide rfl rfl (.tmp 19) (.tmp 76) rfl g0 rfl T04 z2 rfl N0 rfl (wide_len HT04) (wide_one HT04) ?_; intro X0 hb0 ho0)
  have U0 : Below V2.heap.size V2 X0 := (K04.out.alloc K04.out.size _).trans (ho0.below (by have := K04.out.size; simp; omega) (by have := K04.out.size; omega))
  have KW0 : Hid (Below w.heap.size w X0) := E0.out.trans (U0.mono E0.out.size)
  have BB0 : Hid (Blk X0 (g + 1 + 1) 62 z5) := E2.out.below U0 E2.out.lt
  have Y00 : Hid (Blk X0 g0 136 T04) := hb0
  clear E0 E2 N0 hb0 ho0 hg0 U0 K04
  go_wp2_with fail
  refine (product_at a0 b1 s10 _ HS.out.2.2.2.2.2.1 HX.out.1.1 HX.out.2.1.2.1).mono ?_
  rintro e w10 ⟨T10, rfl, hT10, k10⟩
  have HT10 := Lib.hid hT10
  have K10 : Hid (Below X0.heap.size X0 w10) := k10
  clear k10 hT10
  go_wp2_with fail
  refine (wplus_at s10 a1 b0 s11 _ T10 HT10 HS.out.2.2.2.2.2.2.1 HX.out.1.2.1 HX.out.2.1.1 (Nat.lt_trans HB.out.2.2.2.2.2.2.1 (by decide))).mono ?_
  rintro e w11 ⟨T11, rfl, hT11, k11⟩
  have HT11 := Lib.hid hT11
  have K11 : Hid (Below X0.heap.size X0 w11) := K10.out.trans (k11.mono K10.out.size)
  clear k11 hT11 HT10 K10
  go_wp2_with fail
  refine (wplus_at s11 a2 c4 s12 _ T11 HT11 HS.out.2.2.2.2.2.2.2.1 HX.out.1.2.2.1 HX.out.2.2.2.2.2 (Nat.lt_trans HB.out.2.2.2.2.2.2.2.1 (by decide))).mono ?_
  rintro e w12 ⟨T12, rfl, hT12, k12⟩
  have HT12 := Lib.hid hT12
  have K12 : Hid (Below X0.heap.size X0 w12) := K11.out.trans (k12.mono K11.out.size)
  clear k12 hT12 HT11 K11
  go_wp2_with fail
  refine (wplus_at s12 a3 c3 s13 _ T12 HT12 HS.out.2.2.2.2.2.2.2.2.1 HX.out.1.2.2.2.1 HX.out.2.2.2.2.1 (Nat.lt_trans HB.out.2.2.2.2.2.2.2.2.1 (by decide))).mono ?_
  rintro e w13 ⟨T13, rfl, hT13, k13⟩
  have HT13 := Lib.hid hT13
  have K13 : Hid (Below X0.heap.size X0 w13) := K12.out.trans (k13.mono K12.out.size)
  clear k13 hT13 HT12 K12
  go_wp2_with fail
  refine (wplus_at s13 a4 c2 s14 _ T13 HT13 HS.out.2.2.2.2.2.2.2.2.2.1 HX.out.1.2.2.2.2 HX.out.2.2.2.1 (Nat.lt_trans HB.out.2.2.2.2.2.2.2.2.2.1 (by decide))).mono ?_
  rintro e w14 ⟨T14, rfl, hT14, k14⟩
  have HT14 := Lib.hid hT14
  have K14 : Hid (Below X0.heap.size X0 w14) := K13.out.trans (k14.mono K13.out.size)
  clear k14 hT14 HT13 K13
  obtain ⟨g1, hg1⟩ : ∃ v, v = w14.heap.size := ⟨_, rfl⟩
  have N1 : Blk (w14.alloc (.cells #[.int .u64 0, .int .u64 0] 136)) g1 136 z2 := Blk.newAt _ _ _ _ _ hg1 rfl
  have HGG1 : Hid (g + 1 + 1 < g1) := by have h := BB0.out.lt; have := K14.out.size; rw [Hid, hg1]; omega
  go_wp2_with (rw [← hg1]; refine wpList_store_wide rfl rfl (.tmp 20) (.tmp 91) rfl g1 rfl T14 z2 rfl N1 rfl (wide_len HT14) (wide_one HT14) ?_; intro X1 hb1 ho1)
  have U1 : Below X0.heap.size X0 X1 := (K14.out.alloc K14.out.size _).trans (ho1.below (by have := K14.out.size; simp; omega) (by have := K14.out.size; omega))
  have KW1 : Hid (Below w.heap.size w X1) := KW0.out.trans (U1.mono KW0.out.size)
  have BB1 : Hid (Blk X1 (g + 1 + 1) 62 z5) := BB0.out.below U1 BB0.out.lt
  have Y10 : Hid (Blk X1 g0 136 T04) := Y00.out.below U1 Y00.out.lt
  have Y11 : Hid (Blk X1 g1 136 T14) := hb1
  clear KW0 BB0 N1 hb1 ho1 hg1 U1 K14 Y00
  go_wp2_with fail
  refine (product_at a0 b2 s20 _ HS.out.2.2.2.2.2.2.2.2.2.2.1 HX.out.1.1 HX.out.2.1.2.2.1).mono ?_
  rintro e w20 ⟨T20, rfl, hT20, k20⟩
  have HT20 := Lib.hid hT20
  have K20 : Hid (Below X1.heap.size X1 w20) := k20
  clear k20 hT20
  go_wp2_with fail
  refine (wplus_at s20 a1 b1 s21 _ T20 HT20 HS.out.2.2.2.2.2.2.2.2.2.2.2.1 HX.out.1.2.1 HX.out.2.1.2.1 (Nat.lt_trans HB.out.2.2.2.2.2.2.2.2.2.2.2.1 (by decide))).mono ?_
  rintro e w21 ⟨T21, rfl, hT21, k21⟩
  have HT21 := Lib.hid hT21
  have K21 : Hid (Below X1.heap.size X1 w21) := K20.out.trans (k21.mono K20.out.size)
  clear k21 hT21 HT20 K20
  go_wp2_with fail
  refine (wplus_at s21 a2 b0 s22 _ T21 HT21 HS.out.2.2.2.2.2.2.2.2.2.2.2.2.1 HX.out.1.2.2.1 HX.out.2.1.1 (Nat.lt_trans HB.out.2.2.2.2.2.2.2.2.2.2.2.2.1 (by decide))).mono ?_
  rintro e w22 ⟨T22, rfl, hT22, k22⟩
  have HT22 := Lib.hid hT22
  have K22 : Hid (Below X1.heap.size X1 w22) := K21.out.trans (k22.mono K21.out.size)
  clear k22 hT22 HT21 K21
  go_wp2_with fail
  refine (wplus_at s22 a3 c4 s23 _ T22 HT22 HS.out.2.2.2.2.2.2.2.2.2.2.2.2.2.1 HX.out.1.2.2.2.1 HX.out.2.2.2.2.2 (Nat.lt_trans HB.out.2.2.2.2.2.2.2.2.2.2.2.2.2.1 (by decide))).mono ?_
  rintro e w23 ⟨T23, rfl, hT23, k23⟩
  have HT23 := Lib.hid hT23
  have K23 : Hid (Below X1.heap.size X1 w23) := K22.out.trans (k23.mono K22.out.size)
  clear k23 hT23 HT22 K22
  go_wp2_with fail
  refine (wplus_at s23 a4 c3 s24 _ T23 HT23 HS.out.2.2.2.2.2.2.2.2.2.2.2.2.2.2.1 HX.out.1.2.2.2.2 HX.out.2.2.2.2.1 (Nat.lt_trans HB.out.2.2.2.2.2.2.2.2.2.2.2.2.2.2.1 (by decide))).mono ?_
  rintro e w24 ⟨T24, rfl, hT24, k24⟩
  have HT24 := Lib.hid hT24
  have K24 : Hid (Below X1.heap.size X1 w24) := K23.out.trans (k24.mono K23.out.size)
  clear k24 hT24 HT23 K23
  obtain ⟨g2, hg2⟩ : ∃ v, v = w24.heap.size := ⟨_, rfl⟩
  have N2 : Blk (w24.alloc (.cells #[.int .u64 0, .int .u64 0] 136)) g2 136 z2 := Blk.newAt _ _ _ _ _ hg2 rfl
  have HGG2 : Hid (g + 1 + 1 < g2) := by have h := BB1.out.lt; have := K24.out.size; rw [Hid, hg2]; omega
  go_wp2_with (rw [← hg2]; refine wpList_store_wide rfl rfl (.tmp 21) (.tmp 106) rfl g2 rfl T24 z2 rfl N2 rfl (wide_len HT24) (wide_one HT24) ?_; intro X2 hb2 ho2)
  have U2 : Below X1.heap.size X1 X2 := (K24.out.alloc K24.out.size _).trans (ho2.below (by have := K24.out.size; simp; omega) (by have := K24.out.size; omega))
  have KW2 : Hid (Below w.heap.size w X2) := KW1.out.trans (U2.mono KW1.out.size)
  have BB2 : Hid (Blk X2 (g + 1 + 1) 62 z5) := BB1.out.below U2 BB1.out.lt
  have Y20 : Hid (Blk X2 g0 136 T04) := Y10.out.below U2 Y10.out.lt
  have Y21 : Hid (Blk X2 g1 136 T14) := Y11.out.below U2 Y11.out.lt
  have Y22 : Hid (Blk X2 g2 136 T24) := hb2
  clear KW1 BB1 N2 hb2 ho2 hg2 U2 K24 Y10 Y11
  go_wp2_with fail
  refine (product_at a0 b3 s30 _ HS.out.2.2.2.2.2.2.2.2.2.2.2.2.2.2.2.1 HX.out.1.1 HX.out.2.1.2.2.2.1).mono ?_
  rintro e w30 ⟨T30, rfl, hT30, k30⟩
  have HT30 := Lib.hid hT30
  have K30 : Hid (Below X2.heap.size X2 w30) := k30
  clear k30 hT30
  go_wp2_with fail
  refine (wplus_at s30 a1 b2 s31 _ T30 HT30 HS.out.2.2.2.2.2.2.2.2.2.2.2.2.2.2.2.2.1 HX.out.1.2.1 HX.out.2.1.2.2.1 (Nat.lt_trans HB.out.2.2.2.2.2.2.2.2.2.2.2.2.2.2.2.2.1 (by decide))).mono ?_
  rintro e w31 ⟨T31, rfl, hT31, k31⟩
  have HT31 := Lib.hid hT31
  have K31 : Hid (Below X2.heap.size X2 w31) := K30.out.trans (k31.mono K30.out.size)
  clear k31 hT31 HT30 K30
  go_wp2_with fail
  refine (wplus_at s31 a2 b1 s32 _ T31 HT31 HS.out.2.2.2.2.2.2.2.2.2.2.2.2.2.2.2.2.2.1 HX.out.1.2.2.1 HX.out.2.1.2.1 (Nat.lt_trans HB.out.2.2.2.2.2.2.2.2.2.2.2.2.2.2.2.2.2.1 (by decide))).mono ?_
  rintro e w32 ⟨T32, rfl, hT32, k32⟩
  have HT32 := Lib.hid hT32
  have K32 : Hid (Below X2.heap.size X2 w32) := K31.out.trans (k32.mono K31.out.size)
  clear k32 hT32 HT31 K31
  go_wp2_with fail
  refine (wplus_at s32 a3 b0 s33 _ T32 HT32 HS.out.2.2.2.2.2.2.2.2.2.2.2.2.2.2.2.2.2.2.1 HX.out.1.2.2.2.1 HX.out.2.1.1 (Nat.lt_trans HB.out.2.2.2.2.2.2.2.2.2.2.2.2.2.2.2.2.2.2.1 (by decide))).mono ?_
  rintro e w33 ⟨T33, rfl, hT33, k33⟩
  have HT33 := Lib.hid hT33
  have K33 : Hid (Below X2.heap.size X2 w33) := K32.out.trans (k33.mono K32.out.size)
  clear k33 hT33 HT32 K32
  go_wp2_with fail
  refine (wplus_at s33 a4 c4 s34 _ T33 HT33 HS.out.2.2.2.2.2.2.2.2.2.2.2.2.2.2.2.2.2.2.2.1 HX.out.1.2.2.2.2 HX.out.2.2.2.2.2 (Nat.lt_trans HB.out.2.2.2.2.2.2.2.2.2.2.2.2.2.2.2.2.2.2.2.1 (by decide))).mono ?_
  rintro e w34 ⟨T34, rfl, hT34, k34⟩
  have HT34 := Lib.hid hT34
  have K34 : Hid (Below X2.heap.size X2 w34) := K33.out.trans (k34.mono K33.out.size)
  clear k34 hT34 HT33 K33
  obtain ⟨g3, hg3⟩ : ∃ v, v = w34.heap.size := ⟨_, rfl⟩
  have N3 : Blk (w34.alloc (.cells #[.int .u64 0, .int .u64 0] 136)) g3 136 z2 := Blk.newAt _ _ _ _ _ hg3 rfl
  have HGG3 : Hid (g + 1 + 1 < g3) := by have h := BB2.out.lt; have := K34.out.size; rw [Hid, hg3]; omega
  go_wp2_with (rw [← hg3]; refine wpList_store_wide rfl rfl (.tmp 22) (.tmp 121) rfl g3 rfl T34 z2 rfl N3 rfl (wide_len HT34) (wide_one HT34) ?_; intro X3 hb3 ho3)
  have U3 : Below X2.heap.size X2 X3 := (K34.out.alloc K34.out.size _).trans (ho3.below (by have := K34.out.size; simp; omega) (by have := K34.out.size; omega))
  have KW3 : Hid (Below w.heap.size w X3) := KW2.out.trans (U3.mono KW2.out.size)
  have BB3 : Hid (Blk X3 (g + 1 + 1) 62 z5) := BB2.out.below U3 BB2.out.lt
  have Y30 : Hid (Blk X3 g0 136 T04) := Y20.out.below U3 Y20.out.lt
  have Y31 : Hid (Blk X3 g1 136 T14) := Y21.out.below U3 Y21.out.lt
  have Y32 : Hid (Blk X3 g2 136 T24) := Y22.out.below U3 Y22.out.lt
  have Y33 : Hid (Blk X3 g3 136 T34) := hb3
  clear KW2 BB2 N3 hb3 ho3 hg3 U3 K34 Y20 Y21 Y22
  go_wp2_with fail
  refine (product_at a0 b4 s40 _ HS.out.2.2.2.2.2.2.2.2.2.2.2.2.2.2.2.2.2.2.2.2.1 HX.out.1.1 HX.out.2.1.2.2.2.2).mono ?_
  rintro e w40 ⟨T40, rfl, hT40, k40⟩
  have HT40 := Lib.hid hT40
  have K40 : Hid (Below X3.heap.size X3 w40) := k40
  clear k40 hT40
  go_wp2_with fail
  refine (wplus_at s40 a1 b3 s41 _ T40 HT40 HS.out.2.2.2.2.2.2.2.2.2.2.2.2.2.2.2.2.2.2.2.2.2.1 HX.out.1.2.1 HX.out.2.1.2.2.2.1 (Nat.lt_trans HB.out.2.2.2.2.2.2.2.2.2.2.2.2.2.2.2.2.2.2.2.2.2.1 (by decide))).mono ?_
  rintro e w41 ⟨T41, rfl, hT41, k41⟩
  have HT41 := Lib.hid hT41
  have K41 : Hid (Below X3.heap.size X3 w41) := K40.out.trans (k41.mono K40.out.size)
  clear k41 hT41 HT40 K40
  go_wp2_with fail
  refine (wplus_at s41 a2 b2 s42 _ T41 HT41 HS.out.2.2.2.2.2.2.2.2.2.2.2.2.2.2.2.2.2.2.2.2.2.2.1 HX.out.1.2.2.1 HX.out.2.1.2.2.1 (Nat.lt_trans HB.out.2.2.2.2.2.2.2.2.2.2.2.2.2.2.2.2.2.2.2.2.2.2.1 (by decide))).mono ?_
  rintro e w42 ⟨T42, rfl, hT42, k42⟩
  have HT42 := Lib.hid hT42
  have K42 : Hid (Below X3.heap.size X3 w42) := K41.out.trans (k42.mono K41.out.size)
  clear k42 hT42 HT41 K41
  go_wp2_with fail
  refine (wplus_at s42 a3 b1 s43 _ T42 HT42 HS.out.2.2.2.2.2.2.2.2.2.2.2.2.2.2.2.2.2.2.2.2.2.2.2.1 HX.out.1.2.2.2.1 HX.out.2.1.2.1 (Nat.lt_trans HB.out.2.2.2.2.2.2.2.2.2.2.2.2.2.2.2.2.2.2.2.2.2.2.2.1 (by decide))).mono ?_
  rintro e w43 ⟨T43, rfl, hT43, k43⟩
  have HT43 := Lib.hid hT43
  have K43 : Hid (Below X3.heap.size X3 w43) := K42.out.trans (k43.mono K42.out.size)
  clear k43 hT43 HT42 K42
  go_wp2_with fail
  refine (wplus_at s43 a4 b0 s44 _ T43 HT43 HS.out.2.2.2.2.2.2.2.2.2.2.2.2.2.2.2.2.2.2.2.2.2.2.2.2 HX.out.1.2.2.2.2 HX.out.2.1.1 (Nat.lt_trans HB.out.2.2.2.2.2.2.2.2.2.2.2.2.2.2.2.2.2.2.2.2.2.2.2.2 (by decide))).mono ?_
  rintro e w44 ⟨T44, rfl, hT44, k44⟩
  have HT44 := Lib.hid hT44
  have K44 : Hid (Below X3.heap.size X3 w44) := K43.out.trans (k44.mono K43.out.size)
  clear k44 hT44 HT43 K43
  obtain ⟨g4, hg4⟩ : ∃ v, v = w44.heap.size := ⟨_, rfl⟩
  have N4 : Blk (w44.alloc (.cells #[.int .u64 0, .int .u64 0] 136)) g4 136 z2 := Blk.newAt _ _ _ _ _ hg4 rfl
  have HGG4 : Hid (g + 1 + 1 < g4) := by have h := BB3.out.lt; have := K44.out.size; rw [Hid, hg4]; omega
  go_wp2_with (rw [← hg4]; refine wpList_store_wide rfl rfl (.tmp 23) (.tmp 136) rfl g4 rfl T44 z2 rfl N4 rfl (wide_len HT44) (wide_one HT44) ?_; intro X4 hb4 ho4)
  have U4 : Below X3.heap.size X3 X4 := (K44.out.alloc K44.out.size _).trans (ho4.below (by have := K44.out.size; simp; omega) (by have := K44.out.size; omega))
  have KW4 : Hid (Below w.heap.size w X4) := KW3.out.trans (U4.mono KW3.out.size)
  have BB4 : Hid (Blk X4 (g + 1 + 1) 62 z5) := BB3.out.below U4 BB3.out.lt
  have Y40 : Hid (Blk X4 g0 136 T04) := Y30.out.below U4 Y30.out.lt
  have Y41 : Hid (Blk X4 g1 136 T14) := Y31.out.below U4 Y31.out.lt
  have Y42 : Hid (Blk X4 g2 136 T24) := Y32.out.below U4 Y32.out.lt
  have Y43 : Hid (Blk X4 g3 136 T34) := Y33.out.below U4 Y33.out.lt
  have Y44 : Hid (Blk X4 g4 136 T44) := hb4
  clear KW3 BB3 N4 hb4 ho4 hg4 U4 K44 Y30 Y31 Y32 Y33
  go_upto_region 9 with fail
  clear HX HS
  refine wp_region_any (by kernel_rfl) ?_
  change wpAny _ _ _ _ _ _ _ (World.drew _)
  refine wpAny_of_held (S := fun w' => w'.rangeAt g0 0 T04 ∧ w'.rangeAt g1 0 T14 ∧ w'.rangeAt g2 0 T24 ∧ w'.rangeAt g3 0 T34 ∧ w'.rangeAt g4 0 T44) _ _ _ _ ?_
  have S0 : X4.drew.rangeAt g0 0 T04 ∧ X4.drew.rangeAt g1 0 T14 ∧ X4.drew.rangeAt g2 0 T24 ∧ X4.drew.rangeAt g3 0 T34 ∧ X4.drew.rangeAt g4 0 T44 := ⟨Y40.out.drew.range 0 _ [] (by simp), Y41.out.drew.range 0 _ [] (by simp), Y42.out.drew.range 0 _ [] (by simp), Y43.out.drew.range 0 _ [] (by simp), Y44.out.drew.range 0 _ [] (by simp)⟩
  refine wpAnyH_take_at (i := 0) (v := .agg T04.toArray) rfl rfl (by kernel_rfl) (by kernel_rfl) (by kernel_rfl) (fun _ _ _ h => h) (yieldsIf_load_mid (by rfl) 136 (.tmp 19) rfl g0 0 rfl T04 _ (fun w h => h.1) Tryd.underlying136 rfl (by rw [wide_len HT04]; kernel_rfl)) S0 ?_
  simp only [List.setIfInBounds_toArray, List.set_cons_zero, List.set_cons_succ]
  refine wpAnyH_take_at (i := 2) (v := .agg T44.toArray) rfl rfl (by kernel_rfl) (by kernel_rfl) (by kernel_rfl) (fun _ _ _ h => h) (yieldsIf_load_mid (by rfl) 136 (.tmp 23) rfl g4 0 rfl T44 _ (fun w h => h.2.2.2.2) Tryd.underlying136 rfl (by rw [wide_len HT44]; kernel_rfl)) S0 ?_
  simp only [List.setIfInBounds_toArray, List.set_cons_zero, List.set_cons_succ]
  refine wpAnyH_take_at (i := 6) (v := .agg T14.toArray) rfl rfl (by kernel_rfl) (by kernel_rfl) (by kernel_rfl) (fun _ _ _ h => h) (yieldsIf_load_mid (by rfl) 136 (.tmp 20) rfl g1 0 rfl T14 _ (fun w h => h.2.1) Tryd.underlying136 rfl (by rw [wide_len HT14]; kernel_rfl)) S0 ?_
  simp only [List.setIfInBounds_toArray, List.set_cons_zero, List.set_cons_succ]
  refine wpAnyH_take_at (i := 8) (v := .agg T04.toArray) rfl rfl (by kernel_rfl) (by kernel_rfl) (by kernel_rfl) (fun _ _ _ h => h) (yieldsIf_load_mid (by rfl) 136 (.tmp 19) rfl g0 0 rfl T04 _ (fun w h => h.1) Tryd.underlying136 rfl (by rw [wide_len HT04]; kernel_rfl)) S0 ?_
  simp only [List.setIfInBounds_toArray, List.set_cons_zero, List.set_cons_succ]
  refine wpAnyH_take_at (i := 11) (v := .agg T24.toArray) rfl rfl (by kernel_rfl) (by kernel_rfl) (by kernel_rfl) (fun _ _ _ h => h) (yieldsIf_load_mid (by rfl) 136 (.tmp 21) rfl g2 0 rfl T24 _ (fun w h => h.2.2.1) Tryd.underlying136 rfl (by rw [wide_len HT24]; kernel_rfl)) S0 ?_
  simp only [List.setIfInBounds_toArray, List.set_cons_zero, List.set_cons_succ]
  refine wpAnyH_take_at (i := 13) (v := .agg T14.toArray) rfl rfl (by kernel_rfl) (by kernel_rfl) (by kernel_rfl) (fun _ _ _ h => h) (yieldsIf_load_mid (by rfl) 136 (.tmp 20) rfl g1 0 rfl T14 _ (fun w h => h.2.1) Tryd.underlying136 rfl (by rw [wide_len HT14]; kernel_rfl)) S0 ?_
  simp only [List.setIfInBounds_toArray, List.set_cons_zero, List.set_cons_succ]
  refine wpAnyH_take_at (i := 16) (v := .agg T34.toArray) rfl rfl (by kernel_rfl) (by kernel_rfl) (by kernel_rfl) (fun _ _ _ h => h) (yieldsIf_load_mid (by rfl) 136 (.tmp 22) rfl g3 0 rfl T34 _ (fun w h => h.2.2.2.1) Tryd.underlying136 rfl (by rw [wide_len HT34]; kernel_rfl)) S0 ?_
  simp only [List.setIfInBounds_toArray, List.set_cons_zero, List.set_cons_succ]
  refine wpAnyH_take_at (i := 18) (v := .agg T24.toArray) rfl rfl (by kernel_rfl) (by kernel_rfl) (by kernel_rfl) (fun _ _ _ h => h) (yieldsIf_load_mid (by rfl) 136 (.tmp 21) rfl g2 0 rfl T24 _ (fun w h => h.2.2.1) Tryd.underlying136 rfl (by rw [wide_len HT24]; kernel_rfl)) S0 ?_
  simp only [List.setIfInBounds_toArray, List.set_cons_zero, List.set_cons_succ]
  refine wpAnyH_take_at (i := 21) (v := .agg T44.toArray) rfl rfl (by kernel_rfl) (by kernel_rfl) (by kernel_rfl) (fun _ _ _ h => h) (yieldsIf_load_mid (by rfl) 136 (.tmp 23) rfl g4 0 rfl T44 _ (fun w h => h.2.2.2.2) Tryd.underlying136 rfl (by rw [wide_len HT44]; kernel_rfl)) S0 ?_
  simp only [List.setIfInBounds_toArray, List.set_cons_zero, List.set_cons_succ]
  refine wpAnyH_take_at (i := 23) (v := .agg T34.toArray) rfl rfl (by kernel_rfl) (by kernel_rfl) (by kernel_rfl) (fun _ _ _ h => h) (yieldsIf_load_mid (by rfl) 136 (.tmp 22) rfl g3 0 rfl T34 _ (fun w h => h.2.2.2.1) Tryd.underlying136 rfl (by rw [wide_len HT34]; kernel_rfl)) S0 ?_
  simp only [List.setIfInBounds_toArray, List.set_cons_zero, List.set_cons_succ]
  have kc0 : Hid (Below X4.heap.size X4 X4.drew) := below_draws X4 1
  clear S0
  refine wpAnyH_ready (rs := [1]) (by kernel_rfl) (by simp) ?_
  refine AllReadyH.cons rfl (fun KC hK => ?_) AllReadyH.nil
  go_simp
  refine (wlimb_at s04 m0 _ T04 HT04 HO.out.1).mono ?_
  rintro e v1 ⟨rfl, kd1⟩
  have kc1 : Hid (Below X4.heap.size X4 v1) := kc0.out.trans (kd1.mono kc0.out.size)
  refine hK.out _ _ ⟨(Y40.out.below kc1.out Y40.out.lt).range 0 _ [] (by simp), (Y41.out.below kc1.out Y41.out.lt).range 0 _ [] (by simp), (Y42.out.below kc1.out Y42.out.lt).range 0 _ [] (by simp), (Y43.out.below kc1.out Y43.out.lt).range 0 _ [] (by simp), (Y44.out.below kc1.out Y44.out.lt).range 0 _ [] (by simp)⟩ (fun _ => ?_)
  clear hK KC kd1 kc0
  refine wpAnyH_ready (rs := [3]) (by kernel_rfl) (by simp) ?_
  refine AllReadyH.cons rfl (fun KC hK => ?_) AllReadyH.nil
  go_simp
  refine (wover_at s44 o4 _ T44 HT44 HO.out.2.2.2.2.2.2.2.2.2.1 HB.out.2.2.2.2.2.2.2.2.2.2.2.2.2.2.2.2.2.2.2.2.2.2.2.2).mono ?_
  rintro e v2 ⟨rfl, kd2⟩
  have kc2 : Hid (Below X4.heap.size X4 v2) := kc1.out.trans (kd2.mono kc1.out.size)
  refine hK.out _ _ ⟨(Y40.out.below kc2.out Y40.out.lt).range 0 _ [] (by simp), (Y41.out.below kc2.out Y41.out.lt).range 0 _ [] (by simp), (Y42.out.below kc2.out Y42.out.lt).range 0 _ [] (by simp), (Y43.out.below kc2.out Y43.out.lt).range 0 _ [] (by simp), (Y44.out.below kc2.out Y44.out.lt).range 0 _ [] (by simp)⟩ (fun _ => ?_)
  clear hK KC kd2 kc1
  refine wpAnyH_take_at (i := 4) (v := .int .u64 (p : Int)) rfl rfl (by kernel_rfl) (by kernel_rfl) (by kernel_rfl) (fun _ _ _ h => h) (Or.inl ⟨by rfl, fun w hS => by have e1 : IntKind.u64.wrap _ = _ := HZ.out.1; go_simp⟩) ⟨(Y40.out.below kc2.out Y40.out.lt).range 0 _ [] (by simp), (Y41.out.below kc2.out Y41.out.lt).range 0 _ [] (by simp), (Y42.out.below kc2.out Y42.out.lt).range 0 _ [] (by simp), (Y43.out.below kc2.out Y43.out.lt).range 0 _ [] (by simp), (Y44.out.below kc2.out Y44.out.lt).range 0 _ [] (by simp)⟩ ?_
  simp only [List.setIfInBounds_toArray, List.set_cons_zero, List.set_cons_succ]
  refine wpAnyH_take_at (i := 5) (v := .int .u64 (n0 : Int)) rfl rfl (by kernel_rfl) (by kernel_rfl) (by kernel_rfl) (fun _ _ _ h => h) (Or.inl ⟨by rfl, fun w hS => by have e1 : IntKind.u64.wrap _ = _ := HZ.out.2.1; go_simp⟩) ⟨(Y40.out.below kc2.out Y40.out.lt).range 0 _ [] (by simp), (Y41.out.below kc2.out Y41.out.lt).range 0 _ [] (by simp), (Y42.out.below kc2.out Y42.out.lt).range 0 _ [] (by simp), (Y43.out.below kc2.out Y43.out.lt).range 0 _ [] (by simp), (Y44.out.below kc2.out Y44.out.lt).range 0 _ [] (by simp)⟩ ?_
  simp only [List.setIfInBounds_toArray, List.set_cons_zero, List.set_cons_succ]
  refine wpAnyH_ready (rs := [7]) (by kernel_rfl) (by simp) ?_
  refine AllReadyH.cons rfl (fun KC hK => ?_) AllReadyH.nil
  go_simp
  refine (wlimb_at s14 m1 _ T14 HT14 HO.out.2.2.1).mono ?_
  rintro e v3 ⟨rfl, kd3⟩
  have kc3 : Hid (Below X4.heap.size X4 v3) := kc2.out.trans (kd3.mono kc2.out.size)
  refine hK.out _ _ ⟨(Y40.out.below kc3.out Y40.out.lt).range 0 _ [] (by simp), (Y41.out.below kc3.out Y41.out.lt).range 0 _ [] (by simp), (Y42.out.below kc3.out Y42.out.lt).range 0 _ [] (by simp), (Y43.out.below kc3.out Y43.out.lt).range 0 _ [] (by simp), (Y44.out.below kc3.out Y44.out.lt).range 0 _ [] (by simp)⟩ (fun _ => ?_)
  clear hK KC kd3 kc2
  refine wpAnyH_ready (rs := [9]) (by kernel_rfl) (by simp) ?_
  refine AllReadyH.cons rfl (fun KC hK => ?_) AllReadyH.nil
  go_simp
  refine (wover_at s04 o0 _ T04 HT04 HO.out.2.1 HB.out.2.2.2.2.1).mono ?_
  rintro e v4 ⟨rfl, kd4⟩
  have kc4 : Hid (Below X4.heap.size X4 v4) := kc3.out.trans (kd4.mono kc3.out.size)
  refine hK.out _ _ ⟨(Y40.out.below kc4.out Y40.out.lt).range 0 _ [] (by simp), (Y41.out.below kc4.out Y41.out.lt).range 0 _ [] (by simp), (Y42.out.below kc4.out Y42.out.lt).range 0 _ [] (by simp), (Y43.out.below kc4.out Y43.out.lt).range 0 _ [] (by simp), (Y44.out.below kc4.out Y44.out.lt).range 0 _ [] (by simp)⟩ (fun _ => ?_)
  clear hK KC kd4 kc3
  refine wpAnyH_take_at (i := 10) (v := .int .u64 (n1 : Int)) rfl rfl (by kernel_rfl) (by kernel_rfl) (by kernel_rfl) (fun _ _ _ h => h) (Or.inl ⟨by rfl, fun w hS => by have e1 : IntKind.u64.wrap _ = _ := HZ.out.2.2.1; go_simp⟩) ⟨(Y40.out.below kc4.out Y40.out.lt).range 0 _ [] (by simp), (Y41.out.below kc4.out Y41.out.lt).range 0 _ [] (by simp), (Y42.out.below kc4.out Y42.out.lt).range 0 _ [] (by simp), (Y43.out.below kc4.out Y43.out.lt).range 0 _ [] (by simp), (Y44.out.below kc4.out Y44.out.lt).range 0 _ [] (by simp)⟩ ?_
  simp only [List.setIfInBounds_toArray, List.set_cons_zero, List.set_cons_succ]
  refine wpAnyH_ready (rs := [12]) (by kernel_rfl) (by simp) ?_
  refine AllReadyH.cons rfl (fun KC hK => ?_) AllReadyH.nil
  go_simp
  refine (wlimb_at s24 m2 _ T24 HT24 HO.out.2.2.2.2.1).mono ?_
  rintro e v5 ⟨rfl, kd5⟩
  have kc5 : Hid (Below X4.heap.size X4 v5) := kc4.out.trans (kd5.mono kc4.out.size)
  refine hK.out _ _ ⟨(Y40.out.below kc5.out Y40.out.lt).range 0 _ [] (by simp), (Y41.out.below kc5.out Y41.out.lt).range 0 _ [] (by simp), (Y42.out.below kc5.out Y42.out.lt).range 0 _ [] (by simp), (Y43.out.below kc5.out Y43.out.lt).range 0 _ [] (by simp), (Y44.out.below kc5.out Y44.out.lt).range 0 _ [] (by simp)⟩ (fun _ => ?_)
  clear hK KC kd5 kc4
  refine wpAnyH_ready (rs := [14]) (by kernel_rfl) (by simp) ?_
  refine AllReadyH.cons rfl (fun KC hK => ?_) AllReadyH.nil
  go_simp
  refine (wover_at s14 o1 _ T14 HT14 HO.out.2.2.2.1 HB.out.2.2.2.2.2.2.2.2.2.1).mono ?_
  rintro e v6 ⟨rfl, kd6⟩
  have kc6 : Hid (Below X4.heap.size X4 v6) := kc5.out.trans (kd6.mono kc5.out.size)
  refine hK.out _ _ ⟨(Y40.out.below kc6.out Y40.out.lt).range 0 _ [] (by simp), (Y41.out.below kc6.out Y41.out.lt).range 0 _ [] (by simp), (Y42.out.below kc6.out Y42.out.lt).range 0 _ [] (by simp), (Y43.out.below kc6.out Y43.out.lt).range 0 _ [] (by simp), (Y44.out.below kc6.out Y44.out.lt).range 0 _ [] (by simp)⟩ (fun _ => ?_)
  clear hK KC kd6 kc5
  refine wpAnyH_take_at (i := 15) (v := .int .u64 (n2 : Int)) rfl rfl (by kernel_rfl) (by kernel_rfl) (by kernel_rfl) (fun _ _ _ h => h) (Or.inl ⟨by rfl, fun w hS => by have e1 : IntKind.u64.wrap _ = _ := HZ.out.2.2.2.1; go_simp⟩) ⟨(Y40.out.below kc6.out Y40.out.lt).range 0 _ [] (by simp), (Y41.out.below kc6.out Y41.out.lt).range 0 _ [] (by simp), (Y42.out.below kc6.out Y42.out.lt).range 0 _ [] (by simp), (Y43.out.below kc6.out Y43.out.lt).range 0 _ [] (by simp), (Y44.out.below kc6.out Y44.out.lt).range 0 _ [] (by simp)⟩ ?_
  simp only [List.setIfInBounds_toArray, List.set_cons_zero, List.set_cons_succ]
  refine wpAnyH_ready (rs := [17]) (by kernel_rfl) (by simp) ?_
  refine AllReadyH.cons rfl (fun KC hK => ?_) AllReadyH.nil
  go_simp
  refine (wlimb_at s34 m3 _ T34 HT34 HO.out.2.2.2.2.2.2.1).mono ?_
  rintro e v7 ⟨rfl, kd7⟩
  have kc7 : Hid (Below X4.heap.size X4 v7) := kc6.out.trans (kd7.mono kc6.out.size)
  refine hK.out _ _ ⟨(Y40.out.below kc7.out Y40.out.lt).range 0 _ [] (by simp), (Y41.out.below kc7.out Y41.out.lt).range 0 _ [] (by simp), (Y42.out.below kc7.out Y42.out.lt).range 0 _ [] (by simp), (Y43.out.below kc7.out Y43.out.lt).range 0 _ [] (by simp), (Y44.out.below kc7.out Y44.out.lt).range 0 _ [] (by simp)⟩ (fun _ => ?_)
  clear hK KC kd7 kc6
  refine wpAnyH_ready (rs := [19]) (by kernel_rfl) (by simp) ?_
  refine AllReadyH.cons rfl (fun KC hK => ?_) AllReadyH.nil
  go_simp
  refine (wover_at s24 o2 _ T24 HT24 HO.out.2.2.2.2.2.1 HB.out.2.2.2.2.2.2.2.2.2.2.2.2.2.2.1).mono ?_
  rintro e v8 ⟨rfl, kd8⟩
  have kc8 : Hid (Below X4.heap.size X4 v8) := kc7.out.trans (kd8.mono kc7.out.size)
  refine hK.out _ _ ⟨(Y40.out.below kc8.out Y40.out.lt).range 0 _ [] (by simp), (Y41.out.below kc8.out Y41.out.lt).range 0 _ [] (by simp), (Y42.out.below kc8.out Y42.out.lt).range 0 _ [] (by simp), (Y43.out.below kc8.out Y43.out.lt).range 0 _ [] (by simp), (Y44.out.below kc8.out Y44.out.lt).range 0 _ [] (by simp)⟩ (fun _ => ?_)
  clear hK KC kd8 kc7
  refine wpAnyH_take_at (i := 20) (v := .int .u64 (n3 : Int)) rfl rfl (by kernel_rfl) (by kernel_rfl) (by kernel_rfl) (fun _ _ _ h => h) (Or.inl ⟨by rfl, fun w hS => by have e1 : IntKind.u64.wrap _ = _ := HZ.out.2.2.2.2.1; go_simp⟩) ⟨(Y40.out.below kc8.out Y40.out.lt).range 0 _ [] (by simp), (Y41.out.below kc8.out Y41.out.lt).range 0 _ [] (by simp), (Y42.out.below kc8.out Y42.out.lt).range 0 _ [] (by simp), (Y43.out.below kc8.out Y43.out.lt).range 0 _ [] (by simp), (Y44.out.below kc8.out Y44.out.lt).range 0 _ [] (by simp)⟩ ?_
  simp only [List.setIfInBounds_toArray, List.set_cons_zero, List.set_cons_succ]
  refine wpAnyH_ready (rs := [22]) (by kernel_rfl) (by simp) ?_
  refine AllReadyH.cons rfl (fun KC hK => ?_) AllReadyH.nil
  go_simp
  refine (wlimb_at s44 m4 _ T44 HT44 HO.out.2.2.2.2.2.2.2.2.1).mono ?_
  rintro e v9 ⟨rfl, kd9⟩
  have kc9 : Hid (Below X4.heap.size X4 v9) := kc8.out.trans (kd9.mono kc8.out.size)
  refine hK.out _ _ ⟨(Y40.out.below kc9.out Y40.out.lt).range 0 _ [] (by simp), (Y41.out.below kc9.out Y41.out.lt).range 0 _ [] (by simp), (Y42.out.below kc9.out Y42.out.lt).range 0 _ [] (by simp), (Y43.out.below kc9.out Y43.out.lt).range 0 _ [] (by simp), (Y44.out.below kc9.out Y44.out.lt).range 0 _ [] (by simp)⟩ (fun _ => ?_)
  clear hK KC kd9 kc8
  refine wpAnyH_ready (rs := [24]) (by kernel_rfl) (by simp) ?_
  refine AllReadyH.cons rfl (fun KC hK => ?_) AllReadyH.nil
  go_simp
  refine (wover_at s34 o3 _ T34 HT34 HO.out.2.2.2.2.2.2.2.1 HB.out.2.2.2.2.2.2.2.2.2.2.2.2.2.2.2.2.2.2.2.1).mono ?_
  rintro e v10 ⟨rfl, kd10⟩
  have kc10 : Hid (Below X4.heap.size X4 v10) := kc9.out.trans (kd10.mono kc9.out.size)
  refine hK.out _ _ ⟨(Y40.out.below kc10.out Y40.out.lt).range 0 _ [] (by simp), (Y41.out.below kc10.out Y41.out.lt).range 0 _ [] (by simp), (Y42.out.below kc10.out Y42.out.lt).range 0 _ [] (by simp), (Y43.out.below kc10.out Y43.out.lt).range 0 _ [] (by simp), (Y44.out.below kc10.out Y44.out.lt).range 0 _ [] (by simp)⟩ (fun _ => ?_)
  clear hK KC kd10 kc9
  refine wpAnyH_take_at (i := 25) (v := .int .u64 (n4 : Int)) rfl rfl (by kernel_rfl) (by kernel_rfl) (by kernel_rfl) (fun _ _ _ h => h) (Or.inl ⟨by rfl, fun w hS => by have e1 : IntKind.u64.wrap _ = _ := HZ.out.2.2.2.2.2; go_simp⟩) ⟨(Y40.out.below kc10.out Y40.out.lt).range 0 _ [] (by simp), (Y41.out.below kc10.out Y41.out.lt).range 0 _ [] (by simp), (Y42.out.below kc10.out Y42.out.lt).range 0 _ [] (by simp), (Y43.out.below kc10.out Y43.out.lt).range 0 _ [] (by simp), (Y44.out.below kc10.out Y44.out.lt).range 0 _ [] (by simp)⟩ ?_
  simp only [List.setIfInBounds_toArray, List.set_cons_zero, List.set_cons_succ]
  refine wpAnyH_ready (rs := [26]) (by kernel_rfl) (by simp) ?_
  refine AllReadyH.cons rfl (fun KC hK => ?_) AllReadyH.nil
  go_simp
  refine (C.out _).mono ?_
  rintro e u1 ⟨L, rfl, hL, ku⟩
  have KU : Hid (Below X4.heap.size X4 u1) := kc10.out.trans (ku.mono kc10.out.size)
  have Z2 : Hid (Blk u1 (g + 1 + 1) 62 z5) := BB4.out.below KU.out BB4.out.lt
  refine hK.out _ _ ⟨(Y40.out.below KU.out Y40.out.lt).range 0 _ [] (by simp), (Y41.out.below KU.out Y41.out.lt).range 0 _ [] (by simp), (Y42.out.below KU.out Y42.out.lt).range 0 _ [] (by simp), (Y43.out.below KU.out Y43.out.lt).range 0 _ [] (by simp), (Y44.out.below KU.out Y44.out.lt).range 0 _ [] (by simp)⟩ (fun _ => ?_)
  clear hK KC ku
  refine wpAnyH_ready (rs := [27]) (by kernel_rfl) (by simp) ?_
  refine AllReadyH.cons rfl (fun KC hK => ?_) AllReadyH.nil
  refine step_store_blk rfl 62 (.tmp 4) (.tmp 163) rfl (g + 1 + 1) L.toArray rfl rfl 62 z5 Z2.out (by rw [List.size_toArray, hL.len]; kernel_rfl) (by rw [List.size_toArray, hL.len, z5_len]) hL.one ?_
  intro w3 hb3 ho3
  have KE : Hid (Below w.heap.size w w3) := (KW4.out.trans (KU.out.mono KW4.out.size)).trans (ho3.below (Nat.le_trans KW4.out.size KU.out.size) HG.out)
  have W0 : Blk w3 g0 136 T04 := (Y40.out.below KU.out Y40.out.lt).grown ho3 (by have := HGG0.out; intro e; injection e with e; omega)
  have W1 : Blk w3 g1 136 T14 := (Y41.out.below KU.out Y41.out.lt).grown ho3 (by have := HGG1.out; intro e; injection e with e; omega)
  have W2 : Blk w3 g2 136 T24 := (Y42.out.below KU.out Y42.out.lt).grown ho3 (by have := HGG2.out; intro e; injection e with e; omega)
  have W3 : Blk w3 g3 136 T34 := (Y43.out.below KU.out Y43.out.lt).grown ho3 (by have := HGG3.out; intro e; injection e with e; omega)
  have W4 : Blk w3 g4 136 T44 := (Y44.out.below KU.out Y44.out.lt).grown ho3 (by have := HGG4.out; intro e; injection e with e; omega)
  refine hK.out _ _ ⟨W0.range 0 _ [] (by simp), W1.range 0 _ [] (by simp), W2.range 0 _ [] (by simp), W3.range 0 _ [] (by simp), W4.range 0 _ [] (by simp)⟩ (fun _ => ?_)
  clear hK KC
  refine wpAnyH_done (by kernel_rfl) ?_ _
  go_wp2
  exact bodyPost_ret (results_cell_row rfl _ _ (g + 1 + 1) _ _ _ _ rfl hb3 Tryd.underlying62 rfl (by rw [List.size_toArray, hL.len]; kernel_rfl)) rfl ⟨L, rfl, hL, KE.out⟩

end Go.Proofs.YtdojalhaklkegaaDoor
