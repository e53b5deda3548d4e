/-
  PLAIN MATHEMATICS OF LAYER 5, ON: sums and products of five limbs. Conditions: as each says.
-/
import Derived.Test.YtbjmkgbjpcepaaaPolyMath
namespace Go.Proofs.Ytbjmkgbjpcepaaa.M

theorem plus_ok (a b : List UInt64) (ha : Lim a 67108864 67117056) (hb : Lim b 67108864 67108864) : V (plus a b) = V a + V b ∧ Lim (plus a b) 134217728 134225920 := by
  obtain ⟨a0, a1, a2, a3, a4, rfl, ha0, ha1, ha2, ha3, ha4⟩ := ha
  obtain ⟨b0, b1, b2, b3, b4, rfl, hb0, hb1, hb2, hb3, hb4⟩ := hb
  rw [show plus [a0, a1, a2, a3, a4] [b0, b1, b2, b3, b4] = [a0 + b0, a1 + b1, a2 + b2, a3 + b3, a4 + b4] from rfl]
  have e0 : (a0 + b0).toNat = a0.toNat + b0.toNat := u_add _ _ (by omega)
  have e1 : (a1 + b1).toNat = a1.toNat + b1.toNat := u_add _ _ (by omega)
  have e2 : (a2 + b2).toNat = a2.toNat + b2.toNat := u_add _ _ (by omega)
  have e3 : (a3 + b3).toNat = a3.toNat + b3.toNat := u_add _ _ (by omega)
  have e4 : (a4 + b4).toNat = a4.toNat + b4.toNat := u_add _ _ (by omega)
  refine ⟨?_, _, _, _, _, _, rfl, by omega, by omega, by omega, by omega, by omega⟩
  simp only [V, List.getD_cons_zero, List.getD_cons_succ, e0, e1, e2, e3, e4]
  omega

theorem p_lt (x y : UInt64) (hx : x.toNat < 134225920) (hy : y.toNat < 67108864) : x.toNat * y.toNat < 9007749010980864 := by
  have : x.toNat * y.toNat ≤ 134225919 * 67108863 := Nat.mul_le_mul (by omega) (by omega)
  omega

theorem p_one (x y : UInt64) (hx : x.toNat < 134225920) (hy : y.toNat < 67108864) : (x * y).toNat = x.toNat * y.toNat := u_mul _ _ (by have := p_lt x y hx hy; omega)

theorem p_five (x y : UInt64) (hx : x.toNat < 134225920) (hy : y.toNat < 67108864) : (5 * x * y).toNat = 5 * (x.toNat * y.toNat) := by
  have h5 : (5 * x).toNat = 5 * x.toNat := u_mul 5 x (by simp; omega)
  rw [u_mul (5 * x) y (by rw [h5, Nat.mul_assoc]; have := p_lt x y hx hy; omega), h5, Nat.mul_assoc]

theorem five_rows (x b0 b1 b2 b3 b4 k1 k2 k3 k4 : Nat) : x * (b0 + b1 * k1 + b2 * k2 + b3 * k3 + b4 * k4) = x * b0 + x * b1 * k1 + x * b2 * k2 + x * b3 * k3 + x * b4 * k4 := by
  simp only [Nat.mul_add, Nat.mul_assoc]

theorem five_cols (w a0 a1 a2 a3 a4 k1 k2 k3 k4 : Nat) : (a0 + a1 * k1 + a2 * k2 + a3 * k3 + a4 * k4) * w = a0 * w + a1 * w * k1 + a2 * w * k2 + a3 * w * k3 + a4 * w * k4 := by
  simp only [Nat.add_mul, Nat.mul_right_comm _ _ w]

theorem u_sum (x y : UInt64) (s t : Nat) (hx : x.toNat = s) (hy : y.toNat = t) (h : s + t < 18446744073709551616) : (x + y).toNat = s + t := by
  rw [u_add _ _ (by omega), hx, hy]

theorem tin0 (o0 o1 o2 o3 o4 v b0 b1 b2 b3 b4 : UInt64) : tin [o0, o1, o2, o3, o4] v [b0, b1, b2, b3, b4] 0 5 = [o0 + v * b0, o1 + v * b1, o2 + v * b2, o3 + v * b3, o4 + v * b4] := by
  simp [tin]

theorem tin1 (o0 o1 o2 o3 o4 v b0 b1 b2 b3 b4 : UInt64) : tin [o0, o1, o2, o3, o4] v [b0, b1, b2, b3, b4] 1 5 = [o0 + 5 * v * b4, o1 + v * b0, o2 + v * b1, o3 + v * b2, o4 + v * b3] := by
  simp [tin]

theorem tin2 (o0 o1 o2 o3 o4 v b0 b1 b2 b3 b4 : UInt64) : tin [o0, o1, o2, o3, o4] v [b0, b1, b2, b3, b4] 2 5 = [o0 + 5 * v * b3, o1 + 5 * v * b4, o2 + v * b0, o3 + v * b1, o4 + v * b2] := by
  simp [tin]

theorem tin3 (o0 o1 o2 o3 o4 v b0 b1 b2 b3 b4 : UInt64) : tin [o0, o1, o2, o3, o4] v [b0, b1, b2, b3, b4] 3 5 = [o0 + 5 * v * b2, o1 + 5 * v * b3, o2 + 5 * v * b4, o3 + v * b0, o4 + v * b1] := by
  simp [tin]

theorem tin4 (o0 o1 o2 o3 o4 v b0 b1 b2 b3 b4 : UInt64) : tin [o0, o1, o2, o3, o4] v [b0, b1, b2, b3, b4] 4 5 = [o0 + 5 * v * b1, o1 + 5 * v * b2, o2 + 5 * v * b3, o3 + 5 * v * b4, o4 + v * b0] := by
  simp [tin]

theorem tout_five (a0 a1 a2 a3 a4 b0 b1 b2 b3 b4 : UInt64) : tout [a0, a1, a2, a3, a4] [b0, b1, b2, b3, b4] 5 =
    [0 + a0 * b0 + 5 * a1 * b4 + 5 * a2 * b3 + 5 * a3 * b2 + 5 * a4 * b1, 0 + a0 * b1 + a1 * b0 + 5 * a2 * b4 + 5 * a3 * b3 + 5 * a4 * b2,
     0 + a0 * b2 + a1 * b1 + a2 * b0 + 5 * a3 * b4 + 5 * a4 * b3, 0 + a0 * b3 + a1 * b2 + a2 * b1 + a3 * b0 + 5 * a4 * b4, 0 + a0 * b4 + a1 * b3 + a2 * b2 + a3 * b1 + a4 * b0] := by
  rw [tout, tout, tout, tout, tout, tout, show List.replicate 5 (0 : UInt64) = [0, 0, 0, 0, 0] from rfl]
  simp only [List.getD_cons_zero, List.getD_cons_succ]
  rw [tin0, tin1, tin2, tin3, tin4]

theorem six (p0 p1 p2 p3 p4 : UInt64) (s0 s1 s2 s3 s4 : Nat) (h0 : p0.toNat = s0) (h1 : p1.toNat = s1) (h2 : p2.toNat = s2) (h3 : p3.toNat = s3) (h4 : p4.toNat = s4) (h : s0 + s1 + s2 + s3 + s4 < 18446744073709551616) : (0 + p0 + p1 + p2 + p3 + p4).toNat = s0 + s1 + s2 + s3 + s4 := by
  have e0 : (0 + p0).toNat = s0 := by rw [u_add _ _ (by simp; omega)]; simpa using h0
  exact u_sum _ _ _ _ (u_sum _ _ _ _ (u_sum _ _ _ _ (u_sum _ _ _ _ e0 h1 (by omega)) h2 (by omega)) h3 (by omega)) h4 (by omega)

/-- times: the product, by 2^130 - 5. -/
theorem times_ok (a b : List UInt64) (ha : Lim a 134217728 134225920) (hb : Lim b 67108864 67108864) : ∃ k, V a * V b = V (times a b) + k * P ∧ Lim (times a b) 67108864 67117056 := by
  obtain ⟨a0, a1, a2, a3, a4, rfl, ha0, ha1, ha2, ha3, ha4⟩ := ha
  obtain ⟨b0, b1, b2, b3, b4, rfl, hb0, hb1, hb2, hb3, hb4⟩ := hb
  have ha0' : a0.toNat < 134225920 := by omega
  have ha2' : a2.toNat < 134225920 := by omega
  have ha3' : a3.toNat < 134225920 := by omega
  have ha4' : a4.toNat < 134225920 := by omega
  have q00 := p_lt a0 b0 ha0' hb0
  have q01 := p_lt a0 b1 ha0' hb1
  have q02 := p_lt a0 b2 ha0' hb2
  have q03 := p_lt a0 b3 ha0' hb3
  have q04 := p_lt a0 b4 ha0' hb4
  have q10 := p_lt a1 b0 ha1 hb0
  have q11 := p_lt a1 b1 ha1 hb1
  have q12 := p_lt a1 b2 ha1 hb2
  have q13 := p_lt a1 b3 ha1 hb3
  have q14 := p_lt a1 b4 ha1 hb4
  have q20 := p_lt a2 b0 ha2' hb0
  have q21 := p_lt a2 b1 ha2' hb1
  have q22 := p_lt a2 b2 ha2' hb2
  have q23 := p_lt a2 b3 ha2' hb3
  have q24 := p_lt a2 b4 ha2' hb4
  have q30 := p_lt a3 b0 ha3' hb0
  have q31 := p_lt a3 b1 ha3' hb1
  have q32 := p_lt a3 b2 ha3' hb2
  have q33 := p_lt a3 b3 ha3' hb3
  have q34 := p_lt a3 b4 ha3' hb4
  have q40 := p_lt a4 b0 ha4' hb0
  have q41 := p_lt a4 b1 ha4' hb1
  have q42 := p_lt a4 b2 ha4' hb2
  have q43 := p_lt a4 b3 ha4' hb3
  have q44 := p_lt a4 b4 ha4' hb4
  have t0 := six (a0 * b0) (5 * a1 * b4) (5 * a2 * b3) (5 * a3 * b2) (5 * a4 * b1) _ _ _ _ _ (p_one a0 b0 ha0' hb0) (p_five a1 b4 ha1 hb4) (p_five a2 b3 ha2' hb3) (p_five a3 b2 ha3' hb2) (p_five a4 b1 ha4' hb1) (by omega)
  have t1 := six (a0 * b1) (a1 * b0) (5 * a2 * b4) (5 * a3 * b3) (5 * a4 * b2) _ _ _ _ _ (p_one a0 b1 ha0' hb1) (p_one a1 b0 ha1 hb0) (p_five a2 b4 ha2' hb4) (p_five a3 b3 ha3' hb3) (p_five a4 b2 ha4' hb2) (by omega)
  have t2 := six (a0 * b2) (a1 * b1) (a2 * b0) (5 * a3 * b4) (5 * a4 * b3) _ _ _ _ _ (p_one a0 b2 ha0' hb2) (p_one a1 b1 ha1 hb1) (p_one a2 b0 ha2' hb0) (p_five a3 b4 ha3' hb4) (p_five a4 b3 ha4' hb3) (by omega)
  have t3 := six (a0 * b3) (a1 * b2) (a2 * b1) (a3 * b0) (5 * a4 * b4) _ _ _ _ _ (p_one a0 b3 ha0' hb3) (p_one a1 b2 ha1 hb2) (p_one a2 b1 ha2' hb1) (p_one a3 b0 ha3' hb0) (p_five a4 b4 ha4' hb4) (by omega)
  have t4 := six (a0 * b4) (a1 * b3) (a2 * b2) (a3 * b1) (a4 * b0) _ _ _ _ _ (p_one a0 b4 ha0' hb4) (p_one a1 b3 ha1 hb3) (p_one a2 b2 ha2' hb2) (p_one a3 b1 ha3' hb1) (p_one a4 b0 ha4' hb0) (by omega)
  rw [times, tout_five]
  generalize 0 + a0 * b0 + 5 * a1 * b4 + 5 * a2 * b3 + 5 * a3 * b2 + 5 * a4 * b1 = x0 at t0 ⊢
  generalize 0 + a0 * b1 + a1 * b0 + 5 * a2 * b4 + 5 * a3 * b3 + 5 * a4 * b2 = x1 at t1 ⊢
  generalize 0 + a0 * b2 + a1 * b1 + a2 * b0 + 5 * a3 * b4 + 5 * a4 * b3 = x2 at t2 ⊢
  generalize 0 + a0 * b3 + a1 * b2 + a2 * b1 + a3 * b0 + 5 * a4 * b4 = x3 at t3 ⊢
  generalize 0 + a0 * b4 + a1 * b3 + a2 * b2 + a3 * b1 + a4 * b0 = x4 at t4 ⊢
  obtain ⟨k, hk, hl⟩ := carried_ok [x0, x1, x2, x3, x4] ⟨x0, x1, x2, x3, x4, rfl, by omega, by omega, by omega, by omega, by omega⟩
  refine ⟨k + (a1.toNat * b4.toNat + a2.toNat * b3.toNat + a3.toNat * b2.toNat + a4.toNat * b1.toNat) + (a2.toNat * b4.toNat + a3.toNat * b3.toNat + a4.toNat * b2.toNat) * 67108864 + (a3.toNat * b4.toNat + a4.toNat * b3.toNat) * 4503599627370496 + a4.toNat * b4.toNat * 302231454903657293676544, ?_, hl⟩
  rw [Nat.add_mul, Nat.add_mul, Nat.add_mul, Nat.add_mul]
  have e : V [a0, a1, a2, a3, a4] * V [b0, b1, b2, b3, b4] = V [x0, x1, x2, x3, x4] + ((a1.toNat * b4.toNat + a2.toNat * b3.toNat + a3.toNat * b2.toNat + a4.toNat * b1.toNat) * P + (a2.toNat * b4.toNat + a3.toNat * b3.toNat + a4.toNat * b2.toNat) * 67108864 * P + (a3.toNat * b4.toNat + a4.toNat * b3.toNat) * 4503599627370496 * P + a4.toNat * b4.toNat * 302231454903657293676544 * P) := by
    clear hk hl
    simp only [V, List.getD_cons_zero, List.getD_cons_succ]
    rw [five_cols, five_rows, five_rows, five_rows, five_rows, five_rows, t0, t1, t2, t3, t4]
    clear t0 t1 t2 t3 t4 ha0 ha1 ha2 ha3 ha4 ha0' ha2' ha3' ha4' hb0 hb1 hb2 hb3 hb4 q00 q01 q02 q03 q04 q10 q11 q12 q13 q14 q20 q21 q22 q23 q24 q30 q31 q32 q33 q34 q40 q41 q42 q43 q44
    unfold P
    omega
  omega

/-- The state of the reckoning: five limbs that stand for x by 2^130 - 5. -/
def Red (l : List UInt64) (x : Nat) : Prop := Lim l 67108864 67117056 ∧ V l % P = x

theorem red_step (a b r : List UInt64) (x : Nat) (h : Red a x) (hb : Lim b 67108864 67108864) (hr : Lim r 67108864 67108864) : Red (times (plus a b) r) ((x + V b) * V r % P) := by
  obtain ⟨h1, h2⟩ := plus_ok a b h.1 hb
  obtain ⟨k, h3, h4⟩ := times_ok (plus a b) r h2 hr
  refine ⟨h4, ?_⟩
  have e : V (times (plus a b) r) % P = (V a + V b) * V r % P := by rw [← h1, h3, Nat.add_mul_mod_self_right]
  rw [e, ← h.2, Nat.mul_mod (V a % P + V b), Nat.mod_add_mod, ← Nat.mul_mod]

theorem red_left (a : List UInt64) (x : Nat) (h : Red a x) : V (left a) = x ∧ Lim (left a) 67108864 67108864 := by
  obtain ⟨h1, h2⟩ := left_ok a h.1
  exact ⟨h1.trans h.2, h2⟩

theorem red_zero : Red (List.replicate 5 0) 0 := ⟨⟨0, 0, 0, 0, 0, rfl, by decide, by decide, by decide, by decide, by decide⟩, by decide⟩

end Go.Proofs.Ytbjmkgbjpcepaaa.M
