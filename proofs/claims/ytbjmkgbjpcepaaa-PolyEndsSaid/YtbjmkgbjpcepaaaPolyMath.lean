/-
  PLAIN MATHEMATICS OF LAYER 5: numbers of five limbs by 2^130 - 5, as lists of words of 64 bits; nothing of the program. Conditions: as each says.
-/
import Derived.Test.YtbjmkgbjpcepaaaMath
namespace Go.Proofs.Ytbjmkgbjpcepaaa.M

/-- 2^130 - 5. -/
def P : Nat := 1361129467683753853853498429727072845819

/-- The carries of n, laid into d, from the carry o on, k limbs of them. -/
def cs (n d : List UInt64) (o : UInt64) : Nat → List UInt64 × UInt64
  | 0 => (d, o)
  | k + 1 => ((cs n d o k).1.set k ((n.getD k 0 + (cs n d o k).2) &&& 67108863), (n.getD k 0 + (cs n d o k).2) >>> 26)

theorem cs_length (n d : List UInt64) (o : UInt64) (k : Nat) : (cs n d o k).1.length = d.length := by
  induction k with
  | zero => rfl
  | succ k ih => simp [cs, ih]

/-- What carried makes of the limbs and of the last carry. -/
def fold0 (l : List UInt64) (o : UInt64) : List UInt64 := l.set 0 (l.getD 0 0 + 5 * o)
def fold1 (l : List UInt64) : List UInt64 := l.set 1 (l.getD 1 0 + l.getD 0 0 >>> 26)
def fold2 (l : List UInt64) : List UInt64 := l.set 0 (l.getD 0 0 &&& 67108863)

def carried (n : List UInt64) : List UInt64 := fold2 (fold1 (fold0 (cs n n 0 5).1 (cs n n 0 5).2))

def plusTo (a b : List UInt64) : Nat → List UInt64
  | 0 => a
  | k + 1 => (plusTo a b k).set k ((plusTo a b k).getD k 0 + b.getD k 0)

theorem plusTo_length (a b : List UInt64) (k : Nat) : (plusTo a b k).length = a.length := by
  induction k with
  | zero => rfl
  | succ k ih => simp [plusTo, ih]

def plus (a b : List UInt64) : List UInt64 := plusTo a b 5

/-- One limb of a by b's first limbs. -/
def tin (out : List UInt64) (v : UInt64) (b : List UInt64) (i : Nat) : Nat → List UInt64
  | 0 => out
  | j + 1 =>
    if i + j < 5 then (tin out v b i j).set (i + j) ((tin out v b i j).getD (i + j) 0 + v * b.getD j 0)
    else (tin out v b i j).set (i + j - 5) ((tin out v b i j).getD (i + j - 5) 0 + 5 * v * b.getD j 0)

theorem tin_length (out : List UInt64) (v : UInt64) (b : List UInt64) (i j : Nat) : (tin out v b i j).length = out.length := by
  induction j with
  | zero => rfl
  | succ j ih => simp only [tin]; split <;> simp [ih]

def tout (a b : List UInt64) : Nat → List UInt64
  | 0 => List.replicate 5 0
  | i + 1 => tin (tout a b i) (a.getD i 0) b i 5

theorem tout_length (a b : List UInt64) (i : Nat) : (tout a b i).length = 5 := by
  induction i with
  | zero => rfl
  | succ i ih => rw [tout, tin_length, ih]

def times (a b : List UInt64) : List UInt64 := carried (tout a b 5)

def sel (n l : List UInt64) (o : UInt64) : Nat → List UInt64
  | 0 => n
  | k + 1 => (sel n l o k).set k ((sel n l o k).getD k 0 ^^^ (((sel n l o k).getD k 0 ^^^ l.getD k 0) &&& (0 - o)))

theorem sel_length (n l : List UInt64) (o : UInt64) (k : Nat) : (sel n l o k).length = n.length := by
  induction k with
  | zero => rfl
  | succ k ih => simp [sel, ih]

def left (n : List UInt64) : List UInt64 := sel (carried n) (cs (carried n) (List.replicate 5 0) 5 5).1 (cs (carried n) (List.replicate 5 0) 5 5).2 5

theorem fold_length (l : List UInt64) (o : UInt64) : (fold2 (fold1 (fold0 l o))).length = l.length := by simp [fold0, fold1, fold2]

theorem carried_length (n : List UInt64) : (carried n).length = n.length := by rw [carried, fold_length, cs_length]

theorem plus_length (a b : List UInt64) : (plus a b).length = a.length := plusTo_length a b 5

theorem times_length (a b : List UInt64) : (times a b).length = 5 := by rw [times, carried_length, tout_length]

theorem left_length (n : List UInt64) : (left n).length = n.length := by rw [left, sel_length, carried_length]

/-- The number of five limbs. -/
def V (l : List UInt64) : Nat :=
  (l.getD 0 0).toNat + (l.getD 1 0).toNat * 67108864 + (l.getD 2 0).toNat * 4503599627370496 + (l.getD 3 0).toNat * 302231454903657293676544 + (l.getD 4 0).toNat * 20282409603651670423947251286016

/-- Five limbs below bounds. -/
def Lim (l : List UInt64) (x y : Nat) : Prop :=
  ∃ a b c d e : UInt64, l = [a, b, c, d, e] ∧ a.toNat < x ∧ b.toNat < y ∧ c.toNat < x ∧ d.toNat < x ∧ e.toNat < x

theorem u_add (x y : UInt64) (h : x.toNat + y.toNat < 18446744073709551616) : (x + y).toNat = x.toNat + y.toNat := by
  rw [UInt64.toNat_add, Nat.mod_eq_of_lt h]

theorem u_mul (x y : UInt64) (h : x.toNat * y.toNat < 18446744073709551616) : (x * y).toNat = x.toNat * y.toNat := by
  rw [UInt64.toNat_mul, Nat.mod_eq_of_lt h]

theorem u_and (x : UInt64) : (x &&& 67108863).toNat = x.toNat % 67108864 := by
  rw [UInt64.toNat_and, show (67108863 : UInt64).toNat = 2 ^ 26 - 1 from rfl, Nat.and_two_pow_sub_one_eq_mod]

theorem u_shr (x : UInt64) (k : UInt64) (h : k.toNat < 64) : (x >>> k).toNat = x.toNat / 2 ^ k.toNat := by
  rw [UInt64.toNat_shiftRight, Nat.mod_eq_of_lt h, Nat.shiftRight_eq_div_pow]

theorem u_shr26 (x : UInt64) : (x >>> 26).toNat = x.toNat / 67108864 := u_shr x 26 (by decide)

theorem carried_five (a b c d e : UInt64) : ∃ r0 r1 r2 r3 r4 o0 o1 o2 o3 o4 : UInt64,
    r0 = (a + 0) &&& 67108863 ∧ o0 = (a + 0) >>> 26 ∧ r1 = (b + o0) &&& 67108863 ∧ o1 = (b + o0) >>> 26 ∧ r2 = (c + o1) &&& 67108863 ∧ o2 = (c + o1) >>> 26 ∧ r3 = (d + o2) &&& 67108863 ∧ o3 = (d + o2) >>> 26 ∧ r4 = (e + o3) &&& 67108863 ∧ o4 = (e + o3) >>> 26 ∧
    carried [a, b, c, d, e] = [(r0 + 5 * o4) &&& 67108863, r1 + (r0 + 5 * o4) >>> 26, r2, r3, r4] :=
  ⟨_, _, _, _, _, _, _, _, _, _, rfl, rfl, rfl, rfl, rfl, rfl, rfl, rfl, rfl, rfl, rfl⟩

/-- carried: limbs of up to 62 bits. -/
theorem carried_ok (l : List UInt64) (h : Lim l 4611686018427387904 4611686018427387904) : ∃ k, V l = V (carried l) + k * P ∧ Lim (carried l) 67108864 67117056 := by
  obtain ⟨a, b, c, d, e, rfl, ha, hb, hc, hd, he⟩ := h
  obtain ⟨r0, r1, r2, r3, r4, o0, o1, o2, o3, o4, h0, g0, h1, g1, h2, g2, h3, g3, h4, g4, hq⟩ := carried_five a b c d e
  rw [hq]
  have e0 : (a + 0).toNat = a.toNat := by rw [u_add a 0 (by simp; omega)]; simp
  have f0 : o0.toNat = a.toNat / 67108864 := by rw [g0, u_shr26, e0]
  have k0 : r0.toNat = a.toNat % 67108864 := by rw [h0, u_and, e0]
  have e1 : (b + o0).toNat = b.toNat + o0.toNat := u_add _ _ (by omega)
  have f1 : o1.toNat = (b.toNat + o0.toNat) / 67108864 := by rw [g1, u_shr26, e1]
  have k1 : r1.toNat = (b.toNat + o0.toNat) % 67108864 := by rw [h1, u_and, e1]
  have e2 : (c + o1).toNat = c.toNat + o1.toNat := u_add _ _ (by omega)
  have f2 : o2.toNat = (c.toNat + o1.toNat) / 67108864 := by rw [g2, u_shr26, e2]
  have k2 : r2.toNat = (c.toNat + o1.toNat) % 67108864 := by rw [h2, u_and, e2]
  have e3 : (d + o2).toNat = d.toNat + o2.toNat := u_add _ _ (by omega)
  have f3 : o3.toNat = (d.toNat + o2.toNat) / 67108864 := by rw [g3, u_shr26, e3]
  have k3 : r3.toNat = (d.toNat + o2.toNat) % 67108864 := by rw [h3, u_and, e3]
  have e4 : (e + o3).toNat = e.toNat + o3.toNat := u_add _ _ (by omega)
  have f4 : o4.toNat = (e.toNat + o3.toNat) / 67108864 := by rw [g4, u_shr26, e4]
  have k4 : r4.toNat = (e.toNat + o3.toNat) % 67108864 := by rw [h4, u_and, e4]
  have m5 : (5 * o4).toNat = 5 * o4.toNat := u_mul 5 o4 (by simp; omega)
  have x0 : (r0 + 5 * o4).toNat = r0.toNat + 5 * o4.toNat := by rw [u_add _ _ (by omega), m5]
  have x1 : ((r0 + 5 * o4) >>> 26).toNat = (r0.toNat + 5 * o4.toNat) / 67108864 := by rw [u_shr26, x0]
  have x2 : ((r0 + 5 * o4) &&& 67108863).toNat = (r0.toNat + 5 * o4.toNat) % 67108864 := by rw [u_and, x0]
  have x3 : (r1 + (r0 + 5 * o4) >>> 26).toNat = r1.toNat + (r0.toNat + 5 * o4.toNat) / 67108864 := by rw [u_add _ _ (by omega), x1]
  refine ⟨o4.toNat, ?_, _, _, _, _, _, rfl, ?_, ?_, ?_, ?_, ?_⟩
  · simp only [V, List.getD_cons_zero, List.getD_cons_succ, x2, x3, P]
    clear h0 h1 h2 h3 h4 g0 g1 g2 g3 g4 hq
    omega
  · omega
  · omega
  · omega
  · omega
  · omega

/-- .. carried once more. -/
theorem carried_twice (l : List UInt64) (h : Lim l 67108864 67117056) : ∃ k, V l = V (carried l) + k * P ∧ Lim (carried l) 67108864 67108864 := by
  obtain ⟨a, b, c, d, e, rfl, ha, hb, hc, hd, he⟩ := h
  obtain ⟨r0, r1, r2, r3, r4, o0, o1, o2, o3, o4, h0, g0, h1, g1, h2, g2, h3, g3, h4, g4, hq⟩ := carried_five a b c d e
  rw [hq]
  have e0 : (a + 0).toNat = a.toNat := by rw [u_add a 0 (by simp; omega)]; simp
  have f0 : o0.toNat = a.toNat / 67108864 := by rw [g0, u_shr26, e0]
  have k0 : r0.toNat = a.toNat % 67108864 := by rw [h0, u_and, e0]
  have e1 : (b + o0).toNat = b.toNat + o0.toNat := u_add _ _ (by omega)
  have f1 : o1.toNat = (b.toNat + o0.toNat) / 67108864 := by rw [g1, u_shr26, e1]
  have k1 : r1.toNat = (b.toNat + o0.toNat) % 67108864 := by rw [h1, u_and, e1]
  have e2 : (c + o1).toNat = c.toNat + o1.toNat := u_add _ _ (by omega)
  have f2 : o2.toNat = (c.toNat + o1.toNat) / 67108864 := by rw [g2, u_shr26, e2]
  have k2 : r2.toNat = (c.toNat + o1.toNat) % 67108864 := by rw [h2, u_and, e2]
  have e3 : (d + o2).toNat = d.toNat + o2.toNat := u_add _ _ (by omega)
  have f3 : o3.toNat = (d.toNat + o2.toNat) / 67108864 := by rw [g3, u_shr26, e3]
  have k3 : r3.toNat = (d.toNat + o2.toNat) % 67108864 := by rw [h3, u_and, e3]
  have e4 : (e + o3).toNat = e.toNat + o3.toNat := u_add _ _ (by omega)
  have f4 : o4.toNat = (e.toNat + o3.toNat) / 67108864 := by rw [g4, u_shr26, e4]
  have k4 : r4.toNat = (e.toNat + o3.toNat) % 67108864 := by rw [h4, u_and, e4]
  have m5 : (5 * o4).toNat = 5 * o4.toNat := u_mul 5 o4 (by simp; omega)
  have x0 : (r0 + 5 * o4).toNat = r0.toNat + 5 * o4.toNat := by rw [u_add _ _ (by omega), m5]
  have x1 : ((r0 + 5 * o4) >>> 26).toNat = (r0.toNat + 5 * o4.toNat) / 67108864 := by rw [u_shr26, x0]
  have x2 : ((r0 + 5 * o4) &&& 67108863).toNat = (r0.toNat + 5 * o4.toNat) % 67108864 := by rw [u_and, x0]
  have x3 : (r1 + (r0 + 5 * o4) >>> 26).toNat = r1.toNat + (r0.toNat + 5 * o4.toNat) / 67108864 := by rw [u_add _ _ (by omega), x1]
  refine ⟨o4.toNat, ?_, _, _, _, _, _, rfl, ?_, ?_, ?_, ?_, ?_⟩
  · simp only [V, List.getD_cons_zero, List.getD_cons_succ, x2, x3, P]
    clear h0 h1 h2 h3 h4 g0 g1 g2 g3 g4 hq
    omega
  · omega
  · clear h0 h1 h2 h3 h4 g0 g1 g2 g3 g4 hq
    omega
  · omega
  · omega
  · omega

theorem u_sel0 (x y : UInt64) : x ^^^ ((x ^^^ y) &&& (0 - 0)) = x := by simp

theorem u_sel1 (x y : UInt64) : x ^^^ ((x ^^^ y) &&& (0 - 1)) = y := by
  rw [show (0 - 1 : UInt64) = -1 from rfl, UInt64.and_neg_one, ← UInt64.xor_assoc, UInt64.xor_self, UInt64.zero_xor]

theorem sel_zero (a b c d e f g h i j : UInt64) : sel [a, b, c, d, e] [f, g, h, i, j] 0 5 = [a, b, c, d, e] := by
  rw [show sel [a, b, c, d, e] [f, g, h, i, j] 0 5 = [a ^^^ ((a ^^^ f) &&& (0 - 0)), b ^^^ ((b ^^^ g) &&& (0 - 0)), c ^^^ ((c ^^^ h) &&& (0 - 0)), d ^^^ ((d ^^^ i) &&& (0 - 0)), e ^^^ ((e ^^^ j) &&& (0 - 0))] from rfl]
  simp only [u_sel0]

theorem sel_one (a b c d e f g h i j : UInt64) : sel [a, b, c, d, e] [f, g, h, i, j] 1 5 = [f, g, h, i, j] := by
  rw [show sel [a, b, c, d, e] [f, g, h, i, j] 1 5 = [a ^^^ ((a ^^^ f) &&& (0 - 1)), b ^^^ ((b ^^^ g) &&& (0 - 1)), c ^^^ ((c ^^^ h) &&& (0 - 1)), d ^^^ ((d ^^^ i) &&& (0 - 1)), e ^^^ ((e ^^^ j) &&& (0 - 1))] from rfl]
  simp only [u_sel1]

theorem cs_five (a b c d e : UInt64) : ∃ r0 r1 r2 r3 r4 o0 o1 o2 o3 o4 : UInt64,
    r0 = (a + 5) &&& 67108863 ∧ o0 = (a + 5) >>> 26 ∧ r1 = (b + o0) &&& 67108863 ∧ o1 = (b + o0) >>> 26 ∧ r2 = (c + o1) &&& 67108863 ∧ o2 = (c + o1) >>> 26 ∧ r3 = (d + o2) &&& 67108863 ∧ o3 = (d + o2) >>> 26 ∧ r4 = (e + o3) &&& 67108863 ∧ o4 = (e + o3) >>> 26 ∧
    cs [a, b, c, d, e] (List.replicate 5 0) 5 5 = ([r0, r1, r2, r3, r4], o4) :=
  ⟨_, _, _, _, _, _, _, _, _, _, rfl, rfl, rfl, rfl, rfl, rfl, rfl, rfl, rfl, rfl, rfl⟩

/-- left: what is left by 2^130 - 5. -/
theorem left_ok (l : List UInt64) (h : Lim l 67108864 67117056) : V (left l) = V l % P ∧ Lim (left l) 67108864 67108864 := by
  obtain ⟨k, hk, h'⟩ := carried_twice l h
  rw [left]
  generalize carried l = q at hk h'
  rw [hk, Nat.add_mul_mod_self_right]
  obtain ⟨a, b, c, d, e, rfl, ha, hb, hc, hd, he⟩ := h'
  obtain ⟨r0, r1, r2, r3, r4, o0, o1, o2, o3, o4, h0, g0, h1, g1, h2, g2, h3, g3, h4, g4, hq⟩ := cs_five a b c d e
  rw [hq]
  have e0 : (a + 5).toNat = a.toNat + 5 := u_add a 5 (by simp; omega)
  have f0 : o0.toNat = (a.toNat + 5) / 67108864 := by rw [g0, u_shr26, e0]
  have k0 : r0.toNat = (a.toNat + 5) % 67108864 := by rw [h0, u_and, e0]
  have e1 : (b + o0).toNat = b.toNat + o0.toNat := u_add _ _ (by omega)
  have f1 : o1.toNat = (b.toNat + o0.toNat) / 67108864 := by rw [g1, u_shr26, e1]
  have k1 : r1.toNat = (b.toNat + o0.toNat) % 67108864 := by rw [h1, u_and, e1]
  have e2 : (c + o1).toNat = c.toNat + o1.toNat := u_add _ _ (by omega)
  have f2 : o2.toNat = (c.toNat + o1.toNat) / 67108864 := by rw [g2, u_shr26, e2]
  have k2 : r2.toNat = (c.toNat + o1.toNat) % 67108864 := by rw [h2, u_and, e2]
  have e3 : (d + o2).toNat = d.toNat + o2.toNat := u_add _ _ (by omega)
  have f3 : o3.toNat = (d.toNat + o2.toNat) / 67108864 := by rw [g3, u_shr26, e3]
  have k3 : r3.toNat = (d.toNat + o2.toNat) % 67108864 := by rw [h3, u_and, e3]
  have e4 : (e + o3).toNat = e.toNat + o3.toNat := u_add _ _ (by omega)
  have f4 : o4.toNat = (e.toNat + o3.toNat) / 67108864 := by rw [g4, u_shr26, e4]
  have k4 : r4.toNat = (e.toNat + o3.toNat) % 67108864 := by rw [h4, u_and, e4]
  clear h0 h1 h2 h3 h4 g0 g1 g2 g3 g4 hq hk e0 e1 e2 e3 e4
  have ho : o4.toNat = 0 ∨ o4.toNat = 1 := by omega
  rcases ho with ho | ho
  · obtain rfl : o4 = 0 := UInt64.toNat_inj.1 ho
    rw [sel_zero]
    refine ⟨?_, _, _, _, _, _, rfl, ha, hb, hc, hd, he⟩
    rw [Nat.mod_eq_of_lt]
    simp only [V, List.getD_cons_zero, List.getD_cons_succ, P]
    omega
  · obtain rfl : o4 = 1 := UInt64.toNat_inj.1 ho
    rw [sel_one]
    refine ⟨?_, _, _, _, _, _, rfl, by omega, by omega, by omega, by omega, by omega⟩
    have hw : V [a, b, c, d, e] = V [r0, r1, r2, r3, r4] + P := by
      simp only [V, List.getD_cons_zero, List.getD_cons_succ, P]
      omega
    rw [hw, Nat.add_mod_right, Nat.mod_eq_of_lt]
    simp only [V, List.getD_cons_zero, List.getD_cons_succ, P]
    omega

end Go.Proofs.Ytbjmkgbjpcepaaa.M
