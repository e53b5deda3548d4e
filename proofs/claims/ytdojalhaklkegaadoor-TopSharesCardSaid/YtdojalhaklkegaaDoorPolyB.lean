/-
  PLAIN MATHEMATICS OF LAYER 5: numbers of five limbs by 2^130 - 5, as lists of words of 64 bits; nothing of the program. Conditions: as each says.
  PLAIN MATHEMATICS OF LAYER 5, ON: sums and products of five limbs. Conditions: as each says.
  WORDS OF 64 BITS AS CELLS, AND THE WALK'S SUMS OF THEM; an array of five of them by its places. Conditions: none.
  CONTRACTS OF poly.carried, plus, times AND left: limbs as the plain mathematics has them. Conditions: five limbs.
  CONTRACTS OF poly.plus AND poly.times: limbs as the plain mathematics has them. Conditions: five limbs.
  CONTRACT OF poly.numberOf: the limbs of 17 bytes. Conditions: 17 bytes.
  CONTRACT OF poly.clamped: r, of a key's first bytes. Conditions: a key of 32 bytes.
-/
import Derived.Test.YtdojalhaklkegaaDoorPn1
import Derived.Test.YtdojalhaklkegaaDoorPn2
import Derived.Lib.Hide
import Derived.Test.YtdojalhaklkegaaDoorPn3
import Derived.Test.YtdojalhaklkegaaDoorPn8

set_option maxRecDepth 100000
namespace Go.Proofs.YtdojalhaklkegaaDoor.M

/-- 2^130 - 5. -/
def P : Nat := 1361129467683753853853498429727072845819

/-- The carries of n, laid into d, from the carry o on, k limbs of them. -/
def cs (n d : List UInt64) (o : UInt64) : Nat → List UInt64 × UInt64
  | 0 => (d, o)
  | k + 1 => ((cs n d o k).1.set k ((n.getD k 0 + (cs n d o k).2) &&& 67108863), (n.getD k 0 + (cs n d o k).2) >>> 26)

theorem cs_length (n d : List UInt64) (o : UInt64) (k : Nat) : (cs n d o k).1.length = d.length := by
  induction k with
  | zero => rfl
  | succ k ih => simp [cs, ih]

/-- What carried makes of the limbs and of the last carry. -/
def fold0 (l : List UInt64) (o : UInt64) : List UInt64 := l.set 0 (l.getD 0 0 + 5 * o)
def fold1 (l : List UInt64) : List UInt64 := l.set 1 (l.getD 1 0 + l.getD 0 0 >>> 26)
def fold2 (l : List UInt64) : List UInt64 := l.set 0 (l.getD 0 0 &&& 67108863)

def carried (n : List UInt64) : List UInt64 := fold2 (fold1 (fold0 (cs n n 0 5).1 (cs n n 0 5).2))

def plusTo (a b : List UInt64) : Nat → List UInt64
  | 0 => a
  | k + 1 => (plusTo a b k).set k ((plusTo a b k).getD k 0 + b.getD k 0)

theorem plusTo_length (a b : List UInt64) (k : Nat) : (plusTo a b k).length = a.length := by
  induction k with
  | zero => rfl
  | succ k ih => simp [plusTo, ih]

def plus (a b : List UInt64) : List UInt64 := plusTo a b 5

/-- One limb of a by b's first limbs. -/
def tin (out : List UInt64) (v : UInt64) (b : List UInt64) (i : Nat) : Nat → List UInt64
  | 0 => out
  | j + 1 =>
    if i + j < 5 then (tin out v b i j).set (i + j) ((tin out v b i j).getD (i + j) 0 + v * b.getD j 0)
    else (tin out v b i j).set (i + j - 5) ((tin out v b i j).getD (i + j - 5) 0 + 5 * v * b.getD j 0)

theorem tin_length (out : List UInt64) (v : UInt64) (b : List UInt64) (i j : Nat) : (tin out v b i j).length = out.length := by
  induction j with
  | zero => rfl
  | succ j ih => simp only [tin]; split <;> simp [ih]

def tout (a b : List UInt64) : Nat → List UInt64
  | 0 => List.replicate 5 0
  | i + 1 => tin (tout a b i) (a.getD i 0) b i 5

theorem tout_length (a b : List UInt64) (i : Nat) : (tout a b i).length = 5 := by
  induction i with
  | zero => rfl
  | succ i ih => rw [tout, tin_length, ih]

def times (a b : List UInt64) : List UInt64 := carried (tout a b 5)

def sel (n l : List UInt64) (o : UInt64) : Nat → List UInt64
  | 0 => n
  | k + 1 => (sel n l o k).set k ((sel n l o k).getD k 0 ^^^ (((sel n l o k).getD k 0 ^^^ l.getD k 0) &&& (0 - o)))

theorem sel_length (n l : List UInt64) (o : UInt64) (k : Nat) : (sel n l o k).length = n.length := by
  induction k with
  | zero => rfl
  | succ k ih => simp [sel, ih]

def left (n : List UInt64) : List UInt64 := sel (carried n) (cs (carried n) (List.replicate 5 0) 5 5).1 (cs (carried n) (List.replicate 5 0) 5 5).2 5

theorem fold_length (l : List UInt64) (o : UInt64) : (fold2 (fold1 (fold0 l o))).length = l.length := by simp [fold0, fold1, fold2]

theorem carried_length (n : List UInt64) : (carried n).length = n.length := by rw [carried, fold_length, cs_length]

theorem plus_length (a b : List UInt64) : (plus a b).length = a.length := plusTo_length a b 5

theorem times_length (a b : List UInt64) : (times a b).length = 5 := by rw [times, carried_length, tout_length]

theorem left_length (n : List UInt64) : (left n).length = n.length := by rw [left, sel_length, carried_length]

/-- The number of five limbs. -/
def V (l : List UInt64) : Nat :=
  (l.getD 0 0).toNat + (l.getD 1 0).toNat * 67108864 + (l.getD 2 0).toNat * 4503599627370496 + (l.getD 3 0).toNat * 302231454903657293676544 + (l.getD 4 0).toNat * 20282409603651670423947251286016

/-- Five limbs below bounds. -/
def Lim (l : List UInt64) (x y : Nat) : Prop :=
  ∃ a b c d e : UInt64, l = [a, b, c, d, e] ∧ a.toNat < x ∧ b.toNat < y ∧ c.toNat < x ∧ d.toNat < x ∧ e.toNat < x

theorem u_and (x : UInt64) : (x &&& 67108863).toNat = x.toNat % 67108864 := by
  rw [UInt64.toNat_and, show (67108863 : UInt64).toNat = 2 ^ 26 - 1 from rfl, Nat.and_two_pow_sub_one_eq_mod]

theorem u_shr26 (x : UInt64) : (x >>> 26).toNat = x.toNat / 67108864 := u_shr x 26 (by decide)

theorem carried_five (a b c d e : UInt64) : ∃ r0 r1 r2 r3 r4 o0 o1 o2 o3 o4 : UInt64,
    r0 = (a + 0) &&& 67108863 ∧ o0 = (a + 0) >>> 26 ∧ r1 = (b + o0) &&& 67108863 ∧ o1 = (b + o0) >>> 26 ∧ r2 = (c + o1) &&& 67108863 ∧ o2 = (c + o1) >>> 26 ∧ r3 = (d + o2) &&& 67108863 ∧ o3 = (d + o2) >>> 26 ∧ r4 = (e + o3) &&& 67108863 ∧ o4 = (e + o3) >>> 26 ∧
    carried [a, b, c, d, e] = [(r0 + 5 * o4) &&& 67108863, r1 + (r0 + 5 * o4) >>> 26, r2, r3, r4] :=
  ⟨_, _, _, _, _, _, _, _, _, _, rfl, rfl, rfl, rfl, rfl, rfl, rfl, rfl, rfl, rfl, rfl⟩

/-- carried: limbs of up to 62 bits. -/
theorem carried_ok (l : List UInt64) (h : Lim l 4611686018427387904 4611686018427387904) : ∃ k, V l = V (carried l) + k * P ∧ Lim (carried l) 67108864 67117056 := by
  obtain ⟨a, b, c, d, e, rfl, ha, hb, hc, hd, he⟩ := h
  obtain ⟨r0, r1, r2, r3, r4, o0, o1, o2, o3, o4, h0, g0, h1, g1, h2, g2, h3, g3, h4, g4, hq⟩ := carried_five a b c d e
  rw [hq]
  have e0 : (a + 0).toNat = a.toNat := by rw [u_add a 0 (by simp; omega)]; simp
  have f0 : o0.toNat = a.toNat / 67108864 := by rw [g0, u_shr26, e0]
  have k0 : r0.toNat = a.toNat % 67108864 := by rw [h0, u_and, e0]
  have e1 : (b + o0).toNat = b.toNat + o0.toNat := u_add _ _ (by omega)
  have f1 : o1.toNat = (b.toNat + o0.toNat) / 67108864 := by rw [g1, u_shr26, e1]
  have k1 : r1.toNat = (b.toNat + o0.toNat) % 67108864 := by rw [h1, u_and, e1]
  have e2 : (c + o1).toNat = c.toNat + o1.toNat := u_add _ _ (by omega)
  have f2 : o2.toNat = (c.toNat + o1.toNat) / 67108864 := by rw [g2, u_shr26, e2]
  have k2 : r2.toNat = (c.toNat + o1.toNat) % 67108864 := by rw [h2, u_and, e2]
  have e3 : (d + o2).toNat = d.toNat + o2.toNat := u_add _ _ (by omega)
  have f3 : o3.toNat = (d.toNat + o2.toNat) / 67108864 := by rw [g3, u_shr26, e3]
  have k3 : r3.toNat = (d.toNat + o2.toNat) % 67108864 := by rw [h3, u_and, e3]
  have e4 : (e + o3).toNat = e.toNat + o3.toNat := u_add _ _ (by omega)
  have f4 : o4.toNat = (e.toNat + o3.toNat) / 67108864 := by rw [g4, u_shr26, e4]
  have k4 : r4.toNat = (e.toNat + o3.toNat) % 67108864 := by rw [h4, u_and, e4]
  have m5 : (5 * o4).toNat = 5 * o4.toNat := u_mul 5 o4 (by simp; omega)
  have x0 : (r0 + 5 * o4).toNat = r0.toNat + 5 * o4.toNat := by rw [u_add _ _ (by omega), m5]
  have x1 : ((r0 + 5 * o4) >>> 26).toNat = (r0.toNat + 5 * o4.toNat) / 67108864 := by rw [u_shr26, x0]
  have x2 : ((r0 + 5 * o4) &&& 67108863).toNat = (r0.toNat + 5 * o4.toNat) % 67108864 := by rw [u_and, x0]
  have x3 : (r1 + (r0 + 5 * o4) >>> 26).toNat = r1.toNat + (r0.toNat + 5 * o4.toNat) / 67108864 := by rw [u_add _ _ (by omega), x1]
  refine ⟨o4.toNat, ?_, _, _, _, _, _, rfl, ?_, ?_, ?_, ?_, ?_⟩
  · simp only [V, List.getD_cons_zero, List.getD_cons_succ, x2, x3, P]
    clear h0 h1 h2 h3 h4 g0 g1 g2 g3 g4 hq
    omega
  · omega
  · omega
  · omega
  · omega
  · omega

/-- .. carried once more. -/
theorem carried_twice (l : List UInt64) (h : Lim l 67108864 67117056) : ∃ k, V l = V (carried l) + k * P ∧ Lim (carried l) 67108864 67108864 := by
  obtain ⟨a, b, c, d, e, rfl, ha, hb, hc, hd, he⟩ := h
  obtain ⟨r0, r1, r2, r3, r4, o0, o1, o2, o3, o4, h0, g0, h1, g1, h2, g2, h3, g3, h4, g4, hq⟩ := carried_five a b c d e
  rw [hq]
  have e0 : (a + 0).toNat = a.toNat := by rw [u_add a 0 (by simp; omega)]; simp
  have f0 : o0.toNat = a.toNat / 67108864 := by rw [g0, u_shr26, e0]
  have k0 : r0.toNat = a.toNat % 67108864 := by rw [h0, u_and, e0]
  have e1 : (b + o0).toNat = b.toNat + o0.toNat := u_add _ _ (by omega)
  have f1 : o1.toNat = (b.toNat + o0.toNat) / 67108864 := by rw [g1, u_shr26, e1]
  have k1 : r1.toNat = (b.toNat + o0.toNat) % 67108864 := by rw [h1, u_and, e1]
  have e2 : (c + o1).toNat = c.toNat + o1.toNat := u_add _ _ (by omega)
  have f2 : o2.toNat = (c.toNat + o1.toNat) / 67108864 := by rw [g2, u_shr26, e2]
  have k2 : r2.toNat = (c.toNat + o1.toNat) % 67108864 := by rw [h2, u_and, e2]
  have e3 : (d + o2).toNat = d.toNat + o2.toNat := u_add _ _ (by omega)
  have f3 : o3.toNat = (d.toNat + o2.toNat) / 67108864 := by rw [g3, u_shr26, e3]
  have k3 : r3.toNat = (d.toNat + o2.toNat) % 67108864 := by rw [h3, u_and, e3]
  have e4 : (e + o3).toNat = e.toNat + o3.toNat := u_add _ _ (by omega)
  have f4 : o4.toNat = (e.toNat + o3.toNat) / 67108864 := by rw [g4, u_shr26, e4]
  have k4 : r4.toNat = (e.toNat + o3.toNat) % 67108864 := by rw [h4, u_and, e4]
  have m5 : (5 * o4).toNat = 5 * o4.toNat := u_mul 5 o4 (by simp; omega)
  have x0 : (r0 + 5 * o4).toNat = r0.toNat + 5 * o4.toNat := by rw [u_add _ _ (by omega), m5]
  have x1 : ((r0 + 5 * o4) >>> 26).toNat = (r0.toNat + 5 * o4.toNat) / 67108864 := by rw [u_shr26, x0]
  have x2 : ((r0 + 5 * o4) &&& 67108863).toNat = (r0.toNat + 5 * o4.toNat) % 67108864 := by rw [u_and, x0]
  have x3 : (r1 + (r0 + 5 * o4) >>> 26).toNat = r1.toNat + (r0.toNat + 5 * o4.toNat) / 67108864 := by rw [u_add _ _ (by omega), x1]
  refine ⟨o4.toNat, ?_, _, _, _, _, _, rfl, ?_, ?_, ?_, ?_, ?_⟩
  · simp only [V, List.getD_cons_zero, List.getD_cons_succ, x2, x3, P]
    clear h0 h1 h2 h3 h4 g0 g1 g2 g3 g4 hq
    omega
  · omega
  · clear h0 h1 h2 h3 h4 g0 g1 g2 g3 g4 hq
    omega
  · omega
  · omega
  · omega

theorem sel_zero (a b c d e f g h i j : UInt64) : sel [a, b, c, d, e] [f, g, h, i, j] 0 5 = [a, b, c, d, e] := by
  rw [show sel [a, b, c, d, e] [f, g, h, i, j] 0 5 = [a ^^^ ((a ^^^ f) &&& (0 - 0)), b ^^^ ((b ^^^ g) &&& (0 - 0)), c ^^^ ((c ^^^ h) &&& (0 - 0)), d ^^^ ((d ^^^ i) &&& (0 - 0)), e ^^^ ((e ^^^ j) &&& (0 - 0))] from rfl]
  simp only [u_sel0]

theorem sel_one (a b c d e f g h i j : UInt64) : sel [a, b, c, d, e] [f, g, h, i, j] 1 5 = [f, g, h, i, j] := by
  rw [show sel [a, b, c, d, e] [f, g, h, i, j] 1 5 = [a ^^^ ((a ^^^ f) &&& (0 - 1)), b ^^^ ((b ^^^ g) &&& (0 - 1)), c ^^^ ((c ^^^ h) &&& (0 - 1)), d ^^^ ((d ^^^ i) &&& (0 - 1)), e ^^^ ((e ^^^ j) &&& (0 - 1))] from rfl]
  simp only [u_sel1]

theorem cs_five (a b c d e : UInt64) : ∃ r0 r1 r2 r3 r4 o0 o1 o2 o3 o4 : UInt64,
    r0 = (a + 5) &&& 67108863 ∧ o0 = (a + 5) >>> 26 ∧ r1 = (b + o0) &&& 67108863 ∧ o1 = (b + o0) >>> 26 ∧ r2 = (c + o1) &&& 67108863 ∧ o2 = (c + o1) >>> 26 ∧ r3 = (d + o2) &&& 67108863 ∧ o3 = (d + o2) >>> 26 ∧ r4 = (e + o3) &&& 67108863 ∧ o4 = (e + o3) >>> 26 ∧
    cs [a, b, c, d, e] (List.replicate 5 0) 5 5 = ([r0, r1, r2, r3, r4], o4) :=
  ⟨_, _, _, _, _, _, _, _, _, _, rfl, rfl, rfl, rfl, rfl, rfl, rfl, rfl, rfl, rfl, rfl⟩

/-- left: what is left by 2^130 - 5. -/
theorem left_ok (l : List UInt64) (h : Lim l 67108864 67117056) : V (left l) = V l % P ∧ Lim (left l) 67108864 67108864 := by
  obtain ⟨k, hk, h'⟩ := carried_twice l h
  rw [left]
  generalize carried l = q at hk h'
  rw [hk, Nat.add_mul_mod_self_right]
  obtain ⟨a, b, c, d, e, rfl, ha, hb, hc, hd, he⟩ := h'
  obtain ⟨r0, r1, r2, r3, r4, o0, o1, o2, o3, o4, h0, g0, h1, g1, h2, g2, h3, g3, h4, g4, hq⟩ := cs_five a b c d e
  rw [hq]
  have e0 : (a + 5).toNat = a.toNat + 5 := u_add a 5 (by simp; omega)
  have f0 : o0.toNat = (a.toNat + 5) / 67108864 := by rw [g0, u_shr26, e0]
  have k0 : r0.toNat = (a.toNat + 5) % 67108864 := by rw [h0, u_and, e0]
  have e1 : (b + o0).toNat = b.toNat + o0.toNat := u_add _ _ (by omega)
  have f1 : o1.toNat = (b.toNat + o0.toNat) / 67108864 := by rw [g1, u_shr26, e1]
  have k1 : r1.toNat = (b.toNat + o0.toNat) % 67108864 := by rw [h1, u_and, e1]
  have e2 : (c + o1).toNat = c.toNat + o1.toNat := u_add _ _ (by omega)
  have f2 : o2.toNat = (c.toNat + o1.toNat) / 67108864 := by rw [g2, u_shr26, e2]
  have k2 : r2.toNat = (c.toNat + o1.toNat) % 67108864 := by rw [h2, u_and, e2]
  have e3 : (d + o2).toNat = d.toNat + o2.toNat := u_add _ _ (by omega)
  have f3 : o3.toNat = (d.toNat + o2.toNat) / 67108864 := by rw [g3, u_shr26, e3]
  have k3 : r3.toNat = (d.toNat + o2.toNat) % 67108864 := by rw [h3, u_and, e3]
  have e4 : (e + o3).toNat = e.toNat + o3.toNat := u_add _ _ (by omega)
  have f4 : o4.toNat = (e.toNat + o3.toNat) / 67108864 := by rw [g4, u_shr26, e4]
  have k4 : r4.toNat = (e.toNat + o3.toNat) % 67108864 := by rw [h4, u_and, e4]
  clear h0 h1 h2 h3 h4 g0 g1 g2 g3 g4 hq hk e0 e1 e2 e3 e4
  have ho : o4.toNat = 0 ∨ o4.toNat = 1 := by omega
  rcases ho with ho | ho
  · obtain rfl : o4 = 0 := UInt64.toNat_inj.1 ho
    rw [sel_zero]
    refine ⟨?_, _, _, _, _, _, rfl, ha, hb, hc, hd, he⟩
    rw [Nat.mod_eq_of_lt]
    simp only [V, List.getD_cons_zero, List.getD_cons_succ, P]
    omega
  · obtain rfl : o4 = 1 := UInt64.toNat_inj.1 ho
    rw [sel_one]
    refine ⟨?_, _, _, _, _, _, rfl, by omega, by omega, by omega, by omega, by omega⟩
    have hw : V [a, b, c, d, e] = V [r0, r1, r2, r3, r4] + P := by
      simp only [V, List.getD_cons_zero, List.getD_cons_succ, P]
      omega
    rw [hw, Nat.add_mod_right, Nat.mod_eq_of_lt]
    simp only [V, List.getD_cons_zero, List.getD_cons_succ, P]
    omega

end Go.Proofs.YtdojalhaklkegaaDoor.M

namespace Go.Proofs.YtdojalhaklkegaaDoor.M

theorem plus_ok (a b : List UInt64) (ha : Lim a 67108864 67117056) (hb : Lim b 67108864 67108864) : V (plus a b) = V a + V b ∧ Lim (plus a b) 134217728 134225920 := by
  obtain ⟨a0, a1, a2, a3, a4, rfl, ha0, ha1, ha2, ha3, ha4⟩ := ha
  obtain ⟨b0, b1, b2, b3, b4, rfl, hb0, hb1, hb2, hb3, hb4⟩ := hb
  rw [show plus [a0, a1, a2, a3, a4] [b0, b1, b2, b3, b4] = [a0 + b0, a1 + b1, a2 + b2, a3 + b3, a4 + b4] from rfl]
  have e0 : (a0 + b0).toNat = a0.toNat + b0.toNat := u_add _ _ (by omega)
  have e1 : (a1 + b1).toNat = a1.toNat + b1.toNat := u_add _ _ (by omega)
  have e2 : (a2 + b2).toNat = a2.toNat + b2.toNat := u_add _ _ (by omega)
  have e3 : (a3 + b3).toNat = a3.toNat + b3.toNat := u_add _ _ (by omega)
  have e4 : (a4 + b4).toNat = a4.toNat + b4.toNat := u_add _ _ (by omega)
  refine ⟨?_, _, _, _, _, _, rfl, by omega, by omega, by omega, by omega, by omega⟩
  simp only [V, List.getD_cons_zero, List.getD_cons_succ, e0, e1, e2, e3, e4]
  omega

theorem p_lt (x y : UInt64) (hx : x.toNat < 134225920) (hy : y.toNat < 67108864) : x.toNat * y.toNat < 9007749010980864 := by
  have : x.toNat * y.toNat ≤ 134225919 * 67108863 := Nat.mul_le_mul (by omega) (by omega)
  omega

theorem p_one (x y : UInt64) (hx : x.toNat < 134225920) (hy : y.toNat < 67108864) : (x * y).toNat = x.toNat * y.toNat := u_mul _ _ (by have := p_lt x y hx hy; omega)

theorem p_five (x y : UInt64) (hx : x.toNat < 134225920) (hy : y.toNat < 67108864) : (5 * x * y).toNat = 5 * (x.toNat * y.toNat) := by
  have h5 : (5 * x).toNat = 5 * x.toNat := u_mul 5 x (by simp; omega)
  rw [u_mul (5 * x) y (by rw [h5, Nat.mul_assoc]; have := p_lt x y hx hy; omega), h5, Nat.mul_assoc]

theorem tin0 (o0 o1 o2 o3 o4 v b0 b1 b2 b3 b4 : UInt64) : tin [o0, o1, o2, o3, o4] v [b0, b1, b2, b3, b4] 0 5 = [o0 + v * b0, o1 + v * b1, o2 + v * b2, o3 + v * b3, o4 + v * b4] := by
  simp [tin]

theorem tin1 (o0 o1 o2 o3 o4 v b0 b1 b2 b3 b4 : UInt64) : tin [o0, o1, o2, o3, o4] v [b0, b1, b2, b3, b4] 1 5 = [o0 + 5 * v * b4, o1 + v * b0, o2 + v * b1, o3 + v * b2, o4 + v * b3] := by
  simp [tin]

theorem tin2 (o0 o1 o2 o3 o4 v b0 b1 b2 b3 b4 : UInt64) : tin [o0, o1, o2, o3, o4] v [b0, b1, b2, b3, b4] 2 5 = [o0 + 5 * v * b3, o1 + 5 * v * b4, o2 + v * b0, o3 + v * b1, o4 + v * b2] := by
  simp [tin]

theorem tin3 (o0 o1 o2 o3 o4 v b0 b1 b2 b3 b4 : UInt64) : tin [o0, o1, o2, o3, o4] v [b0, b1, b2, b3, b4] 3 5 = [o0 + 5 * v * b2, o1 + 5 * v * b3, o2 + 5 * v * b4, o3 + v * b0, o4 + v * b1] := by
  simp [tin]

theorem tin4 (o0 o1 o2 o3 o4 v b0 b1 b2 b3 b4 : UInt64) : tin [o0, o1, o2, o3, o4] v [b0, b1, b2, b3, b4] 4 5 = [o0 + 5 * v * b1, o1 + 5 * v * b2, o2 + 5 * v * b3, o3 + 5 * v * b4, o4 + v * b0] := by
  simp [tin]

theorem tout_five (a0 a1 a2 a3 a4 b0 b1 b2 b3 b4 : UInt64) : tout [a0, a1, a2, a3, a4] [b0, b1, b2, b3, b4] 5 =
    [0 + a0 * b0 + 5 * a1 * b4 + 5 * a2 * b3 + 5 * a3 * b2 + 5 * a4 * b1, 0 + a0 * b1 + a1 * b0 + 5 * a2 * b4 + 5 * a3 * b3 + 5 * a4 * b2,
     0 + a0 * b2 + a1 * b1 + a2 * b0 + 5 * a3 * b4 + 5 * a4 * b3, 0 + a0 * b3 + a1 * b2 + a2 * b1 + a3 * b0 + 5 * a4 * b4, 0 + a0 * b4 + a1 * b3 + a2 * b2 + a3 * b1 + a4 * b0] := by
  rw [tout, tout, tout, tout, tout, tout, show List.replicate 5 (0 : UInt64) = [0, 0, 0, 0, 0] from rfl]
  simp only [List.getD_cons_zero, List.getD_cons_succ]
  rw [tin0, tin1, tin2, tin3, tin4]

theorem six (p0 p1 p2 p3 p4 : UInt64) (s0 s1 s2 s3 s4 : Nat) (h0 : p0.toNat = s0) (h1 : p1.toNat = s1) (h2 : p2.toNat = s2) (h3 : p3.toNat = s3) (h4 : p4.toNat = s4) (h : s0 + s1 + s2 + s3 + s4 < 18446744073709551616) : (0 + p0 + p1 + p2 + p3 + p4).toNat = s0 + s1 + s2 + s3 + s4 := by
  have e0 : (0 + p0).toNat = s0 := by rw [u_add _ _ (by simp; omega)]; simpa using h0
  exact u_sum _ _ _ _ (u_sum _ _ _ _ (u_sum _ _ _ _ (u_sum _ _ _ _ e0 h1 (by omega)) h2 (by omega)) h3 (by omega)) h4 (by omega)

/-- times: the product, by 2^130 - 5. -/
theorem times_ok (a b : List UInt64) (ha : Lim a 134217728 134225920) (hb : Lim b 67108864 67108864) : ∃ k, V a * V b = V (times a b) + k * P ∧ Lim (times a b) 67108864 67117056 := by
  obtain ⟨a0, a1, a2, a3, a4, rfl, ha0, ha1, ha2, ha3, ha4⟩ := ha
  obtain ⟨b0, b1, b2, b3, b4, rfl, hb0, hb1, hb2, hb3, hb4⟩ := hb
  have ha0' : a0.toNat < 134225920 := by omega
  have ha2' : a2.toNat < 134225920 := by omega
  have ha3' : a3.toNat < 134225920 := by omega
  have ha4' : a4.toNat < 134225920 := by omega
  have q00 := p_lt a0 b0 ha0' hb0
  have q01 := p_lt a0 b1 ha0' hb1
  have q02 := p_lt a0 b2 ha0' hb2
  have q03 := p_lt a0 b3 ha0' hb3
  have q04 := p_lt a0 b4 ha0' hb4
  have q10 := p_lt a1 b0 ha1 hb0
  have q11 := p_lt a1 b1 ha1 hb1
  have q12 := p_lt a1 b2 ha1 hb2
  have q13 := p_lt a1 b3 ha1 hb3
  have q14 := p_lt a1 b4 ha1 hb4
  have q20 := p_lt a2 b0 ha2' hb0
  have q21 := p_lt a2 b1 ha2' hb1
  have q22 := p_lt a2 b2 ha2' hb2
  have q23 := p_lt a2 b3 ha2' hb3
  have q24 := p_lt a2 b4 ha2' hb4
  have q30 := p_lt a3 b0 ha3' hb0
  have q31 := p_lt a3 b1 ha3' hb1
  have q32 := p_lt a3 b2 ha3' hb2
  have q33 := p_lt a3 b3 ha3' hb3
  have q34 := p_lt a3 b4 ha3' hb4
  have q40 := p_lt a4 b0 ha4' hb0
  have q41 := p_lt a4 b1 ha4' hb1
  have q42 := p_lt a4 b2 ha4' hb2
  have q43 := p_lt a4 b3 ha4' hb3
  have q44 := p_lt a4 b4 ha4' hb4
  have t0 := six (a0 * b0) (5 * a1 * b4) (5 * a2 * b3) (5 * a3 * b2) (5 * a4 * b1) _ _ _ _ _ (p_one a0 b0 ha0' hb0) (p_five a1 b4 ha1 hb4) (p_five a2 b3 ha2' hb3) (p_five a3 b2 ha3' hb2) (p_five a4 b1 ha4' hb1) (by omega)
  have t1 := six (a0 * b1) (a1 * b0) (5 * a2 * b4) (5 * a3 * b3) (5 * a4 * b2) _ _ _ _ _ (p_one a0 b1 ha0' hb1) (p_one a1 b0 ha1 hb0) (p_five a2 b4 ha2' hb4) (p_five a3 b3 ha3' hb3) (p_five a4 b2 ha4' hb2) (by omega)
  have t2 := six (a0 * b2) (a1 * b1) (a2 * b0) (5 * a3 * b4) (5 * a4 * b3) _ _ _ _ _ (p_one a0 b2 ha0' hb2) (p_one a1 b1 ha1 hb1) (p_one a2 b0 ha2' hb0) (p_five a3 b4 ha3' hb4) (p_five a4 b3 ha4' hb3) (by omega)
  have t3 := six (a0 * b3) (a1 * b2) (a2 * b1) (a3 * b0) (5 * a4 * b4) _ _ _ _ _ (p_one a0 b3 ha0' hb3) (p_one a1 b2 ha1 hb2) (p_one a2 b1 ha2' hb1) (p_one a3 b0 ha3' hb0) (p_five a4 b4 ha4' hb4) (by omega)
  have t4 := six (a0 * b4) (a1 * b3) (a2 * b2) (a3 * b1) (a4 * b0) _ _ _ _ _ (p_one a0 b4 ha0' hb4) (p_one a1 b3 ha1 hb3) (p_one a2 b2 ha2' hb2) (p_one a3 b1 ha3' hb1) (p_one a4 b0 ha4' hb0) (by omega)
  rw [times, tout_five]
  generalize 0 + a0 * b0 + 5 * a1 * b4 + 5 * a2 * b3 + 5 * a3 * b2 + 5 * a4 * b1 = x0 at t0 ⊢
  generalize 0 + a0 * b1 + a1 * b0 + 5 * a2 * b4 + 5 * a3 * b3 + 5 * a4 * b2 = x1 at t1 ⊢
  generalize 0 + a0 * b2 + a1 * b1 + a2 * b0 + 5 * a3 * b4 + 5 * a4 * b3 = x2 at t2 ⊢
  generalize 0 + a0 * b3 + a1 * b2 + a2 * b1 + a3 * b0 + 5 * a4 * b4 = x3 at t3 ⊢
  generalize 0 + a0 * b4 + a1 * b3 + a2 * b2 + a3 * b1 + a4 * b0 = x4 at t4 ⊢
  obtain ⟨k, hk, hl⟩ := carried_ok [x0, x1, x2, x3, x4] ⟨x0, x1, x2, x3, x4, rfl, by omega, by omega, by omega, by omega, by omega⟩
  refine ⟨k + (a1.toNat * b4.toNat + a2.toNat * b3.toNat + a3.toNat * b2.toNat + a4.toNat * b1.toNat) + (a2.toNat * b4.toNat + a3.toNat * b3.toNat + a4.toNat * b2.toNat) * 67108864 + (a3.toNat * b4.toNat + a4.toNat * b3.toNat) * 4503599627370496 + a4.toNat * b4.toNat * 302231454903657293676544, ?_, hl⟩
  rw [Nat.add_mul, Nat.add_mul, Nat.add_mul, Nat.add_mul]
  have e : V [a0, a1, a2, a3, a4] * V [b0, b1, b2, b3, b4] = V [x0, x1, x2, x3, x4] + ((a1.toNat * b4.toNat + a2.toNat * b3.toNat + a3.toNat * b2.toNat + a4.toNat * b1.toNat) * P + (a2.toNat * b4.toNat + a3.toNat * b3.toNat + a4.toNat * b2.toNat) * 67108864 * P + (a3.toNat * b4.toNat + a4.toNat * b3.toNat) * 4503599627370496 * P + a4.toNat * b4.toNat * 302231454903657293676544 * P) := by
    clear hk hl
    simp only [V, List.getD_cons_zero, List.getD_cons_succ]
    rw [five_cols, five_rows, five_rows, five_rows, five_rows, five_rows, t0, t1, t2, t3, t4]
    clear t0 t1 t2 t3 t4 ha0 ha1 ha2 ha3 ha4 ha0' ha2' ha3' ha4' hb0 hb1 hb2 hb3 hb4 q00 q01 q02 q03 q04 q10 q11 q12 q13 q14 q20 q21 q22 q23 q24 q30 q31 q32 q33 q34 q40 q41 q42 q43 q44
    unfold P
    omega
  omega

/-- The state of the reckoning: five limbs that stand for x by 2^130 - 5. -/
def Red (l : List UInt64) (x : Nat) : Prop := Lim l 67108864 67117056 ∧ V l % P = x

theorem red_step (a b r : List UInt64) (x : Nat) (h : Red a x) (hb : Lim b 67108864 67108864) (hr : Lim r 67108864 67108864) : Red (times (plus a b) r) ((x + V b) * V r % P) := by
  obtain ⟨h1, h2⟩ := plus_ok a b h.1 hb
  obtain ⟨k, h3, h4⟩ := times_ok (plus a b) r h2 hr
  refine ⟨h4, ?_⟩
  have e : V (times (plus a b) r) % P = (V a + V b) * V r % P := by rw [← h1, h3, Nat.add_mul_mod_self_right]
  rw [e, ← h.2, Nat.mul_mod (V a % P + V b), Nat.mod_add_mod, ← Nat.mul_mod]

theorem red_left (a : List UInt64) (x : Nat) (h : Red a x) : V (left a) = x ∧ Lim (left a) 67108864 67108864 := by
  obtain ⟨h1, h2⟩ := left_ok a h.1
  exact ⟨h1.trans h.2, h2⟩

theorem red_zero : Red (List.replicate 5 0) 0 := ⟨⟨0, 0, 0, 0, 0, rfl, by decide, by decide, by decide, by decide, by decide⟩, by decide⟩

end Go.Proofs.YtdojalhaklkegaaDoor.M

namespace Go.Proofs.YtdojalhaklkegaaDoor
open Go.RowKit
set_option linter.unusedVariables false

theorem d_mask (a : UInt64) : bits BinOp.and .u64 (a.toNat : Int) 67108863 = ((a &&& 67108863).toNat : Int) := d_and a 67108863

theorem d_fivew (b : UInt64) : IntKind.u64.wrap (5 * (b.toNat : Int)) = ((5 * b).toNat : Int) := d_mul 5 b

theorem d_shr (a : UInt64) : (a.toNat : Int) / 67108864 = ((a >>> 26).toNat : Int) := by
  rw [M.u_shr26]
  omega

theorem run_index_limbs (w : World) (l : List UInt64) (k : Nat) (hk : k < 5) (x : UInt64) (hx : (dc l)[k]? = some (.int .u64 (x.toNat : Int))) :
    (Instr.index 122 (.agg (dc l).toArray) (.int .i64 (k : Int))).run Tryd.prog w = .ok (.int .u64 (x.toNat : Int)) w := by
  have hn' : (k : Int) < 5 := by omega
  simp [Instr.index, run_underlying Tryd.underlying122, asIntOf, go_sem, Tryd.sizeOf59]
  rw [if_pos hk, hx]
  rfl

end Go.Proofs.YtdojalhaklkegaaDoor

namespace Go.Proofs.YtdojalhaklkegaaDoor
open Go.RowKit
set_option linter.unusedVariables false

/-- Five limbs of 0 in a block that is new. -/
theorem blk_zero (w : World) (g : Nat) (hg : g = w.heap.size) : Blk (w.alloc (.cells (Array.replicate 5 (.int .u64 0)) 122)) g 122 (dc (List.replicate 5 0)) := Blk.newAt _ _ _ _ _ hg rfl

/-- Five limbs of 0 in a block that is new, written out. -/
theorem blk_zeroL (w : World) (g : Nat) (hg : g = w.heap.size) : Blk (w.alloc (.cells #[.int .u64 0, .int .u64 0, .int .u64 0, .int .u64 0, .int .u64 0] 122)) g 122 (dc (List.replicate 5 0)) := Blk.newAt _ _ _ _ _ hg rfl

set_option maxHeartbeats 1000000 in
theorem carried_any (n : List UInt64) (w : World) (hn : n.length = 5) :
    Calls Tryd.prog 108 #[.agg (dc n).toArray] w fun e w' => e = .returned (.agg (dc (M.carried n)).toArray) ∧ Below w.heap.size w w' := by
  have HN := Lib.hid hn
  have HR0 : Hid (∀ o, ((w.alloc (.cells (dc n).toArray 122)).alloc o).rangeAt w.heap.size 0 (dc n)) := fun o => ((Blk.newAt w _ (dc n).toArray w.heap.size (dc n) rfl (by simp)).alloc _).range 0 (dc n) [] (by simp)
  have B0 : ∀ o, Hid (Blk ((w.alloc (.cells (dc n).toArray 122)).alloc o) w.heap.size 122 (dc (M.cs n n 0 0).1)) := fun o => (Blk.newAt w _ (dc n).toArray w.heap.size (dc n) rfl (by simp)).alloc o
  have B1 : Hid (Blk ((w.alloc (.cells (dc n).toArray 122)).alloc (.cells (Array.replicate 5 (.int .u64 0)) 122)) (w.heap.size + 1) 122 (dc (List.replicate 5 0))) := blk_zero _ _ (by simp)
  have k0 : ∀ o o', Below w.heap.size w ((w.alloc o).alloc o') := fun o o' => ((Below.refl _ _).alloc (Nat.le_refl _) o).alloc (by simp) o'
  clear hn
  go_enter Tryd.func108, Tryd.ntmps108
  go_wp2_with (refine wpList_load_mid rfl 122 (.tmp 1) rfl w.heap.size 0 rfl (dc n) _ (HR0.out _) Tryd.underlying122 rfl (by rw [dc_length, HN.out]; kernel_rfl) ?_)
  go_loopw [3, 7] (fun o i wr => ∃ k : Nat, k ≤ 5 ∧ i = .int .i64 k ∧ o = .int .u64 ((M.cs n n 0 k).2.toNat : Int) ∧ Hid (Blk wr w.heap.size 122 (dc (M.cs n n 0 k).1)) ∧ Hid (Blk wr (w.heap.size + 1) 122 (dc (List.replicate 5 0))) ∧ Below w.heap.size w wr)
    (fun _ i _ => 5 - (intOf i).toNat)
  case atStart => exact ⟨0, by omega, rfl, rfl, B0 _, B1, k0 _ _⟩
  case round =>
    clear B0 B1 k0 HR0
    obtain ⟨wr, rfl⟩ : ∃ x, x = wr := ⟨_, rfl⟩
    obtain ⟨k, hk, rfl, rfl, b0, b1, kk⟩ := hrel
    by_cases hlt : k < 5
    · obtain ⟨x, hx⟩ : ∃ x, Hid (x = n.getD k 0) := ⟨_, rfl⟩
      obtain ⟨o, ho⟩ : ∃ x, Hid (x = (M.cs n n 0 k).2) := ⟨_, rfl⟩
      rw [← ho.out]
      have hrun := run_index_limbs wr n k hlt x (by rw [dc_get _ _ (by rw [HN.out]; exact hlt), hx.out])
      have hc : ∃ u, wr.cell? ⟨w.heap.size, k, none⟩ = some u := ⟨_, by rw [b0.out.cell, dc_get _ _ (by rw [M.cs_length, HN.out]; exact hlt)]⟩
      obtain ⟨u, hc⟩ := hc
      have hf : wr.frozen? ⟨w.heap.size, k, none⟩ = false := b0.out.frozen k
      obtain ⟨y, hy⟩ : ∃ y, Hid (y = x + o) := ⟨_, rfl⟩
      obtain ⟨m, hm⟩ : ∃ m, Hid (m = y &&& 67108863) := ⟨_, rfl⟩
      obtain ⟨q, hq⟩ : ∃ q, Hid (q = y >>> 26) := ⟨_, rfl⟩
      have s1 : IntKind.u64.wrap ((x.toNat : Int) + (o.toNat : Int)) = (y.toNat : Int) := by rw [hy.out]; exact d_wrap x o
      have s2 : ((x.toNat : Int) + (o.toNat : Int)) % 18446744073709551616 = (y.toNat : Int) := by rw [hy.out]; exact d_wrap x o
      have s3 : bits BinOp.and .u64 (y.toNat : Int) 67108863 = (m.toNat : Int) := by rw [hm.out]; exact d_mask y
      have s4 : (y.toNat : Int) / 67108864 = (q.toNat : Int) := by rw [hq.out]; exact d_shr y
      have HNX : Hid (M.cs n n 0 (k + 1) = ((M.cs n n 0 k).1.set k m, q)) := by rw [Hid, M.cs, hm.out, hq.out, hy.out, hx.out, ho.out]
      go_wp2
      go_roundw
      case rel =>
        refine ⟨k + 1, by omega, by go_num, by rw [HNX.out], ?_, b1.out.far (by simp) _, kk.setCell (Nat.le_refl _) _⟩
        rw [Hid, HNX.out, ← dc_set]
        exact b0.out.set_ k _
      case measure => simp [intOf]; omega
    · obtain rfl : k = 5 := by omega
      obtain ⟨l, hl⟩ : ∃ l, Hid (l = (M.cs n n 0 5).1) := ⟨_, rfl⟩
      obtain ⟨o, ho⟩ : ∃ x, Hid (x = (M.cs n n 0 5).2) := ⟨_, rfl⟩
      have HLL : Hid (l.length = 5) := by rw [Hid, hl.out, M.cs_length, HN.out]
      rw [← ho.out]
      rw [← hl.out] at b0
      obtain ⟨a, ha⟩ : ∃ x, Hid (x = l.getD 0 0) := ⟨_, rfl⟩
      obtain ⟨b, hb⟩ : ∃ x, Hid (x = l.getD 1 0) := ⟨_, rfl⟩
      obtain ⟨g, hg⟩ : ∃ g, Hid (g = w.heap.size) := ⟨_, rfl⟩
      have hc0 : wr.cell? ⟨w.heap.size, 0, none⟩ = some (.int .u64 (a.toNat : Int)) := by rw [b0.out.cell, dc_get _ _ (by rw [HLL.out]; decide), ha.out]
      have hc1 : wr.cell? ⟨w.heap.size, 1, none⟩ = some (.int .u64 (b.toNat : Int)) := by rw [b0.out.cell, dc_get _ _ (by rw [HLL.out]; decide), hb.out]
      have hf0 : wr.frozen? ⟨w.heap.size, 0, none⟩ = false := b0.out.frozen 0
      have hf1 : wr.frozen? ⟨w.heap.size, 1, none⟩ = false := b0.out.frozen 1
      obtain ⟨p, hp⟩ : ∃ y, Hid (y = 5 * o) := ⟨_, rfl⟩
      obtain ⟨z, hz⟩ : ∃ y, Hid (y = a + p) := ⟨_, rfl⟩
      obtain ⟨t, ht⟩ : ∃ y, Hid (y = z >>> 26) := ⟨_, rfl⟩
      obtain ⟨y, hy⟩ : ∃ y, Hid (y = b + t) := ⟨_, rfl⟩
      obtain ⟨m, hm⟩ : ∃ m, Hid (m = z &&& 67108863) := ⟨_, rfl⟩
      have s1 : IntKind.u64.wrap (5 * (o.toNat : Int)) = (p.toNat : Int) := by rw [hp.out]; exact d_fivew o
      have s1' : (5 * (o.toNat : Int)) % 18446744073709551616 = (p.toNat : Int) := by rw [hp.out]; exact d_fivew o
      have s2 : IntKind.u64.wrap ((a.toNat : Int) + (p.toNat : Int)) = (z.toNat : Int) := by rw [hz.out]; exact d_wrap a p
      have s2' : ((a.toNat : Int) + (p.toNat : Int)) % 18446744073709551616 = (z.toNat : Int) := by rw [hz.out]; exact d_wrap a p
      have s3 : (z.toNat : Int) / 67108864 = (t.toNat : Int) := by rw [ht.out]; exact d_shr z
      have s4 : IntKind.u64.wrap ((b.toNat : Int) + (t.toNat : Int)) = (y.toNat : Int) := by rw [hy.out]; exact d_wrap b t
      have s4' : ((b.toNat : Int) + (t.toNat : Int)) % 18446744073709551616 = (y.toNat : Int) := by rw [hy.out]; exact d_wrap b t
      have s5 : bits BinOp.and .u64 (z.toNat : Int) 67108863 = (m.toNat : Int) := by rw [hm.out]; exact d_mask z
      have HRES : Hid (M.carried n = ((l.set 0 z).set 1 y).set 0 m) := by
        rw [Hid, M.carried, ← hl.out, ← ho.out, M.fold2, M.fold1, M.fold0]
        have e0 : (l.set 0 (l.getD 0 0 + 5 * o)).getD 0 0 = z := by
          have := HLL.out
          rw [← ha.out, ← hp.out, ← hz.out]; simp [show 0 < l.length by omega]
        have e1 : (l.set 0 (l.getD 0 0 + 5 * o)).getD 1 0 = b := by
          rw [hb.out]; simp [List.getD_eq_getElem?_getD]
        rw [e0, e1, ← ht.out, ← hy.out, ← ha.out, ← hp.out, ← hz.out]
        have e2 : ((l.set 0 z).set 1 y).getD 0 0 = z := by
          have := HLL.out
          simp [List.getD_eq_getElem?_getD, show 0 < l.length by omega]
        rw [e2, ← hm.out]
      obtain ⟨r, hr⟩ : ∃ r, Hid (r = ((l.set 0 z).set 1 y).set 0 m) := ⟨_, rfl⟩
      have HRL : Hid (r.length = 5) := by rw [Hid, hr.out, List.length_set, List.length_set, List.length_set, HLL.out]
      have N0 : Hid (Blk (((wr.setCell ⟨w.heap.size, 0, none⟩ (.int .u64 (z.toNat : Int))).setCell ⟨w.heap.size, 1, none⟩ (.int .u64 (y.toNat : Int))).setCell ⟨w.heap.size, 0, none⟩ (.int .u64 (m.toNat : Int))) w.heap.size 122 (dc r)) := by
        rw [Hid, hr.out, ← dc_set, ← dc_set, ← dc_set]
        exact ((b0.out.set_ 0 _).set_ 1 _).set_ 0 _
      have N1 : Hid (Blk (((wr.setCell ⟨w.heap.size, 0, none⟩ (.int .u64 (z.toNat : Int))).setCell ⟨w.heap.size, 1, none⟩ (.int .u64 (y.toNat : Int))).setCell ⟨w.heap.size, 0, none⟩ (.int .u64 (m.toNat : Int))) (w.heap.size + 1) 122 (dc (List.replicate 5 0))) := by
        have hne : w.heap.size + 1 ≠ w.heap.size := by omega
        exact blk_far (blk_far (blk_far b1.out hne _) hne _) hne _
      have NR : Hid ((((wr.setCell ⟨w.heap.size, 0, none⟩ (.int .u64 (z.toNat : Int))).setCell ⟨w.heap.size, 1, none⟩ (.int .u64 (y.toNat : Int))).setCell ⟨w.heap.size, 0, none⟩ (.int .u64 (m.toNat : Int))).rangeAt w.heap.size 0 (dc r)) := N0.out.range 0 (dc r) [] (by simp)
      have K3 : Hid (Below w.heap.size w (((wr.setCell ⟨w.heap.size, 0, none⟩ (.int .u64 (z.toNat : Int))).setCell ⟨w.heap.size, 1, none⟩ (.int .u64 (y.toNat : Int))).setCell ⟨w.heap.size, 0, none⟩ (.int .u64 (m.toNat : Int)))) := below_set (below_set (below_set kk (Nat.le_refl _) _) (Nat.le_refl _) _) (Nat.le_refl _) _
      obtain ⟨W3, hW3⟩ : ∃ W, W = (((wr.setCell ⟨w.heap.size, 0, none⟩ (.int .u64 (z.toNat : Int))).setCell ⟨w.heap.size, 1, none⟩ (.int .u64 (y.toNat : Int))).setCell ⟨w.heap.size, 0, none⟩ (.int .u64 (m.toNat : Int))) := ⟨_, rfl⟩
      rw [← hW3] at N0 N1 NR K3
      go_wp2_with (refine wpList_load_mid rfl 122 (.tmp 1) rfl w.heap.size 0 rfl (dc r) _ (hW3 ▸ NR.out) Tryd.underlying122 rfl (by rw [dc_length, HRL.out]; kernel_rfl) ?_; go_must (rw [← hW3]; refine wpList_store_blk rfl 122 (.tmp 2) (.tmp 38) rfl (w.heap.size + 1) (dc r).toArray rfl rfl 122 (dc (List.replicate 5 0)) N1.out (by rw [List.size_toArray, dc_length, HRL.out]; kernel_rfl) (by rw [List.size_toArray, dc_length, dc_length, HRL.out]; rfl) (dc_oneCell r) ?_); intro w3 hb3 ho3)
      have k3 : Below w.heap.size w w3 := K3.out.trans (ho3.below K3.out.size (by omega))
      exact bodyPost_ret (results_cell_row rfl _ _ (w.heap.size + 1) _ _ _ _ rfl hb3 Tryd.underlying122 rfl (by rw [Array.toArray_toList, List.size_toArray, dc_length, HRL.out]; kernel_rfl)) rfl ⟨by rw [Array.toArray_toList, HRES.out, ← hr.out], k3⟩

end Go.Proofs.YtdojalhaklkegaaDoor

namespace Go.Proofs.YtdojalhaklkegaaDoor
open Go.RowKit
set_option linter.unusedVariables false

/-- plus: limb by limb. -/
theorem plus_any (a b : List UInt64) (w : World) (ha : a.length = 5) (hb : b.length = 5) :
    Calls Tryd.prog 80 #[.agg (dc a).toArray, .agg (dc b).toArray] w fun e w' => e = .returned (.agg (dc (M.plus a b)).toArray) ∧ Below w.heap.size w w' := by
  have HA := Lib.hid ha
  have HB := Lib.hid hb
  have HR0 : Hid (∀ o, (((w.alloc (.cells (dc a).toArray 122)).alloc (.cells (dc b).toArray 122)).alloc o).rangeAt (w.heap.size + 1) 0 (dc b)) := fun o => ((Blk.newAt _ _ (dc b).toArray (w.heap.size + 1) (dc b) (by simp) (by simp)).alloc _).range 0 (dc b) [] (by simp)
  have B0 : ∀ o o', Hid (Blk (((w.alloc (.cells (dc a).toArray 122)).alloc o).alloc o') w.heap.size 122 (dc (M.plusTo a b 0))) := fun o o' => ((Blk.newAt w _ (dc a).toArray w.heap.size (dc a) rfl (by simp)).alloc o).alloc o'
  have B1 : ∀ o o', Hid (Blk (((w.alloc o).alloc o').alloc (.cells (Array.replicate 5 (.int .u64 0)) 122)) (w.heap.size + 1 + 1) 122 (dc (List.replicate 5 0))) := fun o o' => blk_zero _ _ (by simp)
  have k0 : ∀ o o' o2, Below w.heap.size w (((w.alloc o).alloc o').alloc o2) := fun o o' o2 => (((Below.refl _ _).alloc (Nat.le_refl _) o).alloc (by simp) o').alloc (by simp; omega) o2
  clear ha hb
  go_enter Tryd.func80, Tryd.ntmps80
  go_wp2_with (refine wpList_load_mid rfl 122 (.tmp 3) rfl (w.heap.size + 1) 0 rfl (dc b) _ (HR0.out _) Tryd.underlying122 rfl (by rw [dc_length, HB.out]; kernel_rfl) ?_)
  go_loopw [8] (fun i wr => ∃ k : Nat, k ≤ 5 ∧ i = .int .i64 k ∧ Hid (Blk wr w.heap.size 122 (dc (M.plusTo a b k))) ∧ Hid (Blk wr (w.heap.size + 1 + 1) 122 (dc (List.replicate 5 0))) ∧ Below w.heap.size w wr)
    (fun i _ => 5 - (intOf i).toNat)
  case atStart => exact ⟨0, by omega, rfl, B0 _ _, B1 _ _, k0 _ _ _⟩
  case round =>
    clear B0 B1 k0 HR0
    obtain ⟨wr, rfl⟩ : ∃ x, x = wr := ⟨_, rfl⟩
    obtain ⟨k, hk, rfl, b0, b1, kk⟩ := hrel
    by_cases hlt : k < 5
    · obtain ⟨x, hx⟩ : ∃ x, Hid (x = (M.plusTo a b k).getD k 0) := ⟨_, rfl⟩
      obtain ⟨y, hy⟩ : ∃ x, Hid (x = b.getD k 0) := ⟨_, rfl⟩
      have hrun := run_index_limbs wr b k hlt y (by rw [dc_get _ _ (by rw [HB.out]; exact hlt), hy.out])
      have hc : wr.cell? ⟨w.heap.size, k, none⟩ = some (.int .u64 (x.toNat : Int)) := by rw [b0.out.cell, dc_get _ _ (by rw [M.plusTo_length, HA.out]; exact hlt), hx.out]
      have hf : wr.frozen? ⟨w.heap.size, k, none⟩ = false := b0.out.frozen k
      obtain ⟨m, hm⟩ : ∃ m, Hid (m = x + y) := ⟨_, rfl⟩
      have s1 : IntKind.u64.wrap ((x.toNat : Int) + (y.toNat : Int)) = (m.toNat : Int) := by rw [hm.out]; exact d_wrap x y
      have s2 : ((x.toNat : Int) + (y.toNat : Int)) % 18446744073709551616 = (m.toNat : Int) := by rw [hm.out]; exact d_wrap x y
      go_wp2
      go_roundw
      case rel =>
        refine ⟨k + 1, by omega, by go_num, ?_, b1.out.far (by simp; omega) _, kk.setCell (Nat.le_refl _) _⟩
        rw [Hid, M.plusTo, ← hx.out, ← hy.out, ← hm.out, ← dc_set]
        exact b0.out.set_ k _
      case measure => simp [intOf]; omega
    · obtain rfl : k = 5 := by omega
      obtain ⟨r, hr⟩ : ∃ r, Hid (r = M.plus a b) := ⟨_, rfl⟩
      have HRL : Hid (r.length = 5) := by rw [Hid, hr.out, M.plus_length, HA.out]
      have N0 : Hid (Blk wr w.heap.size 122 (dc r)) := by rw [hr.out]; exact b0
      have NR : Hid (wr.rangeAt w.heap.size 0 (dc r)) := N0.out.range 0 (dc r) [] (by simp)
      clear N0 b0
      go_wp2_with (first
        | (refine wpList_load_mid rfl 122 (.tmp 2) rfl w.heap.size 0 rfl (dc r) _ NR.out Tryd.underlying122 rfl (by rw [dc_length, HRL.out]; kernel_rfl) ?_)
        | (refine wpList_store_blk rfl 122 (.tmp 4) (.tmp 19) rfl (w.heap.size + 1 + 1) (dc r).toArray rfl rfl 122 (dc (List.replicate 5 0)) b1.out (by rw [List.size_toArray, dc_length, HRL.out]; kernel_rfl) (by rw [List.size_toArray, dc_length, dc_length, HRL.out]; rfl) (dc_oneCell r) ?_; intro w3 hb3 ho3))
      have k3 : Below w.heap.size w w3 := kk.trans (ho3.below kk.size (by omega))
      exact bodyPost_ret (results_cell_row rfl _ _ (w.heap.size + 1 + 1) _ _ _ _ rfl hb3 Tryd.underlying122 rfl (by rw [Array.toArray_toList, List.size_toArray, dc_length, HRL.out]; kernel_rfl)) rfl ⟨by rw [Array.toArray_toList, ← hr.out], k3⟩

set_option maxHeartbeats 1000000 in
/-- times: limb by limb, then carried. -/
theorem times_any (a b : List UInt64) (w : World) (ha : a.length = 5) (hb : b.length = 5) :
    Calls Tryd.prog 79 #[.agg (dc a).toArray, .agg (dc b).toArray] w fun e w' => e = .returned (.agg (dc (M.times a b)).toArray) ∧ Below w.heap.size w w' := by
  have HA := Lib.hid ha
  have HB := Lib.hid hb
  obtain ⟨o1, ho1⟩ : ∃ o, o = Obj.cells (dc a).toArray 122 := ⟨_, rfl⟩
  obtain ⟨o2, ho2⟩ : ∃ o, o = Obj.cells (dc b).toArray 122 := ⟨_, rfl⟩
  obtain ⟨o3, ho3⟩ : ∃ o, o = Obj.cells #[.int .u64 0, .int .u64 0, .int .u64 0, .int .u64 0, .int .u64 0] 122 := ⟨_, rfl⟩
  have hs4 : ((((w.alloc o1).alloc o2).alloc o3).alloc o3).heap.size = w.heap.size + 1 + 1 + 1 + 1 := by simp
  have A0 : Hid (Blk ((((w.alloc o1).alloc o2).alloc o3).alloc o3) w.heap.size 122 (dc a)) := by
    rw [ho1]; exact (((Blk.newAt w _ (dc a).toArray w.heap.size (dc a) rfl (by simp)).alloc _).alloc _).alloc _
  have A1 : Hid (Blk ((((w.alloc o1).alloc o2).alloc o3).alloc o3) (w.heap.size + 1) 122 (dc b)) := by
    rw [ho2]; exact ((Blk.newAt _ _ (dc b).toArray (w.heap.size + 1) (dc b) (by simp) (by simp)).alloc _).alloc _
  have A2 : Hid (Blk ((((w.alloc o1).alloc o2).alloc o3).alloc o3) (w.heap.size + 1 + 1) 122 (dc (List.replicate 5 0))) := by
    rw [ho3]; exact (blk_zeroL _ _ (by simp)).alloc _
  have A3 : Hid (Blk ((((w.alloc o1).alloc o2).alloc o3).alloc o3) (w.heap.size + 1 + 1 + 1) 122 (dc (M.tout a b 0))) := by
    have h := blk_zeroL (((w.alloc o1).alloc o2).alloc o3) (w.heap.size + 1 + 1 + 1) (by simp)
    rw [ho3] at h ⊢; exact h
  have k0 : Below w.heap.size w ((((w.alloc o1).alloc o2).alloc o3).alloc o3) := ((((Below.refl _ _).alloc (Nat.le_refl _) o1).alloc (by simp) o2).alloc (by simp; omega) o3).alloc (by simp; omega) o3
  obtain ⟨w4, hw4⟩ : ∃ x, x = (((w.alloc o1).alloc o2).alloc o3).alloc o3 := ⟨_, rfl⟩
  rw [← hw4] at A0 A1 A2 A3 k0 hs4
  subst ho1 ho2 ho3
  have R0 : Hid (w4.rangeAt w.heap.size 0 (dc a)) := A0.out.range 0 (dc a) [] (by simp)
  clear ha hb
  go_enter Tryd.func79, Tryd.ntmps79
  go_wp2_with (rw [← hw4]; refine wpList_load_mid rfl 122 (.tmp 2) rfl w.heap.size 0 rfl (dc a) _ R0.out Tryd.underlying122 rfl (by rw [dc_length, HA.out]; kernel_rfl) ?_)
  clear R0
  go_loopw [11] (fun i wr => ∃ k : Nat, k ≤ 5 ∧ i = .int .i64 k ∧ Hid (Blk wr (w.heap.size + 1) 122 (dc b)) ∧ Hid (Blk wr (w.heap.size + 1 + 1) 122 (dc (List.replicate 5 0))) ∧ Hid (Blk wr (w.heap.size + 1 + 1 + 1) 122 (dc (M.tout a b k))) ∧ Below w.heap.size w wr)
    (fun i _ => 5 - (intOf i).toNat)
  case atStart =>
    rw [hw4] at A1 A2 A3 k0
    exact ⟨0, by omega, rfl, A1, A2, A3, k0⟩
  case round =>
    clear A0 A1 A2 A3 k0 hs4 hw4
    obtain ⟨wA, rfl⟩ : ∃ x, x = wr := ⟨_, rfl⟩
    obtain ⟨k, hk, rfl, b1, b2, b3, kk⟩ := hrel
    by_cases hlt : k < 5
    · obtain ⟨x, hx⟩ : ∃ x, Hid (x = a.getD k 0) := ⟨_, rfl⟩
      have hrun := run_index_limbs wA a k hlt x (by rw [dc_get _ _ (by rw [HA.out]; exact hlt), hx.out])
      obtain ⟨O, hO⟩ : ∃ O, Hid (O = M.tout a b k) := ⟨_, rfl⟩
      have HOL : Hid (O.length = 5) := by rw [Hid, hO.out, M.tout_length]
      have B3 : Hid (Blk wA (w.heap.size + 1 + 1 + 1) 122 (dc (M.tin O x b k 0))) := by rw [Hid, hO.out]; exact b3.out
      have R1 : Hid (wA.rangeAt (w.heap.size + 1) 0 (dc b)) := b1.out.range 0 (dc b) [] (by simp)
      clear b3
      go_wp2_with (refine wpList_load_mid rfl 122 (.tmp 3) rfl (w.heap.size + 1) 0 rfl (dc b) _ R1.out Tryd.underlying122 rfl (by rw [dc_length, HB.out]; kernel_rfl) ?_)
      clear R1 hrun
      go_loopw [16] (fun i wr => ∃ j : Nat, j ≤ 5 ∧ i = .int .i64 j ∧ Hid (Blk wr (w.heap.size + 1) 122 (dc b)) ∧ Hid (Blk wr (w.heap.size + 1 + 1) 122 (dc (List.replicate 5 0))) ∧ Hid (Blk wr (w.heap.size + 1 + 1 + 1) 122 (dc (M.tin O x b k j))) ∧ Below w.heap.size w wr)
        (fun i _ => 5 - (intOf i).toNat)
      case atStart => exact ⟨0, by omega, rfl, b1, b2, B3, kk⟩
      case round =>
        clear b1 b2 B3 kk
        obtain ⟨wz, rfl⟩ : ∃ x, x = wr := ⟨_, rfl⟩
        obtain ⟨j, hj, rfl, b1, b2, b3, kk⟩ := hrel
        by_cases hlt2 : j < 5
        · obtain ⟨y, hy⟩ : ∃ x, Hid (x = b.getD j 0) := ⟨_, rfl⟩
          have hrun := run_index_limbs wz b j hlt2 y (by rw [dc_get _ _ (by rw [HB.out]; exact hlt2), hy.out])
          obtain ⟨T, hT⟩ : ∃ T, Hid (T = M.tin O x b k j) := ⟨_, rfl⟩
          have HTL : Hid (T.length = 5) := by rw [Hid, hT.out, M.tin_length, HOL.out]
          rw [← hT.out] at b3
          by_cases hs : k + j < 5
          · obtain ⟨p, hp⟩ : ∃ p, p = k + j := ⟨_, rfl⟩
            have hpi : (k : Int) + j = p := by omega
            have hpw : IntKind.i64.wrap ((k : Int) + j) = p := by rw [hpi]; exact IntWalk.i64_in _ (by omega)
            have hp5 : p < 5 := by omega
            obtain ⟨c, hcd⟩ : ∃ x, Hid (x = T.getD p 0) := ⟨_, rfl⟩
            have hc : wz.cell? ⟨w.heap.size + 1 + 1 + 1, p, none⟩ = some (.int .u64 (c.toNat : Int)) := by rw [b3.out.cell, dc_get _ _ (by rw [HTL.out]; exact hp5), hcd.out]
            have hf : wz.frozen? ⟨w.heap.size + 1 + 1 + 1, p, none⟩ = false := b3.out.frozen p
            obtain ⟨q, hq⟩ : ∃ q, Hid (q = x * y) := ⟨_, rfl⟩
            obtain ⟨m, hm⟩ : ∃ m, Hid (m = c + q) := ⟨_, rfl⟩
            have s1 : IntKind.u64.wrap ((x.toNat : Int) * (y.toNat : Int)) = (q.toNat : Int) := by rw [hq.out]; exact d_mulw x y
            have s1' : ((x.toNat : Int) * (y.toNat : Int)) % 18446744073709551616 = (q.toNat : Int) := by rw [hq.out]; exact d_mulw x y
            have s2 : IntKind.u64.wrap ((c.toNat : Int) + (q.toNat : Int)) = (m.toNat : Int) := by rw [hm.out]; exact d_wrap c q
            have s2' : ((c.toNat : Int) + (q.toNat : Int)) % 18446744073709551616 = (m.toNat : Int) := by rw [hm.out]; exact d_wrap c q
            have HNX : Hid (M.tin O x b k (j + 1) = T.set p m) := by
              rw [Hid, M.tin, if_pos hs, ← hT.out, ← hp, ← hcd.out, ← hy.out, ← hq.out, ← hm.out]
            have HP : Hid (p = k + j) := hp
            have hcnd : ((p : Int) < 5) := by omega
            clear hp hs
            go_wp2
            go_roundw
            case rel =>
              refine ⟨j + 1, by omega, by go_num, blk_far b1.out (by omega) _, blk_far b2.out (by omega) _, ?_, below_set kk (by omega) _⟩
              rw [Hid, HNX.out, ← dc_set]
              exact b3.out.set_ p _
            case measure => simp [intOf]; omega
          · obtain ⟨p, hp⟩ : ∃ p, p = k + j - 5 := ⟨_, rfl⟩
            obtain ⟨p5, hp5⟩ : ∃ p, p = k + j := ⟨_, rfl⟩
            have hpi : (k : Int) + j = p5 := by omega
            have hpw : IntKind.i64.wrap ((k : Int) + j) = p5 := by rw [hpi]; exact IntWalk.i64_in _ (by omega)
            have hqi : (p5 : Int) - 5 = p := by omega
            have hqw : IntKind.i64.wrap ((p5 : Int) - 5) = p := by rw [hqi]; exact IntWalk.i64_in _ (by omega)
            have hp5' : p < 5 := by omega
            have hcnd : ¬ ((p5 : Int) < 5) := by omega
            obtain ⟨c, hcd⟩ : ∃ x, Hid (x = T.getD p 0) := ⟨_, rfl⟩
            have hc : wz.cell? ⟨w.heap.size + 1 + 1 + 1, p, none⟩ = some (.int .u64 (c.toNat : Int)) := by rw [b3.out.cell, dc_get _ _ (by rw [HTL.out]; exact hp5'), hcd.out]
            have hf : wz.frozen? ⟨w.heap.size + 1 + 1 + 1, p, none⟩ = false := b3.out.frozen p
            obtain ⟨f, hf5⟩ : ∃ q, Hid (q = 5 * x) := ⟨_, rfl⟩
            obtain ⟨q, hq⟩ : ∃ q, Hid (q = f * y) := ⟨_, rfl⟩
            obtain ⟨m, hm⟩ : ∃ m, Hid (m = c + q) := ⟨_, rfl⟩
            have s0 : IntKind.u64.wrap (5 * (x.toNat : Int)) = (f.toNat : Int) := by rw [hf5.out]; exact d_fivew x
            have s0' : (5 * (x.toNat : Int)) % 18446744073709551616 = (f.toNat : Int) := by rw [hf5.out]; exact d_fivew x
            have s1 : IntKind.u64.wrap ((f.toNat : Int) * (y.toNat : Int)) = (q.toNat : Int) := by rw [hq.out]; exact d_mulw f y
            have s1' : ((f.toNat : Int) * (y.toNat : Int)) % 18446744073709551616 = (q.toNat : Int) := by rw [hq.out]; exact d_mulw f y
            have s2 : IntKind.u64.wrap ((c.toNat : Int) + (q.toNat : Int)) = (m.toNat : Int) := by rw [hm.out]; exact d_wrap c q
            have s2' : ((c.toNat : Int) + (q.toNat : Int)) % 18446744073709551616 = (m.toNat : Int) := by rw [hm.out]; exact d_wrap c q
            have HNX : Hid (M.tin O x b k (j + 1) = T.set p m) := by
              rw [Hid, M.tin, if_neg hs, ← hT.out, ← hp, ← hcd.out, ← hy.out, ← hf5.out, ← hq.out, ← hm.out]
            clear hp hs hp5
            go_wp2
            go_roundw
            case rel =>
              refine ⟨j + 1, by omega, by go_num, blk_far b1.out (by omega) _, blk_far b2.out (by omega) _, ?_, below_set kk (by omega) _⟩
              rw [Hid, HNX.out, ← dc_set]
              exact b3.out.set_ p _
            case measure => simp [intOf]; omega
        · obtain rfl : j = 5 := by omega
          have B3 : Hid (Blk wz (w.heap.size + 1 + 1 + 1) 122 (dc (M.tout a b (k + 1)))) := by
            rw [Hid, M.tout, ← hO.out, ← hx.out]
            exact b3.out
          clear b3
          go_wp2
          go_roundw
          case rel => exact ⟨k + 1, by omega, by go_num, b1, b2, B3, kk⟩
          case measure => simp [intOf]; omega
    · obtain rfl : k = 5 := by omega
      obtain ⟨O, hO⟩ : ∃ O, Hid (O = M.tout a b 5) := ⟨_, rfl⟩
      have HOL : Hid (O.length = 5) := by rw [Hid, hO.out, M.tout_length]
      obtain ⟨r, hr⟩ : ∃ r, Hid (r = M.carried O) := ⟨_, rfl⟩
      have HRL : Hid (r.length = 5) := by rw [Hid, hr.out, M.carried_length, HOL.out]
      rw [← hO.out] at b3
      have R3 : Hid (wA.rangeAt (w.heap.size + 1 + 1 + 1) 0 (dc O)) := b3.out.range 0 (dc O) [] (by simp)
      have HC : Hid (Calls Tryd.prog 108 #[.agg (dc O).toArray] wA fun e w' => e = .returned (.agg (dc r).toArray) ∧ Below wA.heap.size wA w') := by
        rw [Hid, hr.out]
        exact carried_any O wA HOL.out
      clear b3 b1
      go_wp2_with (first
        | (refine wpList_load_mid rfl 122 (.tmp 5) rfl (w.heap.size + 1 + 1 + 1) 0 rfl (dc O) _ R3.out Tryd.underlying122 rfl (by rw [dc_length, HOL.out]; kernel_rfl) ?_)
        | (go_at_call 108; go_must (refine HC.out.mono ?_); rintro e w5 ⟨rfl, k5⟩)
        | (refine wpList_store_blk rfl 122 (.tmp 4) (.tmp 49) rfl (w.heap.size + 1 + 1) (dc r).toArray rfl rfl 122 (dc (List.replicate 5 0)) (b2.out.below k5 b2.out.lt) (by rw [List.size_toArray, dc_length, HRL.out]; kernel_rfl) (by rw [List.size_toArray, dc_length, dc_length, HRL.out]; rfl) (dc_oneCell r) ?_; intro w3 hb3 ho3))
      have k6 : Below w.heap.size w w5 := kk.trans (k5.mono kk.size)
      have k3 : Below w.heap.size w w3 := k6.trans (ho3.below k6.size (by omega))
      exact bodyPost_ret (results_cell_row rfl _ _ (w.heap.size + 1 + 1) _ _ _ _ rfl hb3 Tryd.underlying122 rfl (by rw [Array.toArray_toList, List.size_toArray, dc_length, HRL.out]; kernel_rfl)) rfl ⟨by rw [Array.toArray_toList, M.times, ← hO.out, ← hr.out], k3⟩

end Go.Proofs.YtdojalhaklkegaaDoor

namespace Go.Proofs.YtdojalhaklkegaaDoor
open Go.RowKit
set_option linter.unusedVariables false

namespace M

/-- Limb i of a row of bytes. -/
def limb (b : List UInt8) (i : Nat) : UInt64 := UInt64.ofNat (gl (b.drop (3 * i)) 8 / 2 ^ (2 * i) % 67108864)

def numTo (b : List UInt8) : Nat → List UInt64
  | 0 => List.replicate 5 0
  | k + 1 => (numTo b k).set k (limb b k)

def num (b : List UInt8) : List UInt64 := numTo b 5

theorem numTo_length (b : List UInt8) (k : Nat) : (numTo b k).length = 5 := by
  induction k with
  | zero => rfl
  | succ k ih => simp [numTo, ih]

theorem num_length (b : List UInt8) : (num b).length = 5 := numTo_length b 5

end M

/-- 'b[at:]' of an array of 17 bytes. -/
theorem slice17 (g at_ : Nat) (z : Int) (hz : z = at_) (h : at_ < 17) (w : World) :
    (Instr.sliceAt 148 (.pointer (some ⟨g, 0, none⟩)) (some (.int .i64 z)) none none).run Tryd.prog w = .ok (.slice (some ⟨g, at_, none⟩) (17 - at_) (17 - at_)) w := by
  subst hz
  have hal : Tryd.prog.arrayLen 148 = 17 := by simp [Program.arrayLen, Tryd.underlying148]
  have hel : Tryd.prog.elem 148 = 5 := by simp [Program.elem, Tryd.underlying148]
  rw [run_sliceAt_array_l w 148 ⟨g, 0, none⟩ (by rw [hal, hel]; exact Tryd.underlying148) .i64 (at_ : Int) (by omega) (by rw [hal]; omega), hel, Tryd.sizeOf5]
  simp only [Result.andThen_ok, slicedAt, hal, Int.toNat_natCast]
  rw [if_neg (by omega), Nat.mul_one, Addr.add_lit, Nat.zero_add]

/-- 'b[:]' of an array of 17 bytes. -/
theorem slice17_all (g : Nat) (w : World) :
    (Instr.sliceAt 148 (.pointer (some ⟨g, 0, none⟩)) none none none).run Tryd.prog w = .ok (.slice (some ⟨g, 0, none⟩) 17 17) w := by
  have hal : Tryd.prog.arrayLen 148 = 17 := by simp [Program.arrayLen, Tryd.underlying148]
  have hel : Tryd.prog.elem 148 = 5 := by simp [Program.elem, Tryd.underlying148]
  rw [run_sliceAt_array_all w 148 ⟨g, 0, none⟩ (by rw [hal, hel]; exact Tryd.underlying148), hel, Tryd.sizeOf5]
  simp only [Result.andThen_ok, slicedAt, hal]
  rw [if_neg (by omega), Nat.zero_mul, Addr.add_lit]

/-- 'b[:16]' of an array of 17 bytes. -/
theorem slice17_to (g : Nat) (w : World) :
    (Instr.sliceAt 148 (.pointer (some ⟨g, 0, none⟩)) none (some (.int .i64 16)) none).run Tryd.prog w = .ok (.slice (some ⟨g, 0, none⟩) 16 17) w := by
  have hal : Tryd.prog.arrayLen 148 = 17 := by simp [Program.arrayLen, Tryd.underlying148]
  have hel : Tryd.prog.elem 148 = 5 := by simp [Program.elem, Tryd.underlying148]
  rw [run_sliceAt_array_h w 148 ⟨g, 0, none⟩ (by rw [hal, hel]; exact Tryd.underlying148) .i64 16 (by omega) (by rw [hal]; omega), hel, Tryd.sizeOf5]
  simp only [Result.andThen_ok, slicedAt, hal]
  rw [if_neg (by omega), Nat.zero_mul, Addr.add_lit]
  rfl

theorem blk_isB {w : World} {g : Nat} {t : TypeId} {bs : List UInt8} (h : Blk w g t (Lib.byteCells bs)) (m : Nat) (hm : bs.length ≤ 1000) : IsB w (.slice (some ⟨g, m, none⟩) (bs.length - m) (bs.length - m)) (bs.drop m) := by
  refine ⟨_, bs.length - m, by rw [List.length_drop], by rw [List.length_drop]; exact Nat.le_refl _, by unfold maxLen; omega, .inr ⟨g, m, rfl, fun i hi => ?_⟩⟩
  rw [List.length_drop] at hi
  rw [h.cell, byteCells_getElem? _ _ (by omega)]
  simp [List.getD_eq_getElem?_getD, List.getElem?_drop]

theorem d_limb (b : List UInt8) (i : Nat) : bits BinOp.and .u64 ((M.gl (b.drop (3 * i)) 8 : Nat) / 2 ^ (2 * i) : Int) 67108863 = ((M.limb b i).toNat : Int) := by
  have h1 := M.gl_lt (b.drop (3 * i)) 8
  have h3 : (256 : Nat) ^ 8 = 18446744073709551616 := by decide
  have h2 : M.gl (b.drop (3 * i)) 8 / 2 ^ (2 * i) < 18446744073709551616 := Nat.lt_of_le_of_lt (Nat.div_le_self _ _) (by omega)
  have e : ((M.gl (b.drop (3 * i)) 8 : Nat) / 2 ^ (2 * i) : Int) = ((M.gl (b.drop (3 * i)) 8 / 2 ^ (2 * i) : Nat) : Int) := by simp
  rw [e, show (67108863 : Int) = ((67108863 : Nat) : Int) from rfl, u64_and_nat _ _ h2 (by omega), show (67108863 : Nat) = 2 ^ 26 - 1 from rfl, Nat.and_two_pow_sub_one_eq_mod, M.limb, UInt64.toNat_ofNat', Nat.mod_eq_of_lt (a := _ % 67108864) (by omega)]

theorem numberOf_any (b : List UInt8) (w : World) (hb : b.length = 17) :
    Calls Tryd.prog 106 #[.agg (Lib.byteCells b).toArray] w fun e w' => e = .returned (.agg (dc (M.num b)).toArray) ∧ Below w.heap.size w w' := by
  have HB := Lib.hid hb
  have A0 : ∀ o o', Hid (Blk (((w.alloc (.cells (Lib.byteCells b).toArray 148)).alloc o).alloc o') w.heap.size 148 (Lib.byteCells b)) := fun o o' =>
    ((Blk.newAt w _ (Lib.byteCells b).toArray w.heap.size (Lib.byteCells b) rfl (by simp)).alloc o).alloc o'
  have A1 : ∀ o o', Hid (Blk (((w.alloc o).alloc (.cells (Array.replicate 5 (.int .u64 0)) 122)).alloc o') (w.heap.size + 1) 122 (dc (List.replicate 5 0))) := fun o o' => (blk_zero _ _ (by simp)).alloc o'
  have A2 : ∀ o o', Hid (Blk (((w.alloc o).alloc o').alloc (.cells (Array.replicate 5 (.int .u64 0)) 122)) (w.heap.size + 1 + 1) 122 (dc (M.numTo b 0))) := fun o o' => blk_zero _ _ (by simp)
  have k0 : ∀ o o' o2, Below w.heap.size w (((w.alloc o).alloc o').alloc o2) := fun o o' o2 => (((Below.refl _ _).alloc (Nat.le_refl _) o).alloc (by simp) o').alloc (by simp; omega) o2
  clear hb
  go_enter Tryd.func106, Tryd.ntmps106
  go_wp2
  go_loopw [5] (fun i wr => ∃ k : Nat, k ≤ 5 ∧ i = .int .i64 k ∧ Hid (Blk wr w.heap.size 148 (Lib.byteCells b)) ∧ Hid (Blk wr (w.heap.size + 1) 122 (dc (List.replicate 5 0))) ∧ Hid (Blk wr (w.heap.size + 1 + 1) 122 (dc (M.numTo b k))) ∧ Below w.heap.size w wr)
    (fun i _ => 5 - (intOf i).toNat)
  case atStart => exact ⟨0, by omega, rfl, A0 _ _, A1 _ _, A2 _ _, k0 _ _ _⟩
  case round =>
    clear A0 A1 A2 k0
    obtain ⟨wr, rfl⟩ : ∃ x, x = wr := ⟨_, rfl⟩
    obtain ⟨k, hk, rfl, b0, b1, b2, kk⟩ := hrel
    by_cases hlt : k < 5
    · have hsl := slice17 w.heap.size (3 * k) (3 * (k : Int)) (by omega) (by omega) wr
      have HIS : Hid (IsB wr (.slice (some ⟨w.heap.size, 3 * k, none⟩) (17 - 3 * k) (17 - 3 * k)) (b.drop (3 * k))) := by
        have h := blk_isB b0.out (3 * k) (by rw [HB.out]; omega)
        rw [HB.out] at h
        exact h
      obtain ⟨c, hcc⟩ : ∃ u, wr.cell? ⟨w.heap.size + 1 + 1, k, none⟩ = some u := ⟨_, by rw [b2.out.cell, dc_get _ _ (by rw [M.numTo_length]; exact hlt)]⟩
      have hf : wr.frozen? ⟨w.heap.size + 1 + 1, k, none⟩ = false := b2.out.frozen k
      obtain ⟨G, hG⟩ : ∃ G, Hid (G = M.gl (b.drop (3 * k)) 8) := ⟨_, rfl⟩
      obtain ⟨m, hm⟩ : ∃ m, Hid (m = M.limb b k) := ⟨_, rfl⟩
      have hgb : G < 18446744073709551616 := by
        rw [hG.out]
        exact Nat.lt_of_lt_of_eq (M.gl_lt _ 8) (by decide)
      have s1 : bits BinOp.and .u64 ((G : Int) / 2 ^ (2 * k)) 67108863 = (m.toNat : Int) := by rw [hG.out, hm.out]; exact d_limb b k
      go_wp2_with fail
      refine (get64_any _ _ _ HIS.out).mono ?_
      rintro e w1 ⟨rfl, rfl⟩
      rw [← hG.out]
      go_wp2
      go_roundw
      case rel =>
        refine ⟨k + 1, by omega, by go_num, blk_far b0.out (by omega) _, blk_far b1.out (by omega) _, ?_, below_set kk (by omega) _⟩
        rw [Hid, M.numTo, ← hm.out, ← dc_set]
        exact b2.out.set_ k _
      case measure => simp [intOf]; omega
    · obtain rfl : k = 5 := by omega
      obtain ⟨r, hr⟩ : ∃ r, Hid (r = M.num b) := ⟨_, rfl⟩
      have HRL : Hid (r.length = 5) := by rw [Hid, hr.out, M.num_length]
      have N0 : Hid (Blk wr (w.heap.size + 1 + 1) 122 (dc r)) := by rw [hr.out]; exact b2
      have NR : Hid (wr.rangeAt (w.heap.size + 1 + 1) 0 (dc r)) := N0.out.range 0 (dc r) [] (by simp)
      clear N0 b2
      go_wp2_with (first
        | (refine wpList_load_mid rfl 122 (.tmp 3) rfl (w.heap.size + 1 + 1) 0 rfl (dc r) _ NR.out Tryd.underlying122 rfl (by rw [dc_length, HRL.out]; kernel_rfl) ?_)
        | (refine wpList_store_blk rfl 122 (.tmp 2) (.tmp 19) rfl (w.heap.size + 1) (dc r).toArray rfl rfl 122 (dc (List.replicate 5 0)) b1.out (by rw [List.size_toArray, dc_length, HRL.out]; kernel_rfl) (by rw [List.size_toArray, dc_length, dc_length, HRL.out]; rfl) (dc_oneCell r) ?_; intro w3 hb3 ho3))
      have k3 : Below w.heap.size w w3 := kk.trans (ho3.below kk.size (by omega))
      exact bodyPost_ret (results_cell_row rfl _ _ (w.heap.size + 1) _ _ _ _ rfl hb3 Tryd.underlying122 rfl (by rw [Array.toArray_toList, List.size_toArray, dc_length, HRL.out]; kernel_rfl)) rfl ⟨by rw [Array.toArray_toList, ← hr.out], k3⟩

end Go.Proofs.YtdojalhaklkegaaDoor

namespace Go.Proofs.YtdojalhaklkegaaDoor
open Go.RowKit
set_option linter.unusedVariables false

namespace M

def clA (b : List UInt8) : Nat → List UInt8
  | 0 => b
  | k + 1 => (clA b k).set (4 * k + 3) ((clA b k).getD (4 * k + 3) 0 &&& 15)

def clB (b : List UInt8) : Nat → List UInt8
  | 0 => b
  | k + 1 => (clB b k).set (4 * k + 4) ((clB b k).getD (4 * k + 4) 0 &&& 252)

theorem clA_length (b : List UInt8) (k : Nat) : (clA b k).length = b.length := by
  induction k with
  | zero => rfl
  | succ k ih => simp [clA, ih]

theorem clB_length (b : List UInt8) (k : Nat) : (clB b k).length = b.length := by
  induction k with
  | zero => rfl
  | succ k ih => simp [clB, ih]

/-- The key's first bytes, some bits of them made 0. -/
def clamp (key : List UInt8) : List UInt8 := clB (clA (key.take 16 ++ [0]) 4) 3

theorem clamp_length (key : List UInt8) (h : key.length = 32) : (clamp key).length = 17 := by
  rw [clamp, clB_length, clA_length]
  simp [h]

end M

theorem b_and' (a b : UInt8) : bits BinOp.and .u8 (a.toNat : Int) (b.toNat : Int) = ((a &&& b).toNat : Int) := by
  rw [u8_and_nat _ _ a.toNat_lt b.toNat_lt, UInt8.toNat_and]

theorem clamped_any (kv : Value) (key : List UInt8) (w : World) (hk : IsB w kv key) (hkl : key.length = 32) :
    Calls Tryd.prog 77 #[kv] w fun e w' => e = .returned (.agg (dc (M.num (M.clamp key))).toArray) ∧ Below w.heap.size w w' := by
  have HKL := Lib.hid hkl
  obtain ⟨ao, cap, rfl, h1, h2, hat⟩ := hk
  obtain ⟨b, o, rfl, hc⟩ : ∃ b off, ao = some ⟨b, off, none⟩ ∧ ∀ i, i < key.length → w.cell? ⟨b, off + i, none⟩ = some (.int .u8 ((key.getD i 0).toNat : Int)) := by
    rcases hat with h | h
    · rw [h] at hkl; simp at hkl
    · exact h
  have HC : Hid (∀ w', Below w.heap.size w w' → ∀ (j : Nat) (v : Value), (Lib.byteCells (key.take 16))[j]? = some v → w'.cell? (Addr.add ⟨b, o, none⟩ j) = some v) := by
    intro w' kw j v hv
    have hj : j < (Lib.byteCells (key.take 16)).length := (List.getElem?_eq_some_iff.1 hv).1
    have hj16 : j < 16 := by rw [byteCells_length, List.length_take] at hj; omega
    have h := hc j (by omega)
    rw [Addr.add_lit, kw.cell (by exact World.block_lt_of_cell? w _ h), h, ← hv, byteCells_getElem? _ _ (by rw [byteCells_length] at hj; exact hj)]
    simp [List.getD_eq_getElem?_getD, hj16]
  rw [hkl] at h1 ⊢
  unfold maxLen at h2
  obtain ⟨w2, hw2⟩ : ∃ x, x = (w.alloc (.cells #[.int .u64 0, .int .u64 0, .int .u64 0, .int .u64 0, .int .u64 0] 122)).alloc (.cells #[.int .u8 0, .int .u8 0, .int .u8 0, .int .u8 0, .int .u8 0, .int .u8 0, .int .u8 0, .int .u8 0, .int .u8 0, .int .u8 0, .int .u8 0, .int .u8 0, .int .u8 0, .int .u8 0, .int .u8 0, .int .u8 0, .int .u8 0] 148) := ⟨_, rfl⟩
  have A0 : Hid (Blk w2 w.heap.size 122 (dc (List.replicate 5 0))) := by rw [hw2]; exact (blk_zeroL _ _ rfl).alloc _
  have A1 : Hid (Blk w2 (w.heap.size + 1) 148 (List.replicate 17 (.int .u8 0))) := by rw [hw2]; exact Blk.newAt _ _ _ _ _ (by simp) rfl
  have k2 : Below w.heap.size w w2 := by rw [hw2]; exact ((Below.refl _ _).alloc (Nat.le_refl _) _).alloc (by simp) _
  have HW2 := Lib.hid hw2
  clear hc hat hkl hw2
  go_enter Tryd.func77, Tryd.ntmps77
  go_wp2
  rw [← HW2.out]
  obtain ⟨c0, hc0⟩ : ∃ c : List UInt8, Hid (c = key.take 16 ++ [0]) := ⟨key.take 16 ++ [0], rfl⟩
  have HL0 : Hid (c0.length = 17) := by rw [Hid, hc0.out]; simp [HKL.out]
  have HT : Hid ((Lib.byteCells (key.take 16)).length = 16) := by rw [Hid, byteCells_length, List.length_take, HKL.out]; rfl
  have HSP : Hid (splice (List.replicate 17 (Value.int .u8 0)) 0 (Lib.byteCells (key.take 16)) = Lib.byteCells c0) := by
    rw [Hid, hc0.out, splice, HT.out, byteCells_append]
    rfl
  have hsl1 := slice17_all (w.heap.size + 1)
  have hc16 : 16 ≤ cap := by omega
  have hc16i : (16 : Int) ≤ (cap : Int) := by omega
  refine wp_region_still 3 (by kernel_rfl) (by kernel_rfl) ?_
  simp only [List.take_succ_cons, List.take_zero, List.drop_succ_cons, List.drop_zero]
  repeat still_step
  refine wpStill_nil ?_
  refine wpList_copy_blk rfl (.tmp 6) (.tmp 8) 24 24 rfl 5 Tryd.underlying24 (by kernel_rfl) (some ⟨w.heap.size + 1, 0, none⟩) (some ⟨b, o, none⟩) 17 17 16 cap rfl rfl
    (w.heap.size + 1) 0 _ 148 A1.out.drew (Lib.byteCells (key.take 16)) HT.out (fun _ => ⟨rfl, _, rfl, HC.out _ (drewN_below k2 1)⟩) (by rw [HT.out]; decide) (byteCells_oneCell _) ?_
  intro w3 hb3 ho3
  rw [HSP.out] at hb3
  have hs2 : w.heap.size + 1 < w2.heap.size := A1.out.lt
  have D0 : Hid (Blk w3 w.heap.size 122 (dc (List.replicate 5 0))) := A0.out.drew.grown ho3 (by intro e; injection e with e; omega)
  have D1 : Hid (Blk w3 (w.heap.size + 1) 148 (Lib.byteCells (M.clA c0 0))) := hb3
  have k3 : Below w.heap.size w w3 := (drewN_below k2 1).trans (ho3.below k2.size (by omega))
  clear hb3 ho3 A0 A1 k2 hs2 HC HSP HT
  go_wp2
  go_loopw [4] (fun i wr => ∃ k : Nat, k ≤ 4 ∧ i = .int .i64 (4 * k + 3 : Nat) ∧ Hid (Blk wr w.heap.size 122 (dc (List.replicate 5 0))) ∧ Hid (Blk wr (w.heap.size + 1) 148 (Lib.byteCells (M.clA c0 k))) ∧ Below w.heap.size w wr)
    (fun i _ => 20 - (intOf i).toNat)
  case atStart => exact ⟨0, by omega, rfl, D0, D1, k3⟩
  case round =>
    clear D0 D1 k3
    obtain ⟨wA, rfl⟩ : ∃ x, x = wr := ⟨_, rfl⟩
    obtain ⟨k, hk, rfl, b0, b1, kk⟩ := hrel
    obtain ⟨p, hp⟩ : ∃ p, p = 4 * k + 3 := ⟨_, rfl⟩
    rw [← hp]
    by_cases hlt : k < 4
    · obtain ⟨x, hx⟩ : ∃ x, Hid (x = (M.clA c0 k).getD p 0) := ⟨_, rfl⟩
      have hp16 : p < 16 := by omega
      have hc : wA.cell? ⟨w.heap.size + 1, p, none⟩ = some (.int .u8 (x.toNat : Int)) := by rw [b1.out.cell, byteCells_getElem? _ _ (by rw [M.clA_length, HL0.out]; omega), hx.out]
      have hf : wA.frozen? ⟨w.heap.size + 1, p, none⟩ = false := b1.out.frozen p
      obtain ⟨m, hm⟩ : ∃ m, Hid (m = x &&& 15) := ⟨_, rfl⟩
      have s1 : bits BinOp.and .u8 (x.toNat : Int) 15 = (m.toNat : Int) := by rw [hm.out]; exact b_and' x 15
      have HP := Lib.hid hp
      clear hp
      go_wp2
      go_roundw
      case rel =>
        refine ⟨k + 1, by omega, by have := HP.out; go_num, blk_far b0.out (by omega) _, ?_, below_set kk (by omega) _⟩
        rw [Hid, M.clA, ← HP.out, ← hx.out, ← hm.out, ← bc_set]
        exact b1.out.set_ p _
      case measure => have := HP.out; simp [intOf]; omega
    · obtain rfl : k = 4 := by omega
      obtain rfl : p = 19 := hp
      obtain ⟨c1, hc1⟩ : ∃ c, Hid (c = M.clA c0 4) := ⟨_, rfl⟩
      have HL1 : Hid (c1.length = 17) := by rw [Hid, hc1.out, M.clA_length, HL0.out]
      have D1 : Hid (Blk wA (w.heap.size + 1) 148 (Lib.byteCells (M.clB c1 0))) := by rw [hc1.out]; exact b1
      clear b1
      go_wp2
      rw [show ((19 : Nat) : Int) = 19 from rfl]
      go_loopw [5] (fun i wr => ∃ k : Nat, k ≤ 3 ∧ i = .int .i64 (4 * k + 4 : Nat) ∧ Hid (Blk wr w.heap.size 122 (dc (List.replicate 5 0))) ∧ Hid (Blk wr (w.heap.size + 1) 148 (Lib.byteCells (M.clB c1 k))) ∧ Below w.heap.size w wr)
        (fun i _ => 20 - (intOf i).toNat)
      case atStart => exact ⟨0, by omega, rfl, b0, D1, kk⟩
      case round =>
        clear b0 D1 kk
        obtain ⟨wA, rfl⟩ : ∃ x, x = wr := ⟨_, rfl⟩
        obtain ⟨k, hk, rfl, b0, b1, kk⟩ := hrel
        obtain ⟨p, hp⟩ : ∃ p, p = 4 * k + 4 := ⟨_, rfl⟩
        rw [← hp]
        by_cases hlt2 : k < 3
        · obtain ⟨x, hx⟩ : ∃ x, Hid (x = (M.clB c1 k).getD p 0) := ⟨_, rfl⟩
          have hp16 : p < 16 := by omega
          have hc : wA.cell? ⟨w.heap.size + 1, p, none⟩ = some (.int .u8 (x.toNat : Int)) := by rw [b1.out.cell, byteCells_getElem? _ _ (by rw [M.clB_length, HL1.out]; omega), hx.out]
          have hf : wA.frozen? ⟨w.heap.size + 1, p, none⟩ = false := b1.out.frozen p
          obtain ⟨m, hm⟩ : ∃ m, Hid (m = x &&& 252) := ⟨_, rfl⟩
          have s1 : bits BinOp.and .u8 (x.toNat : Int) 252 = (m.toNat : Int) := by rw [hm.out]; exact b_and' x 252
          have HP := Lib.hid hp
          clear hp
          go_wp2
          go_roundw
          case rel =>
            refine ⟨k + 1, by omega, by have := HP.out; go_num, blk_far b0.out (by omega) _, ?_, below_set kk (by omega) _⟩
            rw [Hid, M.clB, ← HP.out, ← hx.out, ← hm.out, ← bc_set]
            exact b1.out.set_ p _
          case measure => have := HP.out; simp [intOf]; omega
        · obtain rfl : k = 3 := by omega
          obtain rfl : p = 16 := hp
          obtain ⟨c2, hc2⟩ : ∃ c, Hid (c = M.clamp key) := ⟨_, rfl⟩
          have HL2 : Hid (c2.length = 17) := by rw [Hid, hc2.out, M.clamp_length key HKL.out]
          obtain ⟨r, hr⟩ : ∃ r, Hid (r = M.num c2) := ⟨_, rfl⟩
          have HRL : Hid (r.length = 5) := by rw [Hid, hr.out, M.num_length]
          have N0 : Hid (Blk wA (w.heap.size + 1) 148 (Lib.byteCells c2)) := by rw [hc2.out, M.clamp, ← hc0.out, ← hc1.out]; exact b1
          have NR : Hid (wA.rangeAt (w.heap.size + 1) 0 (Lib.byteCells c2)) := N0.out.range 0 _ [] (by simp)
          have HN : Hid (Calls Tryd.prog 106 #[.agg (Lib.byteCells c2).toArray] wA fun e w' => e = .returned (.agg (dc r).toArray) ∧ Below wA.heap.size wA w') := by
            rw [Hid, hr.out]
            exact numberOf_any c2 wA HL2.out
          clear N0 b1
          go_wp2_with (refine wpList_load_mid rfl 148 (.tmp 3) rfl (w.heap.size + 1) 0 rfl (Lib.byteCells c2) _ NR.out Tryd.underlying148 rfl (by rw [byteCells_length, HL2.out]; kernel_rfl) ?_)
          refine HN.out.mono ?_
          rintro e w5 ⟨rfl, k5⟩
          have b5 : Blk w5 w.heap.size 122 (dc (List.replicate 5 0)) := b0.out.below k5 b0.out.lt
          have k6 : Below w.heap.size w w5 := kk.trans (k5.mono kk.size)
          go_wp2_with (refine wpList_store_blk rfl 122 (.tmp 2) (.tmp 29) rfl w.heap.size (dc r).toArray rfl rfl 122 (dc (List.replicate 5 0)) b5 (by rw [List.size_toArray, dc_length, HRL.out]; kernel_rfl) (by rw [List.size_toArray, dc_length, dc_length, HRL.out]; rfl) (dc_oneCell r) ?_; intro w7 hb7 ho7)
          have k7 : Below w.heap.size w w7 := k6.trans (ho7.below k6.size (by omega))
          exact bodyPost_ret (results_cell_row rfl _ _ w.heap.size _ _ _ _ rfl hb7 Tryd.underlying122 rfl (by rw [Array.toArray_toList, List.size_toArray, dc_length, HRL.out]; kernel_rfl)) rfl ⟨by rw [Array.toArray_toList, hr.out, hc2.out], k7⟩

end Go.Proofs.YtdojalhaklkegaaDoor
