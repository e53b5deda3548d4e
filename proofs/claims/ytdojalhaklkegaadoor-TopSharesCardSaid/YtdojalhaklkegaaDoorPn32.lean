/-
  PACKAGE field KEEPS WHAT IT OWES: each contract of FieldOk, of its code. Conditions: none.
  PLAIN MATHEMATICS OF LAYER 8: the numbers by the prime as a field; the points of Edwards' curve that curve25519 is by another name, their sum (which knows no exceptions), and that it doesn't hang on brackets. Nothing of the program. Conditions: none.
  PLAIN MATHEMATICS OF LAYER 8: THE LADDER TELLS MULTIPLES. Of a point's multiple b (not 0, nor of order 2) the ladder by a scalar tells the multiple by number and b: so its order doesn't matter; what it tells of 9 and a clamped scalar is never 0, as 9's order is a prime. Nothing of the program. Conditions: none.
  PLAIN MATHEMATICS OF LAYER 8: THE LADDER TELLS MULTIPLES. Of 9's multiple b (not 0, nor of order 2) the ladder by a scalar tells the multiple by its number and b; a multiple that is 0 has a number that is one of the order, a prime. Nothing of the program. Conditions: none.
  CONTRACT OF curve.climb: a step for each bit. Conditions: FieldOk; the ladder lies in its block, the number's 32 bytes elsewhere.
  CONTRACTS OF curve.Shared, over those of the ladder's methods. Conditions: FieldOk.
  PLAIN MATHEMATICS OF LAYER 8: a scalar's point is never 0. Nothing of the program. Conditions: as each says.
  PACKAGE curve KEEPS WHAT IT OWES (CurveOk): contracts of Public, and all of them over package field's. Conditions: none.
-/
import Derived.Test.YtdojalhaklkegaaDoorPn21
import Derived.Test.YtdojalhaklkegaaDoorPn26
import Derived.Test.YtdojalhaklkegaaDoorPn27
import Derived.Test.YtdojalhaklkegaaDoorFieldInv
import Derived.Test.YtdojalhaklkegaaDoorPn17
import Derived.Test.YtdojalhaklkegaaDoorLadMath
import Derived.Test.YtdojalhaklkegaaDoorCurveStep

set_option maxRecDepth 100000
namespace Go.Proofs.YtdojalhaklkegaaDoor
open Go.RowKit

theorem field_ok : FieldOk Fl where
  len := Fl.len
  one := Fl.one
  lt := Fl.lt
  from_ := ffrom_any
  bytes_ := fbytes_any
  add_ := fun K L m n w => fadd_any K L m n w
  sub_ := fun K L m n w => fsub_any K L m n w
  mul_ := fun K L m n w => fmul_any K L m n w
  square_ := fsquare_any
  times_ := fun K m n w => ftimes_any K m n w
  invert_ := finvert_any
  swap_ := fun b K L m n w => fswap_any b K L m n w

end Go.Proofs.YtdojalhaklkegaaDoor

namespace Go.Proofs.YtdojalhaklkegaaDoor.M.Ed
set_option linter.unusedVariables false

theorem Q_pos8 : 0 < Q := by decide +kernel
instance nzQ : NeZero Q := ⟨Nat.pos_iff_ne_zero.mp Q_pos8⟩

/-- The field. -/
abbrev Fq := Fin Q

/-- A number in it. -/
def fq (n : Nat) : Fq := Fin.ofNat Q n

theorem fq_val (n : Nat) : (fq n).val = n % Q := rfl

theorem fq_of (a : Fq) : fq a.val = a := by
  apply Fin.ext
  rw [fq_val]
  exact Nat.mod_eq_of_lt a.isLt

theorem fq_mod (n : Nat) : fq (n % Q) = fq n := by
  apply Fin.ext
  rw [fq_val, fq_val, Nat.mod_mod]

theorem fq_add (a b : Nat) : fq (a + b) = fq a + fq b := by
  apply Fin.ext
  rw [Fin.val_add, fq_val, fq_val, fq_val, ← Nat.add_mod]

theorem fq_mul (a b : Nat) : fq (a * b) = fq a * fq b := by
  apply Fin.ext
  rw [Fin.val_mul, fq_val, fq_val, fq_val, ← Nat.mul_mod]

theorem fq_zero : fq 0 = 0 := rfl

theorem fq_one : fq 1 = 1 := rfl

theorem fq_Q : fq Q = 0 := by
  apply Fin.ext
  rw [fq_val, Nat.mod_self]
  rfl

theorem fq_sub (a b : Nat) (h : b ≤ Q) : fq (a + (Q - b)) = fq a - fq b := by
  have h1 : fq (a + (Q - b)) + fq b = fq a := by
    rw [← fq_add, show a + (Q - b) + b = a + Q by omega, fq_add, fq_Q]
    grobner
  grobner

theorem fq_inj {a b : Nat} (ha : a < Q) (hb : b < Q) (h : fq a = fq b) : a = b := by
  have := congrArg Fin.val h
  rwa [fq_val, fq_val, Nat.mod_eq_of_lt ha, Nat.mod_eq_of_lt hb] at this

/-- A product that is 0 has a factor that is 0. -/
theorem mul_zero {a b : Fq} (h : a * b = 0) : a = 0 ∨ b = 0 := by
  have h0 := congrArg Fin.val h
  rw [Fin.val_mul] at h0
  have hz : (0 : Fq).val = 0 := rfl
  rw [hz] at h0
  have hd : Q ∣ a.val * b.val := Nat.dvd_of_mod_eq_zero h0
  by_cases ha : Q ∣ a.val
  · left
    apply Fin.ext
    rw [hz]
    exact Nat.eq_zero_of_dvd_of_lt ha a.isLt
  · right
    apply Fin.ext
    rw [hz]
    exact Nat.eq_zero_of_dvd_of_lt (Q_prime.euclid hd ha) b.isLt

theorem mul_ne {a b : Fq} (ha : a ≠ 0) (hb : b ≠ 0) : a * b ≠ 0 := fun h => (mul_zero h).elim ha hb

/-- The inverse; 0 of 0. -/
def inv (a : Fq) : Fq := fq (a.val ^ (Q - 2) % Q)

theorem inv_zero : inv 0 = 0 := by
  have hz : (0 : Fq).val = 0 := rfl
  rw [inv, hz, Nat.zero_pow (by decide +kernel), Nat.zero_mod, fq_zero]

theorem inv_mul {a : Fq} (h : a ≠ 0) : a * inv a = 1 := by
  have hz : (0 : Fq).val = 0 := rfl
  have ha : a.val % Q ≠ 0 := by
    rw [Nat.mod_eq_of_lt a.isLt]
    intro h0
    exact h (Fin.ext (by rw [h0, hz]))
  have := Q_inverse a.val ha
  have h1 : a * inv a = fq (a.val * a.val ^ (Q - 2) % Q) := by
    rw [fq_mod, fq_mul, fq_of, inv, fq_mod]
  rw [h1, this, fq_one]

theorem two_ne : (2 : Fq) ≠ 0 := by decide +kernel

/-! ## The curve: x² y² = g (x² + y² - 1) -/

/-- 121666 / 121665. -/
def g : Fq := fq 28692721048178265397853269683490922171210976843790175684556505508326675974058

theorem g_eq : g * 121665 = 121666 := by decide +kernel
theorem g_ne : g ≠ 0 := by decide +kernel
theorem g_one : g ≠ 1 := by decide +kernel

/-- g is no square of the field. -/
theorem no_root (s : Fq) : s * s ≠ g := by
  intro h
  have hs : ¬ Q ∣ s.val := by
    intro hd
    have h0 : s = 0 := Fin.ext (Nat.eq_zero_of_dvd_of_lt hd s.isLt)
    rw [h0] at h
    exact g_ne (h.symm.trans (by grobner))
  have h1 := fermat Q_prime s.val hs
  have h2 := congrArg Fin.val h
  rw [Fin.val_mul] at h2
  have h3 : g.val ^ ((Q - 1) / 2) % Q = 1 := by
    rw [← h2, ← Nat.pow_mod, ← Nat.pow_two, ← Nat.pow_mul, show 2 * ((Q - 1) / 2) = Q - 1 by decide +kernel]
    exact h1
  rw [pm_one Q 256 g.val _ (by decide +kernel)] at h3
  exact absurd h3 (by decide +kernel)

theorem no_sq {a b : Fq} (h : g * (a * a) = b * b) : a = 0 := by
  apply Classical.byContradiction
  intro ha
  have h1 := inv_mul ha
  refine no_root (b * inv a) ?_
  generalize inv a = i at h1
  grobner

structure Pt where
  x : Fq
  y : Fq

def On (p : Pt) : Prop := p.x * p.x * (p.y * p.y) = g * (p.x * p.x + p.y * p.y - 1)

theorem low_ne {x1 y1 x2 y2 : Fq} (h1 : x1 * x1 * (y1 * y1) = g * (x1 * x1 + y1 * y1 - 1)) (h2 : x2 * x2 * (y2 * y2) = g * (x2 * x2 + y2 * y2 - 1)) : g + x1 * x2 * (y1 * y2) ≠ 0 := by
  intro h
  have hg := inv_mul g_ne
  generalize inv g = i at hg
  have ha : x1 - y1 = 0 := no_sq (b := x1 * y1 * (x2 + y2)) (by grobner)
  have hb : x1 + y1 = 0 := no_sq (b := x1 * y1 * (x2 - y2)) (by grobner)
  have hx : 2 * x1 = 0 := by grobner
  rcases mul_zero hx with h2 | h2
  · exact two_ne h2
  · exact g_ne (by grobner)

theorem high_ne {x1 y1 x2 y2 : Fq} (h1 : x1 * x1 * (y1 * y1) = g * (x1 * x1 + y1 * y1 - 1)) (h2 : x2 * x2 * (y2 * y2) = g * (x2 * x2 + y2 * y2 - 1)) : g - x1 * x2 * (y1 * y2) ≠ 0 := by
  have := low_ne (x1 := -x1) (y1 := y1) (x2 := x2) (y2 := y2) (by grobner) h2
  intro h
  exact this (by grobner)

/-- The sum of two points. -/
def add (p q : Pt) : Pt :=
  ⟨g * (p.x * q.y + q.x * p.y) * inv (g + p.x * q.x * (p.y * q.y)), g * (p.y * q.y - p.x * q.x) * inv (g - p.x * q.x * (p.y * q.y))⟩

theorem add_x {p q : Pt} (hp : On p) (hq : On q) : (add p q).x * (g + p.x * q.x * (p.y * q.y)) = g * (p.x * q.y + q.x * p.y) := by
  have h := inv_mul (low_ne hp hq)
  rw [add]
  generalize inv (g + p.x * q.x * (p.y * q.y)) = i at *
  grobner

theorem add_y {p q : Pt} (hp : On p) (hq : On q) : (add p q).y * (g - p.x * q.x * (p.y * q.y)) = g * (p.y * q.y - p.x * q.x) := by
  have h := inv_mul (high_ne hp hq)
  rw [add]
  generalize inv (g - p.x * q.x * (p.y * q.y)) = i at *
  grobner

theorem closed (g x1 y1 x2 y2 t N1 N2 : Fq) (h1 : x1 * x1 * (y1 * y1) = g * (x1 * x1 + y1 * y1 - 1)) (h2 : x2 * x2 * (y2 * y2) = g * (x2 * x2 + y2 * y2 - 1)) (ht : t = x1 * x2 * (y1 * y2)) (hN1 : N1 = x1 * y2 + x2 * y1) (hN2 : N2 = y1 * y2 - x1 * x2) :
    g * g * (N1 * N1 * ((g - t) * (g - t)) + N2 * N2 * ((g + t) * (g + t))) - (g + t) * (g + t) * ((g - t) * (g - t)) = g * g * g * (N1 * N1 * (N2 * N2)) := by
  subst ht hN1 hN2
  grobner

theorem on_of (g X Y D E N1 N2 : Fq) (hX : X * D = g * N1) (hY : Y * E = g * N2) (hc : g * g * (N1 * N1 * (E * E) + N2 * N2 * (D * D)) - D * D * (E * E) = g * g * g * (N1 * N1 * (N2 * N2))) (hD : D ≠ 0) (hE : E ≠ 0) :
    X * X * (Y * Y) = g * (X * X + Y * Y - 1) := by
  have h : (X * X * (Y * Y) - g * (X * X + Y * Y - 1)) * (D * E * (D * E)) = 0 := by grobner
  have h2 := mul_ne (mul_ne hD hE) (mul_ne hD hE)
  rcases mul_zero h with h3 | h3
  · grobner
  · exact absurd h3 h2

theorem add_on {p q : Pt} (hp : On p) (hq : On q) : On (add p q) :=
  on_of g _ _ _ _ _ _ (add_x hp hq) (add_y hp hq) (closed g p.x p.y q.x q.y _ _ _ hp hq rfl rfl rfl) (low_ne hp hq) (high_ne hp hq)

theorem add_comm (p q : Pt) : add p q = add q p := by
  rw [add, add, show p.x * q.y + q.x * p.y = q.x * p.y + p.x * q.y by grobner, show p.y * q.y - p.x * q.x = q.y * p.y - q.x * p.x by grobner, show p.x * q.x * (p.y * q.y) = q.x * p.x * (q.y * p.y) by grobner]

theorem as_x (g x1 y1 x2 y2 x3 y3 t s N1 N2 N3 N4 : Fq) (h1 : x1 * x1 * (y1 * y1) = g * (x1 * x1 + y1 * y1 - 1)) (h2 : x2 * x2 * (y2 * y2) = g * (x2 * x2 + y2 * y2 - 1)) (h3 : x3 * x3 * (y3 * y3) = g * (x3 * x3 + y3 * y3 - 1))
    (ht : t = x1 * x2 * (y1 * y2)) (hs : s = x2 * x3 * (y2 * y3)) (hN1 : N1 = x1 * y2 + x2 * y1) (hN2 : N2 = y1 * y2 - x1 * x2) (hN3 : N3 = x2 * y3 + x3 * y2) (hN4 : N4 = y2 * y3 - x2 * x3) :
    (N1 * (g - t) * y3 + N2 * (g + t) * x3) * ((g + s) * (g - s) + g * (x1 * y1 * (N3 * N4))) = (x1 * N4 * (g + s) + y1 * N3 * (g - s)) * ((g + t) * (g - t) + g * (N1 * N2 * (x3 * y3))) := by
  subst ht hs hN1 hN2 hN3 hN4
  grobner

theorem as_y (g x1 y1 x2 y2 x3 y3 t s N1 N2 N3 N4 : Fq) (h1 : x1 * x1 * (y1 * y1) = g * (x1 * x1 + y1 * y1 - 1)) (h2 : x2 * x2 * (y2 * y2) = g * (x2 * x2 + y2 * y2 - 1)) (h3 : x3 * x3 * (y3 * y3) = g * (x3 * x3 + y3 * y3 - 1))
    (ht : t = x1 * x2 * (y1 * y2)) (hs : s = x2 * x3 * (y2 * y3)) (hN1 : N1 = x1 * y2 + x2 * y1) (hN2 : N2 = y1 * y2 - x1 * x2) (hN3 : N3 = x2 * y3 + x3 * y2) (hN4 : N4 = y2 * y3 - x2 * x3) :
    (N2 * (g + t) * y3 - N1 * (g - t) * x3) * ((g + s) * (g - s) - g * (x1 * y1 * (N3 * N4))) = (y1 * N4 * (g + s) - x1 * N3 * (g - s)) * ((g + t) * (g - t) - g * (N1 * N2 * (x3 * y3))) := by
  subst ht hs hN1 hN2 hN3 hN4
  grobner

/-- Two fractions that are one. -/
theorem same_of (g L R EL AL ER AR el al er ar D E : Fq) (hg : g ≠ 0) (hD : D ≠ 0) (hE : E ≠ 0) (hEL : EL ≠ 0) (hER : ER ≠ 0)
    (h1 : L * EL = g * AL) (h2 : R * ER = g * AR) (h3 : EL * D = g * el) (h4 : AL * D = g * al) (h5 : ER * E = g * er) (h6 : AR * E = g * ar) (h7 : al * er = ar * el) : L = R := by
  have hel : el ≠ 0 := fun h => mul_ne hEL hD (by grobner)
  have her : er ≠ 0 := fun h => mul_ne hER hE (by grobner)
  have e1 : g * (L * el - g * al) = 0 := by grobner
  have e2 : g * (R * er - g * ar) = 0 := by grobner
  have e1' := (mul_zero e1).resolve_left hg
  have e2' := (mul_zero e2).resolve_left hg
  have e3 : (L - R) * (el * er) = 0 := by grobner
  have e4 := (mul_zero e3).resolve_right (mul_ne hel her)
  grobner

theorem pt_ext {p q : Pt} (hx : p.x = q.x) (hy : p.y = q.y) : p = q := by
  cases p
  cases q
  simp only at hx hy
  rw [hx, hy]

theorem of1 {g sx sy D1 D2 N1 N2 x y : Fq} (a1 : sx * D1 = g * N1) (a2 : sy * D2 = g * N2) : (g + sx * x * (sy * y)) * (D1 * D2) = g * (D1 * D2 + g * (N1 * N2 * (x * y))) := by grobner

theorem of2 {g sx sy D1 D2 N1 N2 x y : Fq} (a1 : sx * D1 = g * N1) (a2 : sy * D2 = g * N2) : (g - sx * x * (sy * y)) * (D1 * D2) = g * (D1 * D2 - g * (N1 * N2 * (x * y))) := by grobner

theorem of3 {g sx sy D1 D2 N1 N2 x y : Fq} (a1 : sx * D1 = g * N1) (a2 : sy * D2 = g * N2) : (g + x * sx * (y * sy)) * (D1 * D2) = g * (D1 * D2 + g * (x * y * (N1 * N2))) := by grobner

theorem of4 {g sx sy D1 D2 N1 N2 x y : Fq} (a1 : sx * D1 = g * N1) (a2 : sy * D2 = g * N2) : (g - x * sx * (y * sy)) * (D1 * D2) = g * (D1 * D2 - g * (x * y * (N1 * N2))) := by grobner

theorem of5 {g sx sy D1 D2 N1 N2 x y : Fq} (a1 : sx * D1 = g * N1) (a2 : sy * D2 = g * N2) : (sx * y + x * sy) * (D1 * D2) = g * (N1 * D2 * y + N2 * D1 * x) := by grobner

theorem of6 {g sx sy D1 D2 N1 N2 x y : Fq} (a1 : sx * D1 = g * N1) (a2 : sy * D2 = g * N2) : (sy * y - sx * x) * (D1 * D2) = g * (N2 * D1 * y - N1 * D2 * x) := by grobner

theorem of7 {g sx sy D1 D2 N1 N2 x y : Fq} (a1 : sx * D1 = g * N1) (a2 : sy * D2 = g * N2) : (x * sy + sx * y) * (D1 * D2) = g * (x * N2 * D1 + y * N1 * D2) := by grobner

theorem of8 {g sx sy D1 D2 N1 N2 x y : Fq} (a1 : sx * D1 = g * N1) (a2 : sy * D2 = g * N2) : (y * sy - x * sx) * (D1 * D2) = g * (y * N2 * D1 - x * N1 * D2) := by grobner

/-- Brackets don't matter. -/
theorem add_assoc {p q r : Pt} (hp : On p) (hq : On q) (hr : On r) : add (add p q) r = add p (add q r) := by
  have a1 := add_x hp hq
  have a2 := add_y hp hq
  have b1 := add_x hq hr
  have b2 := add_y hq hr
  have o1 := add_on hp hq
  have o2 := add_on hq hr
  have c1 := add_x o1 hr
  have c2 := add_y o1 hr
  have d1 := add_x hp o2
  have d2 := add_y hp o2
  have n1 := low_ne hp hq
  have n2 := high_ne hp hq
  have n3 := low_ne hq hr
  have n4 := high_ne hq hr
  have m1 := low_ne o1 hr
  have m2 := high_ne o1 hr
  have m3 := low_ne hp o2
  have m4 := high_ne hp o2
  have ex := as_x g p.x p.y q.x q.y r.x r.y _ _ _ _ _ _ hp hq hr rfl rfl rfl rfl rfl rfl
  have ey := as_y g p.x p.y q.x q.y r.x r.y _ _ _ _ _ _ hp hq hr rfl rfl rfl rfl rfl rfl
  have hD := mul_ne n1 n2
  have hE := mul_ne n3 n4
  generalize add (add p q) r = L at *
  generalize add p (add q r) = R at *
  generalize add p q = s at *
  generalize add q r = t at *
  generalize hd1 : g + p.x * q.x * (p.y * q.y) = D1 at *
  generalize hd2 : g - p.x * q.x * (p.y * q.y) = D2 at *
  generalize hd3 : g + q.x * r.x * (q.y * r.y) = D3 at *
  generalize hd4 : g - q.x * r.x * (q.y * r.y) = D4 at *
  generalize p.x * q.y + q.x * p.y = N1 at *
  generalize p.y * q.y - p.x * q.x = N2 at *
  generalize q.x * r.y + r.x * q.y = N3 at *
  generalize q.y * r.y - q.x * r.x = N4 at *
  clear hd1 hd2 hd3 hd4
  refine pt_ext ?_ ?_
  · exact same_of g L.x R.x _ _ _ _ _ _ _ _ (D1 * D2) (D3 * D4) g_ne hD hE m1 m3 c1 d1 (of1 a1 a2) (of5 a1 a2) (of3 b1 b2) (of7 b1 b2) ex
  · exact same_of g L.y R.y _ _ _ _ _ _ _ _ (D1 * D2) (D3 * D4) g_ne hD hE m2 m4 c2 d2 (of2 a1 a2) (of6 a1 a2) (of4 b1 b2) (of8 b1 b2) ey

end Go.Proofs.YtdojalhaklkegaaDoor.M.Ed

namespace Go.Proofs.YtdojalhaklkegaaDoor.M.Ed
set_option linter.unusedVariables false

/-! ## Multiples -/

/-- The point that changes nothing. -/
def O : Pt := ⟨0, 1⟩

theorem on_O : On O := by
  show (0 : Fq) * 0 * (1 * 1) = g * (0 * 0 + 1 * 1 - 1)
  grobner

theorem add_O (p : Pt) : add p O = p := by
  have h := inv_mul g_ne
  refine pt_ext ?_ ?_
  · show g * (p.x * 1 + 0 * p.y) * inv (g + p.x * 0 * (p.y * 1)) = p.x
    rw [show g + p.x * 0 * (p.y * 1) = g by grobner]
    generalize inv g = i at h
    grobner
  · show g * (p.y * 1 - p.x * 0) * inv (g - p.x * 0 * (p.y * 1)) = p.y
    rw [show g - p.x * 0 * (p.y * 1) = g by grobner]
    generalize inv g = i at h
    grobner

/-- The point of 9. -/
def B : Pt := ⟨fq 9771384041963202563870679428059935816164187996444183106833894008023910952347, fq 46316835694926478169428394003475163141307993866256225615783033603165251855960⟩

theorem on_B : On B := by
  show B.x * B.x * (B.y * B.y) = g * (B.x * B.x + B.y * B.y - 1)
  decide +kernel

theorem B_nine : 9 * (1 - B.y) = 1 + B.y := by decide +kernel
theorem B_low : 1 + B.y ≠ 0 := by decide +kernel
theorem B_high : 1 - B.y ≠ 0 := by decide +kernel

/-- The multiples of 9's point. -/
def nP : Nat → Pt
  | 0 => O
  | n + 1 => add (nP n) B

theorem nP_on : ∀ n, On (nP n)
  | 0 => on_O
  | n + 1 => add_on (nP_on n) on_B

theorem nP_add (m : Nat) : ∀ n, nP (m + n) = add (nP m) (nP n)
  | 0 => (add_O _).symm
  | n + 1 => by rw [show m + (n + 1) = (m + n) + 1 from rfl, nP, nP_add m n, add_assoc (nP_on m) (nP_on n) on_B, nP]

theorem nP_one : nP 1 = B := by
  rw [nP, nP, add_comm, add_O]

/-! ## A step -/

/-- X : Z tells the point. -/
def Rep (X Z : Fq) (p : Pt) : Prop := ∃ l : Fq, l ≠ 0 ∧ X = l * (1 + p.y) ∧ Z = l * (1 - p.y)

theorem rep_of {X Z : Fq} {p : Pt} (h : X * (1 - p.y) = Z * (1 + p.y)) (hn : X ≠ 0 ∨ Z ≠ 0) : Rep X Z p := by
  have h2 := inv_mul two_ne
  generalize inv 2 = i at h2
  refine ⟨(X + Z) * i, ?_, by grobner, by grobner⟩
  intro h0
  have hx : X + Z = 0 := by grobner
  have hz : 2 * Z = 0 := by grobner
  have hz0 := (mul_zero hz).resolve_left two_ne
  rcases hn with hn | hn
  · exact hn (by clear hn h h2 h0 hz; grobner)
  · exact hn hz0

theorem neg_on {p : Pt} (hp : On p) : On ⟨-p.x, p.y⟩ := by
  have h : p.x * p.x * (p.y * p.y) = g * (p.x * p.x + p.y * p.y - 1) := hp
  show -p.x * -p.x * (p.y * p.y) = g * (-p.x * -p.x + p.y * p.y - 1)
  grobner

theorem add_neg {p : Pt} (hp : On p) : add p ⟨-p.x, p.y⟩ = O := by
  have hn := neg_on hp
  have a1 := add_x hp hn
  have a2 := add_y hp hn
  have n1 := low_ne hp hn
  have n2 := high_ne hp hn
  have h : p.x * p.x * (p.y * p.y) = g * (p.x * p.x + p.y * p.y - 1) := hp
  generalize add p ⟨-p.x, p.y⟩ = s at *
  simp only at a1 a2 n1 n2
  refine pt_ext ?_ ?_
  · show s.x = 0
    have e : s.x * (g + p.x * -p.x * (p.y * p.y)) = 0 := by rw [a1]; clear n1 n2 a1 a2; grobner
    exact (mul_zero e).resolve_right n1
  · show s.y = 1
    have e : (s.y - 1) * (g - p.x * -p.x * (p.y * p.y)) = 0 := by clear n1 n2 a1; grobner
    have := (mul_zero e).resolve_right n2
    clear a1 a2 n1 n2 e
    grobner

theorem add_back {p q : Pt} (hp : On p) (hq : On q) : add (add p q) ⟨-p.x, p.y⟩ = q := by
  rw [add_comm p q, add_assoc hq hp (neg_on hp), add_neg hp, add_O]

/-- What one has less than the sum of both. -/
theorem sub_y {p q : Pt} (hp : On p) (hq : On q) : q.y * (g + (add p q).x * p.x * ((add p q).y * p.y)) = g * ((add p q).y * p.y + (add p q).x * p.x) := by
  have h := add_y (add_on hp hq) (neg_on hp)
  rw [add_back hp hq] at h
  simp only at h
  generalize add p q = s at *
  grobner

theorem dbl_eq (g x y z l : Fq) (hg : g * 121665 = 121666) (h : x * x * (y * y) = g * (x * x + y * y - 1)) (hz : z * (g - x * x * (y * y)) = g * (y * y - x * x)) :
    (16 * (l * l * (l * l)) * (y * y) * (1 - z) - 16 * (l * l * (l * l)) * ((1 - y * y) * (1 + 121665 * (1 - y * y))) * (1 + z)) * (g - x * x * (y * y)) = 0 := by
  grobner

theorem rep_dbl {X Z : Fq} {p : Pt} (hp : On p) (h : Rep X Z p) :
    Rep ((X + Z) * (X + Z) * ((X - Z) * (X - Z))) (((X + Z) * (X + Z) - (X - Z) * (X - Z)) * ((X + Z) * (X + Z) + 121665 * ((X + Z) * (X + Z) - (X - Z) * (X - Z)))) (add p p) := by
  obtain ⟨l, hl, rfl, rfl⟩ := h
  have e := dbl_eq g p.x p.y (add p p).y l g_eq hp (add_y hp hp)
  have e2 := (mul_zero e).resolve_right (high_ne hp hp)
  have hc : p.x * p.x * (p.y * p.y) = g * (p.x * p.x + p.y * p.y - 1) := hp
  refine rep_of ?_ ?_
  · generalize add p p = s at *
    clear e hc
    grobner
  · have hx : (l * (1 + p.y) + l * (1 - p.y)) * (l * (1 + p.y) + l * (1 - p.y)) * ((l * (1 + p.y) - l * (1 - p.y)) * (l * (1 + p.y) - l * (1 - p.y))) = 2 * l * (2 * l) * (2 * l * p.y * (2 * l * p.y)) := by clear e e2 hc; grobner
    have h2l := mul_ne two_ne hl
    by_cases hy : p.y = 0
    · right
      rw [hy]
      intro h0
      have : 2 * l * (2 * l) * (2 * l * (2 * l) * 121666) = 0 := by clear e e2 hc hx h2l hl; grobner
      exact mul_ne (mul_ne h2l h2l) (mul_ne (mul_ne h2l h2l) (by decide +kernel)) this
    · left
      rw [hx]
      exact mul_ne (mul_ne h2l h2l) (mul_ne (mul_ne h2l hy) (mul_ne h2l hy))

theorem sum_eq (g x y v w z k u t : Fq) (h1 : x * x * (y * y) = g * (x * x + y * y - 1)) (h2 : v * v * (w * w) = g * (v * v + w * w - 1)) (ht : t = v * x * (w * y)) :
    (w + y) * (w + y) * ((g - t) - g * (w * y - v * x)) * ((g + t) - g * (w * y + v * x)) = (w - y) * (w - y) * ((g + t) + g * (w * y + v * x)) * ((g - t) + g * (w * y - v * x)) := by
  subst ht
  grobner

theorem rep_sum {X Z V W u : Fq} {p q : Pt} (hp : On p) (hq : On q) (hX : Rep X Z p) (hV : Rep V W (add p q)) (hu : u * (1 - q.y) = 1 + q.y) (hl : 1 + q.y ≠ 0) (hh : 1 - q.y ≠ 0) :
    Rep (((V - W) * (X + Z) + (V + W) * (X - Z)) * ((V - W) * (X + Z) + (V + W) * (X - Z))) (u * (((V - W) * (X + Z) - (V + W) * (X - Z)) * ((V - W) * (X + Z) - (V + W) * (X - Z)))) (add p (add p q)) := by
  obtain ⟨l, hl0, rfl, rfl⟩ := hX
  obtain ⟨m, hm0, rfl, rfl⟩ := hV
  have hs := add_on hp hq
  have e1 := sub_y hp hq
  have e2 := add_y hp hs
  have n1 := low_ne hs hp
  have n2 := high_ne hp hs
  have e3 := sum_eq g p.x p.y (add p q).x (add p q).y 0 0 0 _ hp hs rfl
  generalize add p (add p q) = r at *
  generalize add p q = s at *
  have hu0 : u ≠ 0 := by
    intro h0
    rw [h0] at hu
    exact hl (by clear e1 e2 e3 n1 n2; grobner)
  have hx : (m * (1 + s.y) - m * (1 - s.y)) * (l * (1 + p.y) + l * (1 - p.y)) + (m * (1 + s.y) + m * (1 - s.y)) * (l * (1 + p.y) - l * (1 - p.y)) = 2 * l * (2 * m) * (s.y + p.y) := by clear e1 e2 e3 n1 n2; grobner
  have hz : (m * (1 + s.y) - m * (1 - s.y)) * (l * (1 + p.y) + l * (1 - p.y)) - (m * (1 + s.y) + m * (1 - s.y)) * (l * (1 + p.y) - l * (1 - p.y)) = 2 * l * (2 * m) * (s.y - p.y) := by clear e1 e2 e3 n1 n2; grobner
  have h4 := mul_ne (mul_ne two_ne hl0) (mul_ne two_ne hm0)
  rw [hx, hz]
  generalize 2 * l * (2 * m) = c at h4
  clear hx hz
  have n2' : g - s.x * p.x * (s.y * p.y) ≠ 0 := by
    intro h0
    exact n2 (by clear e1 e2 e3 n1 n2; grobner)
  have e2' : r.y * (g - s.x * p.x * (s.y * p.y)) = g * (s.y * p.y - s.x * p.x) := by clear e1 e3 n1 n2 n2'; grobner
  have hm : p.x * p.x * (p.y * p.y) = g * (p.x * p.x + p.y * p.y - 1) := hp
  have hm2 : s.x * s.x * (s.y * s.y) = g * (s.x * s.x + s.y * s.y - 1) := hs
  generalize hT : s.x * p.x * (s.y * p.y) = t at *
  refine rep_of ?_ ?_
  · have k : ((s.y + p.y) * (s.y + p.y) * (1 - r.y) - u * ((s.y - p.y) * (s.y - p.y)) * (1 + r.y)) * ((1 - q.y) * ((g - t) * (g + t))) = 0 := by
      have f1 : (1 - r.y) * (g - t) = (g - t) - g * (s.y * p.y - s.x * p.x) := by clear e1 e2 e3 hm hm2 hT n1 n2 n2' hh hl hu0 h4 hl0 hm0 hu; grobner
      have f2 : (1 + r.y) * (g - t) = (g - t) + g * (s.y * p.y - s.x * p.x) := by clear e1 e2 e3 hm hm2 hT n1 n2 n2' hh hl hu0 h4 hl0 hm0 hu; grobner
      have f3 : (1 - q.y) * (g + t) = (g + t) - g * (s.y * p.y + s.x * p.x) := by clear e2 e2' e3 hm hm2 hT n1 n2 n2' hh hl hu0 h4 hl0 hm0 hu; grobner
      have f4 : u * (1 - q.y) * (g + t) = (g + t) + g * (s.y * p.y + s.x * p.x) := by clear e2 e2' e3 hm hm2 hT n1 n2 n2' hh hl hu0 h4 hl0 hm0; grobner
      rw [← f1, ← f2, ← f3, ← f4] at e3
      clear e1 e2 e2' hm hm2 hT n1 n2 n2' hh hl hu0 h4 hl0 hm0 hu f1 f2 f3 f4
      grobner
    have k2 := (mul_zero k).resolve_right (mul_ne hh (mul_ne n2' n1))
    clear e1 e2 e2' e3 hm hm2 hT n1 n2 n2' hh hl hu0 h4 hl0 hm0 hu k
    grobner
  · by_cases ha : s.y + p.y = 0
    · by_cases hb : s.y - p.y = 0
      · exfalso
        have hy : 2 * p.y = 0 := by clear e1 e2 e2' e3 hm hm2 hT n1 n2 n2' hh hl hu0 h4 hl0 hm0 hu; grobner
        have hy0 := (mul_zero hy).resolve_left two_ne
        have hs0 : s.y = 0 := by clear e1 e2 e2' e3 hm hm2 hT n1 n2 n2' hh hl hu0 h4 hl0 hm0 hu; grobner
        rw [hy0] at hm e1
        rw [hs0] at hm2 e1
        have hi := inv_mul g_ne
        generalize inv g = i at hi
        have px : p.x * p.x = 1 := by clear e1 e2 e2' e3 hm2 hT n1 n2 n2' hh hl hu0 h4 hl0 hm0 hu hs0 hy0 hy ha hb; grobner
        have sx : s.x * s.x = 1 := by clear e1 e2 e2' e3 hm hT n1 n2 n2' hh hl hu0 h4 hl0 hm0 hu hs0 hy0 hy ha hb px; grobner
        have t0 : t = 0 := by rw [← hT, hy0]; clear e1 e2 e2' e3 hm hm2 hT n1 n2 n2' hh hl hu0 h4 hl0 hm0 hu hs0 hy0 hy ha hb px sx; grobner
        rw [t0] at e1
        have qy : q.y = s.x * p.x := by clear e2 e2' e3 hm hm2 hT n1 n2 n2' hh hl hu0 h4 hl0 hm0 hu hs0 hy0 hy ha hb px sx; grobner
        have : (1 + q.y) * (1 - q.y) = 0 := by rw [qy]; clear e1 e2 e2' e3 hm hm2 hT n1 n2 n2' hh hl hu0 h4 hl0 hm0 hu hs0 hy0 hy ha hb qy; grobner
        exact mul_ne hl hh this
      · right
        exact mul_ne hu0 (mul_ne (mul_ne h4 hb) (mul_ne h4 hb))
    · left
      exact mul_ne (mul_ne h4 ha) (mul_ne h4 ha)

end Go.Proofs.YtdojalhaklkegaaDoor.M.Ed

namespace Go.Proofs.YtdojalhaklkegaaDoor.M.Ed
set_option linter.unusedVariables false

/-! ## The ladder -/

theorem lstep_fq (u x z v w : Nat) (hz : z < Q) (hw : w < Q) :
    fq (lstep Q u x z v w).1 = (fq x + fq z) * (fq x + fq z) * ((fq x - fq z) * (fq x - fq z)) ∧
    fq (lstep Q u x z v w).2.1 = ((fq x + fq z) * (fq x + fq z) - (fq x - fq z) * (fq x - fq z)) * ((fq x + fq z) * (fq x + fq z) + 121665 * ((fq x + fq z) * (fq x + fq z) - (fq x - fq z) * (fq x - fq z))) ∧
    fq (lstep Q u x z v w).2.2.1 = ((fq v - fq w) * (fq x + fq z) + (fq v + fq w) * (fq x - fq z)) * ((fq v - fq w) * (fq x + fq z) + (fq v + fq w) * (fq x - fq z)) ∧
    fq (lstep Q u x z v w).2.2.2 = fq u * (((fq v - fq w) * (fq x + fq z) - (fq v + fq w) * (fq x - fq z)) * ((fq v - fq w) * (fq x + fq z) - (fq v + fq w) * (fq x - fq z))) := by
  have hm : ∀ n, n % Q ≤ Q := fun n => Nat.le_of_lt (Nat.mod_lt _ Q_pos8)
  have h6 : fq 121665 = 121665 := rfl
  simp only [lstep, fq_mod, fq_mul, fq_add, fq_sub _ _ (hm _), fq_sub _ _ (Nat.le_of_lt hz), fq_sub _ _ (Nat.le_of_lt hw), h6]
  exact ⟨trivial, trivial, trivial, trivial⟩

theorem lstep_lt (u x z v w : Nat) : (lstep Q u x z v w).1 < Q ∧ (lstep Q u x z v w).2.1 < Q ∧ (lstep Q u x z v w).2.2.1 < Q ∧ (lstep Q u x z v w).2.2.2 < Q :=
  ⟨Nat.mod_lt _ Q_pos8, Nat.mod_lt _ Q_pos8, Nat.mod_lt _ Q_pos8, Nat.mod_lt _ Q_pos8⟩

/-- The number of a scalar's j greatest bits (of 255). -/
def nb (ks : List UInt8) : Nat → Nat
  | 0 => 0
  | j + 1 => 2 * nb ks j + kbit ks (254 - j)

/-- A state tells two multiples. -/
def Tells (s : Nat × Nat × Nat × Nat) (p q : Pt) : Prop :=
  (s.1 < Q ∧ s.2.1 < Q ∧ s.2.2.1 < Q ∧ s.2.2.2 < Q) ∧ Rep (fq s.1) (fq s.2.1) p ∧ Rep (fq s.2.2.1) (fq s.2.2.2) q

theorem lstep_tells {u x z v w n b : Nat} (hu : fq u * (1 - (nP b).y) = 1 + (nP b).y) (hl : 1 + (nP b).y ≠ 0) (hh : 1 - (nP b).y ≠ 0) (h : Tells (x, z, v, w) (nP n) (nP (n + b))) :
    Tells (lstep Q u x z v w) (nP (n + n)) (nP (n + (n + b))) := by
  obtain ⟨⟨_, hz, _, hw⟩, h1, h2⟩ := h
  obtain ⟨e1, e2, e3, e4⟩ := lstep_fq u x z v w hz hw
  refine ⟨lstep_lt u x z v w, ?_, ?_⟩
  · rw [e1, e2, nP_add]
    exact rep_dbl (nP_on n) h1
  · rw [e3, e4, nP_add n (n + b)]
    rw [nP_add n b] at h2 ⊢
    exact rep_sum (nP_on n) (nP_on b) h1 h2 hu hl hh

theorem lstep_tells2 {u x z v w n b : Nat} (hu : fq u * (1 - (nP b).y) = 1 + (nP b).y) (hl : 1 + (nP b).y ≠ 0) (hh : 1 - (nP b).y ≠ 0) (h : Tells (x, z, v, w) (nP n) (nP (n + b))) :
    Tells (lstep Q u v w x z) (nP ((n + b) + (n + b))) (nP (n + (n + b))) := by
  obtain ⟨⟨_, hz, _, hw⟩, h1, h2⟩ := h
  obtain ⟨e1, e2, e3, e4⟩ := lstep_fq u v w x z hw hz
  refine ⟨lstep_lt u v w x z, ?_, ?_⟩
  · rw [e1, e2, nP_add (n + b)]
    exact rep_dbl (nP_on _) h2
  · rw [e3, e4, nP_add n (n + b)]
    rw [nP_add n b] at h2 ⊢
    have k := rep_sum (nP_on n) (nP_on b) h1 h2 hu hl hh
    generalize fq x = X at *
    generalize fq z = Z at *
    generalize fq v = V at *
    generalize fq w = W at *
    generalize fq u = U at *
    rw [show ((X - Z) * (V + W) + (X + Z) * (V - W)) * ((X - Z) * (V + W) + (X + Z) * (V - W)) = ((V - W) * (X + Z) + (V + W) * (X - Z)) * ((V - W) * (X + Z) + (V + W) * (X - Z)) by clear hu hl hh h1 h2 k; grobner,
      show U * (((X - Z) * (V + W) - (X + Z) * (V - W)) * ((X - Z) * (V + W) - (X + Z) * (V - W))) = U * (((V - W) * (X + Z) - (V + W) * (X - Z)) * ((V - W) * (X + Z) - (V + W) * (X - Z))) by clear hu hl hh h1 h2 k; grobner]
    exact k

theorem kbit_two (ks : List UInt8) (i : Nat) : kbit ks i = 0 ∨ kbit ks i = 1 := by
  have : kbit ks i < 2 := Nat.mod_lt _ (by decide)
  omega

theorem lad_tells (ks : List UInt8) {u b : Nat} (huQ : u < Q) (hu : fq u * (1 - (nP b).y) = 1 + (nP b).y) (hl : 1 + (nP b).y ≠ 0) (hh : 1 - (nP b).y ≠ 0) :
    ∀ j, Tells (lad Q ks u j) (nP (nb ks j * b)) (nP (nb ks j * b + b)) := by
  intro j
  induction j with
  | zero =>
    refine ⟨⟨(by decide +kernel : 1 < Q), Q_pos8, huQ, (by decide +kernel : 1 < Q)⟩, ?_, ?_⟩
    · show Rep (fq 1) (fq 0) (nP (0 * b))
      rw [Nat.zero_mul, nP, fq_one, fq_zero]
      exact rep_of (show (1 : Fq) * (1 - 1) = 0 * (1 + 1) by decide +kernel) (Or.inl (by decide +kernel))
    · show Rep (fq u) (fq 1) (nP (0 * b + b))
      rw [Nat.zero_mul, Nat.zero_add, fq_one]
      exact rep_of (by rw [hu]; clear hu hl hh; grobner) (Or.inr (by decide +kernel))
  | succ j ih =>
    obtain ⟨⟨x, z, v, w⟩, hs⟩ : ∃ s, lad Q ks u j = s := ⟨_, rfl⟩
    rw [hs] at ih
    rw [lad, hs, nb]
    rcases kbit_two ks (254 - j) with e | e
    · rw [e, show lbit Q u 0 (x, z, v, w) = lstep Q u x z v w from rfl, show (2 * nb ks j + 0) * b = nb ks j * b + nb ks j * b by rw [Nat.add_zero, Nat.two_mul, Nat.add_mul], Nat.add_assoc]
      exact lstep_tells hu hl hh ih
    · rw [e, show lbit Q u 1 (x, z, v, w) = ((lstep Q u v w x z).2.2.1, (lstep Q u v w x z).2.2.2, (lstep Q u v w x z).1, (lstep Q u v w x z).2.1) from rfl, show (2 * nb ks j + 1) * b = nb ks j * b + (nb ks j * b + b) by rw [Nat.two_mul, Nat.add_mul, Nat.add_mul, Nat.one_mul, Nat.add_assoc]]
      have k := lstep_tells2 hu hl hh ih
      obtain ⟨⟨k1, k2, k3, k4⟩, r1, r2⟩ := k
      refine ⟨⟨k3, k4, k1, k2⟩, r2, ?_⟩
      rw [show nb ks j * b + (nb ks j * b + b) + b = nb ks j * b + b + (nb ks j * b + b) by omega]
      exact r1

/-- The number that tells a point. -/
def U (p : Pt) : Nat := ((1 + p.y) * inv (1 - p.y)).val

theorem U_lt (p : Pt) : U p < Q := Fin.isLt _

theorem U_eq {p : Pt} (hh : 1 - p.y ≠ 0) : fq (U p) * (1 - p.y) = 1 + p.y := by
  have h := inv_mul hh
  rw [U, fq_of]
  generalize inv (1 - p.y) = i at *
  clear hh
  grobner

theorem ladder_eq (x z : Nat) (hz : z < Q) : x * (z ^ (Q - 2) % Q) % Q = (fq x * inv (fq z)).val := by
  have h : fq (x * (z ^ (Q - 2) % Q) % Q) = fq x * inv (fq z) := by
    rw [fq_mod, fq_mul, inv, fq_val, Nat.mod_eq_of_lt hz]
  rw [← h, fq_val, Nat.mod_mod]

theorem rep_U {X Z : Fq} {p : Pt} (h : Rep X Z p) : (X * inv Z).val = U p := by
  obtain ⟨l, hl, rfl, rfl⟩ := h
  rw [U]
  congr 1
  by_cases h1 : 1 - p.y = 0
  · rw [h1, show l * (0 : Fq) = 0 by clear h1 hl; grobner, inv_zero]
    clear h1 hl
    grobner
  · have a := inv_mul (mul_ne hl h1)
    have b := inv_mul h1
    generalize inv (l * (1 - p.y)) = i at *
    generalize inv (1 - p.y) = k at *
    clear hl h1
    grobner

/-- The ladder of what tells 9's multiple b tells the multiple by the scalar's number and b. -/
theorem ladder_U (ks : List UInt8) (b : Nat) (hl : 1 + (nP b).y ≠ 0) (hh : 1 - (nP b).y ≠ 0) : ladder Q ks (U (nP b)) = U (nP (nb ks 255 * b)) := by
  have h := lad_tells ks (U_lt (nP b)) (U_eq hh) hl hh 255
  rw [ladder]
  generalize lad Q ks (U (nP b)) 255 = s at *
  obtain ⟨x, z, v, w⟩ := s
  obtain ⟨⟨_, hz, _, _⟩, r, _⟩ := h
  show x * (z ^ (Q - 2) % Q) % Q = _
  rw [ladder_eq x z hz]
  exact rep_U r

theorem U_one : U (nP 1) = 9 := by
  rw [nP_one]
  refine fq_inj (U_lt _) (by decide +kernel) ?_
  have h1 := U_eq (p := B) B_high
  have h2 := B_nine
  have h9 : fq 9 = 9 := rfl
  rw [h9]
  have h3 : (fq (U B) - 9) * (1 - B.y) = 0 := by
    generalize fq (U B) = k at *
    grobner
  have h4 := (mul_zero h3).resolve_right B_high
  generalize fq (U B) = k at *
  clear h1 h2 h3 h9
  grobner

theorem ladder_nine (ks : List UInt8) : ladder Q ks 9 = U (nP (nb ks 255)) := by
  have h := ladder_U ks 1 (by rw [nP_one]; exact B_low) (by rw [nP_one]; exact B_high)
  rwa [U_one, Nat.mul_one] at h

/-! ## The order -/

theorem O_of_y {p : Pt} (hp : On p) (h : 1 - p.y = 0) : p = O := by
  have hc : p.x * p.x * (p.y * p.y) = g * (p.x * p.x + p.y * p.y - 1) := hp
  have hy : p.y = 1 := by clear hc; grobner
  rw [hy] at hc
  have e : p.x * (p.x * (1 - g)) = 0 := by clear h hy; grobner
  refine pt_ext ?_ hy
  show p.x = 0
  rcases mul_zero e with e1 | e1
  · exact e1
  · exact (mul_zero e1).resolve_right fun h0 => g_one (by clear e e1 hc h hy; grobner)

theorem nP_two_of_y {n : Nat} (h : 1 + (nP n).y = 0) : nP (n + n) = O := by
  have hp := nP_on n
  have hc : (nP n).x * (nP n).x * ((nP n).y * (nP n).y) = g * ((nP n).x * (nP n).x + (nP n).y * (nP n).y - 1) := hp
  have hy : (nP n).y = -1 := by clear hc; grobner
  rw [hy] at hc
  have e : (nP n).x * ((nP n).x * (1 - g)) = 0 := by clear h hy; grobner
  have hx : (nP n).x = 0 := by
    rcases mul_zero e with e1 | e1
    · exact e1
    · exact (mul_zero e1).resolve_right fun h0 => g_one (by clear e e1 hc h hy; grobner)
  rw [nP_add]
  have a1 := add_y hp hp
  rw [hx, hy] at a1
  refine O_of_y (add_on hp hp) ?_
  have hg := inv_mul g_ne
  generalize inv g = i at hg
  generalize add (nP n) (nP n) = s at *
  clear hc h hy e hx
  grobner

theorem nP_mul {m : Nat} (h : nP m = O) : ∀ k, nP (m * k) = O
  | 0 => rfl
  | k + 1 => by rw [Nat.mul_succ, nP_add, nP_mul h k, h, add_O]

theorem nP_gcd (m n : Nat) : nP m = O → nP n = O → nP (Nat.gcd m n) = O := by
  induction m, n using Nat.gcd.induction with
  | H0 n => intro _ h; rwa [Nat.gcd_zero_left]
  | H1 m n hm ih =>
    intro h1 h2
    rw [Nat.gcd_rec]
    refine ih ?_ h1
    have e : nP n = nP (n % m) := by
      conv => lhs; rw [← Nat.mod_add_div n m, nP_add, nP_mul h1, add_O]
    rw [← e]
    exact h2

theorem B_ne : B ≠ O := fun h => B_high (by rw [h]; show (1 : Fq) - 1 = 0; decide +kernel)

/-- The order of 9's point. -/
def L : Nat := 7237005577332262213973186563042994240857116359379907606001950938285454250989

theorem pr_1224481 : Pr 1224481 := pr_small _ 1110 (by decide) (by decide) (by decide +kernel)
theorem pr_531581 : Pr 531581 := pr_small _ 730 (by decide) (by decide) (by decide +kernel)
theorem pr_L1 : Pr 1257559732178653 := pr_two _ 1224481 531581 1027014492 2365697292 2 60 pr_1224481 pr_531581 (by decide +kernel) (by decide) (by decide +kernel) (by decide +kernel) (by decide +kernel) (by decide +kernel) (by decide +kernel) (by decide +kernel) (by decide +kernel)
theorem pr_L2 : Pr 4434155615661930479 := pr_one _ 1257559732178653 3526 2 64 pr_L1 (by decide) (by decide +kernel) (by decide +kernel) (by decide +kernel) (by decide +kernel) (by decide +kernel)
theorem pr_L3 : Pr 172054593956031949258510691 := pr_one _ 4434155615661930479 38802110 2 90 pr_L2 (by decide) (by decide +kernel) (by decide +kernel) (by decide +kernel) (by decide +kernel) (by decide +kernel)
theorem pr_L4 : Pr 19757330305831588566944191468367130476339 := pr_one _ 172054593956031949258510691 114831751082918 2 140 pr_L3 (by decide) (by decide +kernel) (by decide +kernel) (by decide +kernel) (by decide +kernel) (by decide +kernel)
theorem pr_L5 : Pr 276602624281642239937218680557139826668747 := pr_one _ 19757330305831588566944191468367130476339 14 2 140 pr_L4 (by decide) (by decide +kernel) (by decide +kernel) (by decide +kernel) (by decide +kernel) (by decide +kernel)
theorem L_prime : Pr L := pr_one _ 276602624281642239937218680557139826668747 26163907866482859529727157400808004 2 256 pr_L5 (by decide +kernel) (by decide +kernel) (by decide +kernel) (by decide +kernel) (by decide +kernel) (by decide +kernel)

/-- Its bytes. -/
def Lb : List UInt8 := [237, 211, 245, 92, 26, 99, 18, 88, 214, 156, 247, 162, 222, 249, 222, 20, 0, 0, 0, 0, 0, 0, 0, 0, 0, 0, 0, 0, 0, 0, 0, 16]

theorem nb_Lb : nb Lb 255 = L := by decide +kernel

theorem lad_Lb : (lad Q Lb 9 255).2.1 = 0 := by decide +kernel

theorem nP_L : nP L = O := by
  have h := lad_tells Lb (u := U (nP 1)) (b := 1) (U_lt _) (U_eq (by rw [nP_one]; exact B_high)) (by rw [nP_one]; exact B_low) (by rw [nP_one]; exact B_high) 255
  rw [nb_Lb, Nat.mul_one, U_one] at h
  obtain ⟨_, ⟨l, hl, _, e⟩, _⟩ := h
  rw [lad_Lb, fq_zero] at e
  exact O_of_y (nP_on L) ((mul_zero e.symm).resolve_left hl)

/-- A multiple by a number that is none of the order's isn't the point that changes nothing. -/
theorem nP_ne {n : Nat} (h : ¬ L ∣ n) : nP n ≠ O := by
  intro h0
  have := nP_gcd L n nP_L h0
  rw [L_prime.coprime h, nP_one] at this
  exact B_ne this

theorem high_of {n : Nat} (h : ¬ L ∣ n) : 1 - (nP n).y ≠ 0 := fun h0 => nP_ne h (O_of_y (nP_on n) h0)

theorem low_of {n : Nat} (h : ¬ L ∣ n) : 1 + (nP n).y ≠ 0 := by
  intro h0
  have h2 : ¬ L ∣ n + n := by
    rw [← Nat.two_mul]
    intro hd
    exact h (L_prime.euclid hd (by decide +kernel))
  exact nP_ne h2 (nP_two_of_y h0)

theorem U_ne {n : Nat} (h : ¬ L ∣ n) : U (nP n) ≠ 0 := by
  intro h0
  have h1 := U_eq (high_of h)
  rw [h0, fq_zero] at h1
  exact low_of h (by rw [← h1]; clear h0 h1; grobner)

/-- The ladder's order doesn't matter. -/
theorem ladder_twice (ks ls : List UInt8) (hk : ¬ L ∣ nb ks 255) : ladder Q ls (ladder Q ks 9) = U (nP (nb ls 255 * nb ks 255)) := by
  rw [ladder_nine ks]
  exact ladder_U ls _ (low_of hk) (high_of hk)

theorem nb_le (ks : List UInt8) (j : Nat) : nb ks j < 2 ^ j := by
  induction j with
  | zero => exact Nat.one_pos
  | succ j ih =>
    rw [nb, Nat.pow_succ]
    rcases kbit_two ks (254 - j) with e | e <;> rw [e] <;> omega

theorem nb_pos {ks : List UInt8} (h : kbit ks 254 = 1) (j : Nat) : 0 < nb ks (j + 1) := by
  induction j with
  | zero => rw [nb, nb, h]; decide
  | succ j ih => rw [nb]; omega

/-- A clamped scalar's number is none of the order's. -/
theorem nb_no {ks : List UInt8} (h0 : kbit ks 0 = 0) (h1 : kbit ks 1 = 0) (h2 : kbit ks 2 = 0) (h3 : kbit ks 254 = 1) : ¬ L ∣ nb ks 255 := by
  have e : nb ks 255 = 8 * nb ks 252 := by
    rw [show nb ks 255 = 2 * (2 * (2 * nb ks 252 + kbit ks (254 - 252)) + kbit ks (254 - 253)) + kbit ks (254 - 254) from rfl, h0, h1, h2]
    omega
  rw [e]
  intro hd
  have h8 : ¬ L ∣ 8 := by decide +kernel
  have hd2 := L_prime.euclid hd h8
  have h5 := nb_le ks 252
  have h6 : 0 < nb ks 252 := nb_pos h3 251
  have h7 := Nat.le_of_dvd h6 hd2
  have h9 : 2 ^ 252 < L := by decide +kernel
  omega

end Go.Proofs.YtdojalhaklkegaaDoor.M.Ed

set_option maxRecDepth 100000
namespace Go.Proofs.YtdojalhaklkegaaDoor
open Go.RowKit
set_option linter.unusedVariables false

/-- The ladder's state lies in block g, u in front of it. -/
def LadIs (Fe : List Value → Nat → Prop) (w : World) (g u : Nat) (s : Nat × Nat × Nat × Nat) : Prop :=
  ∃ A B C D E : List Value, LadB w g A B C D E ∧ Fe A u ∧ Fe B s.1 ∧ Fe C s.2.1 ∧ Fe D s.2.2.1 ∧ Fe E s.2.2.2

/-- A state changed about, if the bit is 1. -/
def M.turn (b : Nat) (s : Nat × Nat × Nat × Nat) : Nat × Nat × Nat × Nat :=
  ((if b % 2 = 1 then s.2.2.1 else s.1), (if b % 2 = 1 then s.2.2.2 else s.2.1), (if b % 2 = 1 then s.1 else s.2.2.1), (if b % 2 = 1 then s.2.1 else s.2.2.2))

def M.stp (q u : Nat) (s : Nat × Nat × Nat × Nat) : Nat × Nat × Nat × Nat := M.lstep q u s.1 s.2.1 s.2.2.1 s.2.2.2

theorem M.turn_bit (q u b k : Nat) (h : b % 2 = k) (s : Nat × Nat × Nat × Nat) : M.turn b (M.stp q u (M.turn b s)) = M.lbit q u k s := by
  obtain ⟨x, z, v, y⟩ := s
  have h2 : k = 0 ∨ k = 1 := by omega
  rcases h2 with rfl | rfl
  · simp only [M.turn, h, if_neg (show ¬ (0 = 1) by decide)]
    rfl
  · simp only [M.turn, h, if_true]
    rfl

theorem swap_is {Fe : List Value → Nat → Prop} (F : FieldOk Fe) (g b u : Nat) (s : Nat × Nat × Nat × Nat) (w : World) (h : LadIs Fe w g u s) (hb : b < 18446744073709551616) :
    Calls Tryd.prog 59 #[.pointer (some ⟨g, 0, none⟩), .int .u64 (b : Int)] w fun e w' => e = .returned (.tuple #[]) ∧ Only g w w' ∧ LadIs Fe w' g u (M.turn b s) := by
  obtain ⟨A, B, C, D, E, hL, hA, hB, hC, hD, hE⟩ := h
  refine (cswap_any F g A B C D E b _ _ _ _ w hL hb hB hC hD hE).mono ?_
  rintro e w' ⟨h1, h2, B', C', D', E', hL', hB', hC', hD', hE'⟩
  exact ⟨h1, h2, A, B', C', D', E', hL', hA, hB', hC', hD', hE'⟩

theorem step_is {Fe : List Value → Nat → Prop} (F : FieldOk Fe) (g u : Nat) (s : Nat × Nat × Nat × Nat) (w : World) (h : LadIs Fe w g u s) :
    Calls Tryd.prog 60 #[.pointer (some ⟨g, 0, none⟩)] w fun e w' => e = .returned (.tuple #[]) ∧ Only g w w' ∧ LadIs Fe w' g u (M.stp M.Q u s) := by
  obtain ⟨A, B, C, D, E, hL, hA, hB, hC, hD, hE⟩ := h
  refine (step_any F g A B C D E u _ _ _ _ w hL hA hB hC hD hE).mono ?_
  rintro e w' ⟨h1, h2, B', C', D', E', hL', hB', hC', hD', hE'⟩
  exact ⟨h1, h2, A, B', C', D', E', hL', hA, hB', hC', hD', hE'⟩

set_option maxHeartbeats 4000000 in
theorem climb_any {Fe : List Value → Nat → Prop} (F : FieldOk Fe) (g u : Nat) (kv : Value) (ks : List UInt8) (w : World) (hL : LadIs Fe w g u (1, 0, u, 1)) (hk : IsB w kv ks) (hkl : ks.length = 32) (hoff : Off kv g) :
    Calls Tryd.prog 31 #[.pointer (some ⟨g, 0, none⟩), kv] w fun e w' => e = .returned (.tuple #[]) ∧ Only g w w' ∧ LadIs Fe w' g u (M.lad M.Q ks u 255) := by
  have CSW : Hid (∀ (b : Nat) s w, LadIs Fe w g u s → b < 18446744073709551616 → Calls Tryd.prog 59 #[.pointer (some ⟨g, 0, none⟩), .int .u64 (b : Int)] w fun e w' => e = .returned (.tuple #[]) ∧ Only g w w' ∧ LadIs Fe w' g u (M.turn b s)) := fun b s w h hb => swap_is F g b u s w h hb
  have CST : Hid (∀ s w, LadIs Fe w g u s → Calls Tryd.prog 60 #[.pointer (some ⟨g, 0, none⟩)] w fun e w' => e = .returned (.tuple #[]) ∧ Only g w w' ∧ LadIs Fe w' g u (M.stp M.Q u s)) := fun s w h => step_is F g u s w h
  obtain ⟨ao, cap, rfl, h1, h2, hat⟩ := hk
  obtain ⟨kb, ko, rfl, hc⟩ : ∃ b off, ao = some ⟨b, off, none⟩ ∧ ∀ i, i < ks.length → w.cell? ⟨b, off + i, none⟩ = some (.int .u8 ((ks.getD i 0).toNat : Int)) := by
    rcases hat with h | h
    · rw [h] at hkl; simp at hkl
    · exact h
  have hne : kb ≠ g := hoff _ _ _ rfl (by omega)
  have HC : Hid (∀ W, Only g w W → ∀ i, i < 32 → W.cell? ⟨kb, ko + i, none⟩ = some (.int .u8 ((ks.getD i 0).toNat : Int))) := by
    intro W kW i hi
    exact kW.cell (hc i (by omega)) (by intro e; injection e with e; exact hne e)
  rw [hkl]
  have L0 : Hid (LadIs Fe w g u (M.lad M.Q ks u 0)) := hL
  clear hkl hat hc h1 h2 F hL hoff hne
  go_enter Tryd.func31, Tryd.ntmps31
  go_wp2
  go_loopw [7] (fun i wr => ∃ j : Nat, j ≤ 255 ∧ i = .int .i64 (j : Int) ∧ Hid (LadIs Fe wr g u (M.lad M.Q ks u j)) ∧ Hid (Only g w wr))
    (fun i _ => 255 - (intOf i).toNat)
  case atStart => exact ⟨0, by omega, rfl, L0, Only.refl g w⟩
  case round =>
    clear L0
    obtain ⟨wz, rfl⟩ : ∃ x, x = wr := ⟨_, rfl⟩
    obtain ⟨j, hj, rfl, hlad, kk⟩ := hrel
    by_cases hlt : j < 255
    · obtain ⟨p, hp⟩ : ∃ p, p = 254 - j := ⟨_, rfl⟩
      have c0 : (j : Int) < 255 := by omega
      have c1 : (254 - (j : Int)) = (p : Int) := by omega
      obtain ⟨pq, hpq⟩ : ∃ v, v = p / 8 := ⟨_, rfl⟩
      obtain ⟨pr, hpr⟩ : ∃ v, v = p % 8 := ⟨_, rfl⟩
      have hpq32 : pq < 32 := by omega
      have hpr8 : pr < 8 := by omega
      obtain ⟨by_, hby⟩ : ∃ v, v = (ks.getD pq 0).toNat := ⟨_, rfl⟩
      have hb256 : by_ < 256 := by rw [hby]; exact UInt8.toNat_lt _
      obtain ⟨sh, hsh⟩ : ∃ v, v = by_ / 2 ^ pr := ⟨_, rfl⟩
      have HSH : Hid (sh < 256) := by rw [hsh]; exact Nat.lt_of_le_of_lt (Nat.div_le_self _ _) hb256
      have HBIT : Hid (sh % 2 = M.kbit ks (254 - j)) := by rw [Hid, M.kbit, hsh, hby, hpq, hpr, hp]
      have ck := HC.out wz kk.out pq hpq32
      rw [← hby] at ck
      have t1 : (p : Int).tdiv 8 = (pq : Int) := by rw [Int.tdiv_eq_ediv_of_nonneg (by omega)]; omega
      have t1' : (p : Int) / 8 = (pq : Int) := by omega
      have t2 : (p : Int).tmod 8 = (pr : Int) := by rw [Int.tmod_eq_emod_of_nonneg (by omega)]; omega
      have t2' : (p : Int) % 8 = (pr : Int) := by omega
      have t3 : ((by_ : Int) / 2 ^ pr) = (sh : Int) := by rw [hsh, Int.natCast_ediv, Int.natCast_pow]; rfl
      have t4 : IntKind.u64.wrap (sh : Int) = (sh : Int) := by rw [IntKind.wrap_u64]; have := HSH.out; omega
      have t4' : (sh : Int) % 18446744073709551616 = (sh : Int) := by have := HSH.out; omega
      have HJ : Hid (j < 255) := hlt
      have S64 : Hid (sh < 18446744073709551616) := by have := HSH.out; rw [Hid]; omega
      clear hp hpq hpr hby hj hlt hsh hb256
      go_wp2_with fail
      refine (CSW.out sh _ wz hlad.out S64.out).mono ?_
      rintro e w1 ⟨rfl, o1, l1⟩
      have O1 : Hid (Only g w w1) := kk.out.trans o1
      have L1 := Lib.hid l1
      clear o1 l1 ck
      go_wp2_with fail
      refine (CST.out _ w1 L1.out).mono ?_
      rintro e w2 ⟨rfl, o2, l2⟩
      have O2 : Hid (Only g w w2) := O1.out.trans o2
      have L2 := Lib.hid l2
      clear o2 l2
      go_wp2_with fail
      refine (CSW.out sh _ w2 L2.out S64.out).mono ?_
      rintro e w3 ⟨rfl, o3, l3⟩
      have O3 : Hid (Only g w w3) := O2.out.trans o3
      rw [M.turn_bit M.Q u sh _ HBIT.out] at l3
      have L3 : Hid (LadIs Fe w3 g u (M.lad M.Q ks u (j + 1))) := l3
      clear o3 l3
      go_wp2
      go_roundw
      case rel => exact ⟨j + 1, by have := HJ.out; omega, by have h2 := HJ.out; go_num, L3, O3⟩
      case measure => have h2 := HJ.out; simp [intOf]; omega
    · obtain rfl : j = 255 := by omega
      clear hlt hj
      go_wp2
      go_end0
      exact ⟨rfl, kk.out, hlad.out⟩

end Go.Proofs.YtdojalhaklkegaaDoor

namespace Go.Proofs.YtdojalhaklkegaaDoor
open Go.RowKit
set_option linter.unusedVariables false

namespace M
theorem le_zero8 : le 0 32 = List.replicate 32 0 := by decide +kernel
theorem gl_zero8 : gl (List.replicate 32 0) 32 = 0 := by decide +kernel
theorem Q_256 : Q < 256 ^ 32 := by decide +kernel

theorem le_is_zero {x : Nat} (hx : x < Q) : le x 32 = List.replicate 32 0 ↔ x = 0 := by
  constructor
  · intro h
    have h1 := gl_of_le x 32 (by have := Q_256; omega)
    rw [h, gl_zero8] at h1
    exact h1.symm
  · rintro rfl
    exact le_zero8
end M

theorem climbed {Fe : List Value → Nat → Prop} {w : World} {g u : Nat} {s : Nat × Nat × Nat × Nat} (h : LadIs Fe w g u s) : ∃ A B C D E : List Value, LadB w g A B C D E ∧ Fe B s.1 ∧ Fe C s.2.1 := by
  obtain ⟨A, B, C, D, E, hL, _, hB, hC, _⟩ := h
  exact ⟨A, B, C, D, E, hL, hB, hC⟩

theorem told_is {Fe : List Value → Nat → Prop} (F : FieldOk Fe) (g u : Nat) (ks : List UInt8) (w : World) (h : LadIs Fe w g u (M.lad M.Q ks u 255)) :
    Calls Tryd.prog 32 #[.pointer (some ⟨g, 0, none⟩)] w (GivesE Fe w (M.ladder M.Q ks u)) := by
  obtain ⟨A, B, C, D, E, hL, hB, hC⟩ := climbed h
  have := told_any F g A B C D E _ _ w hL hB hC
  rw [M.ladder]
  exact this

set_option maxRecDepth 100000 in
set_option maxHeartbeats 4000000 in
theorem shared_any {Fe : List Value → Nat → Prop} (F : FieldOk Fe) (kv pv : Value) (ks ps : List UInt8) (w : World) (hk : IsB w kv ks) (hp : IsB w pv ps) (hkl : ks.length = 32) (hpl : ps.length = 32) :
    Calls Tryd.prog 14 #[kv, pv] w fun e w' => (M.secret ks ps = 0 → Refuses w 10 e w') ∧ (¬ M.secret ks ps = 0 → MakesOk w (M.le (M.secret ks ps) 32) e w') := by
  obtain ⟨x, hx⟩ : ∃ x, Hid (x = M.secret ks ps) := ⟨_, rfl⟩
  have HXQ : Hid (x < M.Q) := by rw [hx.out]; exact M.ladder_lt _ _
  obtain ⟨u, hu⟩ : ∃ u, Hid (M.told ps % M.Q = u) := ⟨_, rfl⟩
  obtain ⟨cs, hcs⟩ : ∃ cs, Hid (cs = M.clampB ks) := ⟨_, rfl⟩
  have HCL : Hid (cs.length = 32) := by rw [Hid, hcs.out, M.clampB_length]; exact hkl
  have HX : Hid (M.ladder M.Q cs u = x) := by rw [Hid, hx.out, M.secret, hcs.out, hu.out]
  rw [← hx.out]
  have HP := Lib.hid hp
  have FL : Hid (∀ {L n}, Fe L n → L.length = 5 ∧ ∀ u ∈ L, u.oneCell' = true) := fun h => ⟨F.len h, F.one h⟩
  have CC : Hid (Calls Tryd.prog 28 #[kv] w (MakesOk w cs)) := by rw [hcs.out]; exact clamp_any kv ks w hk hkl
  have CF : Hid (∀ w, IsB w pv ps → Calls Tryd.prog 30 #[pv] w (GivesE Fe w u)) := fun w h => by rw [← hu.out]; exact F.from_ pv ps w h
  have CB : Hid (∀ A w, Fe A u → Calls Tryd.prog 29 #[.agg A.toArray] w fun e w' => ∃ B C D : List Value, e = .returned (.agg (A ++ (B ++ (C ++ (A ++ D)))).toArray) ∧ Fe B 1 ∧ Fe C 0 ∧ Fe D 1 ∧ Below w.heap.size w w') := fun A w h => begun_any F A u w h
  have CL : Hid (∀ g kv w, LadIs Fe w g u (1, 0, u, 1) → IsB w kv cs → Off kv g → Calls Tryd.prog 31 #[.pointer (some ⟨g, 0, none⟩), kv] w fun e w' => e = .returned (.tuple #[]) ∧ Only g w w' ∧ LadIs Fe w' g u (M.lad M.Q cs u 255)) := fun g kv w h1 h2 h3 => climb_any F g u kv cs w h1 h2 HCL.out h3
  have CT : Hid (∀ g w, LadIs Fe w g u (M.lad M.Q cs u 255) → Calls Tryd.prog 32 #[.pointer (some ⟨g, 0, none⟩)] w (GivesE Fe w x)) := fun g w h => by rw [← HX.out]; exact told_is F g u cs w h
  obtain ⟨bs, hbs⟩ : ∃ bs, Hid (bs = M.le x 32) := ⟨_, rfl⟩
  have HBL : Hid (bs.length = 32) := by rw [hbs.out, Hid, M.le_length]
  have CY : Hid (∀ L w, Fe L x → Calls Tryd.prog 33 #[.agg L.toArray] w (Makes w bs)) := fun L w h => by rw [hbs.out]; exact F.bytes_ L x w h
  have HB0 : Hid (bs = List.replicate 32 0 ↔ x = 0) := by rw [hbs.out]; exact M.le_is_zero HXQ.out
  rw [← hbs.out]
  obtain ⟨ZC, hZC⟩ := make_run 32 (by decide)
  have hmk : ∀ w : World, (Instr.makeSlice 24 (.int .i64 32) (.int .i64 32)).run Tryd.prog w = .ok (.slice (some ⟨w.heap.size, 0, none⟩) 32 32) (w.alloc (.cells ZC 5)) := fun w => (hZC w).1
  have HMK : Hid (∀ w : World, Own (w.alloc (.cells ZC 5)) w.heap.size (.slice (some ⟨w.heap.size, 0, none⟩) 32 32) (List.replicate 32 0)) := fun w => (hZC w).2
  obtain ⟨ao, cap, rfl⟩ := hk.shape
  obtain ⟨ap, cap2, rfl⟩ := hp.shape
  rw [hkl] at CC ⊢
  rw [hpl] at HP CF ⊢
  clear hk hp hkl hpl hcs hx hu F HX HXQ hZC hbs
  go_enter Tryd.func14, Tryd.ntmps14
  go_wp2_with fail
  refine CC.out.mono ?_
  rintro e w1 ⟨r1, rfl, o1, k1⟩
  have I1 := Lib.hid o1.isB
  have K1 := Lib.hid k1
  clear o1 k1 CC
  go_wp2_with fail
  refine (CF.out w1 (HP.out.below K1.out)).mono ?_
  rintro e w2 ⟨A, rfl, hA, k2⟩
  have HA := Lib.hid hA
  have I2 := Lib.hid (I1.out.below k2)
  have K2 : Hid (Below w.heap.size w w2) := K1.out.trans (k2.mono K1.out.size)
  clear hA k2 I1 K1 CF HP
  go_wp2_with fail
  refine (CB.out A w2 HA.out).mono ?_
  rintro e w3 ⟨B, C, D, rfl, hB, hC, hD, k3⟩
  have K3 : Hid (Below w.heap.size w w3) := K2.out.trans (k3.mono K2.out.size)
  have I3 := Lib.hid (I2.out.below k3)
  obtain ⟨R, hR⟩ : ∃ R, Hid (R = A ++ (B ++ (C ++ (A ++ D)))) := ⟨_, rfl⟩
  rw [← hR.out]
  have HLN : Hid (R.length = 25) := by rw [hR.out]; simp only [Hid, List.length_append, (FL.out HA.out).1, (FL.out hB).1, (FL.out hC).1, (FL.out hD).1]
  have HON : Hid (∀ v ∈ R, v.oneCell' = true) := by
    rw [hR.out]
    intro v hv
    simp only [List.mem_append] at hv
    rcases hv with h | h | h | h | h
    · exact (FL.out HA.out).2 v h
    · exact (FL.out hB).2 v h
    · exact (FL.out hC).2 v h
    · exact (FL.out HA.out).2 v h
    · exact (FL.out hD).2 v h
  have HST : Hid (∀ w g, Blk w g 64 R → LadIs Fe w g u (1, 0, u, 1)) := by
    intro w g h
    rw [hR.out] at h
    exact ⟨A, B, C, A, D, ⟨h, (FL.out HA.out).1, (FL.out hB).1, (FL.out hC).1, (FL.out HA.out).1, (FL.out hD).1⟩, HA.out, hB, hC, HA.out, hD⟩
  obtain ⟨g, hg⟩ : ∃ v, v = w3.heap.size := ⟨_, rfl⟩
  have N6 : Blk (w3.alloc (.cells (z5 ++ (z5 ++ (z5 ++ (z5 ++ z5)))).toArray 64)) g 64 (z5 ++ (z5 ++ (z5 ++ (z5 ++ z5)))) := Blk.newAt _ _ _ _ _ hg rfl
  have ez : (z5 ++ (z5 ++ (z5 ++ (z5 ++ z5)))).toArray = #[Value.int .u64 0, Value.int .u64 0, Value.int .u64 0, Value.int .u64 0, Value.int .u64 0, Value.int .u64 0, Value.int .u64 0, Value.int .u64 0, Value.int .u64 0, Value.int .u64 0, Value.int .u64 0, Value.int .u64 0, Value.int .u64 0, Value.int .u64 0, Value.int .u64 0, Value.int .u64 0, Value.int .u64 0, Value.int .u64 0, Value.int .u64 0, Value.int .u64 0, Value.int .u64 0, Value.int .u64 0, Value.int .u64 0, Value.int .u64 0, Value.int .u64 0] := rfl
  clear hB hC hD k3 I2 K2 HA CB hR
  go_upto_region 5 with (rw [← ez, ← hg]; refine wpList_store_blk rfl 64 (.tmp 8) (.tmp 24) rfl g R.toArray rfl rfl 64 (z5 ++ (z5 ++ (z5 ++ (z5 ++ z5)))) N6 (by rw [List.size_toArray, HLN.out]; kernel_rfl) (by rw [List.size_toArray, HLN.out]; rfl) HON.out ?_; intro w4 hb4 ho4)
  have L4 : Hid (LadIs Fe w4 g u (1, 0, u, 1)) := HST.out _ _ hb4
  have k4 : Below w3.heap.size w3 w4 := ((Below.refl _ _).alloc (Nat.le_refl _) _).trans (ho4.below (by simp) (by omega))
  have HOF : Hid (Off r1 g) := I3.out.off (by omega)
  have I4 := Lib.hid (I3.out.below k4)
  have K4 : Hid (Below w.heap.size w w4) := K3.out.trans (k4.mono K3.out.size)
  have HGW : Hid (w.heap.size ≤ g) := by rw [Hid, hg]; exact K3.out.size
  clear hb4 ho4 N6 hg K3 k4 I3 ez HST HLN HON
  go_wp2_with fail
  refine (CL.out g r1 w4 L4.out I4.out HOF.out).mono ?_
  rintro e w5 ⟨rfl, o5, l5⟩
  have L5 := Lib.hid l5
  have K5 : Hid (Below w.heap.size w w5) := K4.out.trans (o5.below K4.out.size HGW.out)
  clear o5 l5 L4 I4 K4 CL HOF
  go_wp2_with fail
  refine (CT.out g w5 L5.out).mono ?_
  rintro e w6 ⟨X, rfl, hX, k6⟩
  have K6 : Hid (Below w.heap.size w w6) := K5.out.trans (k6.mono K5.out.size)
  have D6 := Lib.hid (CY.out X w6 hX)
  clear hX k6 L5 K5 CT CY
  go_wp2_with fail
  refine D6.out.mono ?_
  rintro e w7 ⟨r7, rfl, o7, k7⟩
  have K7 : Hid (Below w.heap.size w w7) := K6.out.trans (k7.mono K6.out.size)
  have O7 := Lib.hid (o7.mono K6.out.size)
  have I7 := Lib.hid o7.isB
  clear D6 k7 o7
  go_wp2_with fail
  have z7 := (HMK.out w7).isB
  have kz : Below w7.heap.size w7 (w7.alloc (.cells ZC 5)) := (Below.refl _ _).alloc (Nat.le_refl _) _
  refine (wequal_b r7 _ bs (List.replicate 32 0) _ (I7.out.below kz) z7).mono ?_
  rintro e w8 ⟨rfl, k8⟩
  have kk : Below w7.heap.size w7 w8 := kz.trans (k8.mono kz.size)
  have K8 : Hid (Below w.heap.size w w8) := K7.out.trans (kk.mono K7.out.size)
  have O8 : Hid (Own w8 w.heap.size r7 bs) := O7.out.below kk
  clear hmk HMK z7 kz k8 I7 O7 kk K7 K6
  by_cases h0 : x = 0
  · have hb : decide (bs = List.replicate 32 0) = true := decide_eq_true (HB0.out.2 h0)
    rw [hb]
    have H0 := Lib.hid h0
    clear hb h0
    go_wp2
    go_ret2
    exact ⟨fun _ => ⟨rfl, K8.out⟩, fun h => absurd H0.out h⟩
  · have hb : decide (bs = List.replicate 32 0) = false := decide_eq_false fun h => h0 (HB0.out.1 h)
    rw [hb]
    have H0 := Lib.hid h0
    clear hb h0
    go_wp2
    go_ret2
    exact ⟨fun h => absurd h H0.out, fun _ => ⟨r7, rfl, O8.out, K8.out⟩⟩

end Go.Proofs.YtdojalhaklkegaaDoor

namespace Go.Proofs.YtdojalhaklkegaaDoor.M
set_option linter.unusedVariables false

theorem clamp_0 (ks : List UInt8) (h : ks.length = 32) : ((clampB ks).getD 0 0).toNat = (ks.getD 0 0).toNat / 8 * 8 := by
  rw [clampB, List.getD_eq_getElem?_getD, List.getElem?_set_ne (by decide), List.getElem?_set_self (by omega), Option.getD_some]
  exact of_nat8 _ (by have := (ks.getD 0 0).toNat_lt; omega)

theorem clamp_31 (ks : List UInt8) (h : ks.length = 32) : ((clampB ks).getD 31 0).toNat = (ks.getD 31 0).toNat % 64 + 64 := by
  rw [clampB, List.getD_eq_getElem?_getD, List.getElem?_set_self (by rw [List.length_set]; omega), Option.getD_some]
  exact of_nat8 _ (by omega)

theorem clamp_no (ks : List UInt8) (h : ks.length = 32) : ¬ Ed.L ∣ Ed.nb (clampB ks) 255 := by
  refine Ed.nb_no ?_ ?_ ?_ ?_
  · rw [kbit, show 0 / 8 = 0 from rfl, show 2 ^ (0 % 8) = 1 from rfl, clamp_0 ks h]; omega
  · rw [kbit, show 1 / 8 = 0 from rfl, show 2 ^ (1 % 8) = 2 from rfl, clamp_0 ks h]; omega
  · rw [kbit, show 2 / 8 = 0 from rfl, show 2 ^ (2 % 8) = 4 from rfl, clamp_0 ks h]; omega
  · rw [kbit, show 254 / 8 = 31 from rfl, show 2 ^ (254 % 8) = 64 from rfl, clamp_31 ks h]; omega

/-- A scalar's point is never 0. -/
theorem point_ne (ks : List UInt8) (h : ks.length = 32) : ¬ point ks = 0 := by
  rw [point, Ed.ladder_nine]
  exact Ed.U_ne (clamp_no ks h)

end Go.Proofs.YtdojalhaklkegaaDoor.M

namespace Go.Proofs.YtdojalhaklkegaaDoor
open Go.RowKit
set_option linter.unusedVariables false

namespace M
def nine : List UInt8 := 9 :: List.replicate 31 0
theorem told_nine : told nine % Q = 9 := by decide +kernel
theorem secret_nine (ks : List UInt8) : secret ks nine = point ks := by rw [secret, point, told_nine]
end M

theorem isB_nine {w : World} {g : Nat} (h : Blk w g 22 (Lib.byteCells M.nine)) : IsB w (.slice (some ⟨g, 0, none⟩) 32 32) M.nine := blk_part (bs := M.nine) h 0 (by decide)

def zb32 : List Value := List.replicate 32 (.int .u8 0)
theorem zb32_arr : zb32.toArray = #[Value.int .u8 0, Value.int .u8 0, Value.int .u8 0, Value.int .u8 0, Value.int .u8 0, Value.int .u8 0, Value.int .u8 0, Value.int .u8 0, Value.int .u8 0, Value.int .u8 0, Value.int .u8 0, Value.int .u8 0, Value.int .u8 0, Value.int .u8 0, Value.int .u8 0, Value.int .u8 0, Value.int .u8 0, Value.int .u8 0, Value.int .u8 0, Value.int .u8 0, Value.int .u8 0, Value.int .u8 0, Value.int .u8 0, Value.int .u8 0, Value.int .u8 0, Value.int .u8 0, Value.int .u8 0, Value.int .u8 0, Value.int .u8 0, Value.int .u8 0, Value.int .u8 0, Value.int .u8 0] := rfl
theorem zb32_len : zb32.length = 32 := List.length_replicate
theorem nine_len : (Lib.byteCells M.nine).length = 32 := rfl
theorem nine_one : ∀ v ∈ Lib.byteCells M.nine, v.oneCell' = true := by decide +kernel

/-- A new array of 32 bytes. -/
theorem wpList_alloc_b32 {ops : Array Oper} {rest : List Oper} {o : Oper} {a : Act} {w : World} {Q : Exit → Act → World → Prop} (hgd : o.guard = none) (ho : o.op = .alloc 22)
    (h : ∀ w' gd, gd = w.heap.size → Blk w' gd 22 zb32 → Below w.heap.size w w' → wpList Tryd.prog ops Q rest (a.put o.dst (.pointer (some ⟨gd, 0, none⟩))) w') : wpList Tryd.prog ops Q (o :: rest) a w := by
  refine wpList_plain hgd fun K hK => ?_
  have := hK _ _ (h (w.alloc (.cells zb32.toArray 22)) w.heap.size rfl (Blk.newAt _ _ _ _ _ rfl rfl) ((Below.refl _ _).alloc (Nat.le_refl _) _))
  clear h hK
  rw [zb32_arr] at this
  unfold Oper.wp execOp
  simp only [ho]
  go_simp
  exact this

/-- '[32]byte{9}'. -/
theorem built_nine {o : Oper} {a : Act} (w : World) (ho : o.op = .build 22 #[(0, .const (.int .u8 9))]) : (execOp a.eval o).run Tryd.prog w = .ok (.value (.agg (Lib.byteCells M.nine).toArray)) w := by
  unfold execOp
  simp only [ho]
  simp only [List.map_toArray, List.map_cons, List.map_nil, Act.eval]
  rw [Sem.run_bind, run_build (P := Tryd.prog) w _ _ (Lib.byteCells M.nine).toArray (by kernel_rfl)]
  rfl

/-- Public's array lies in a block. -/
theorem nine_laid {Q : Exit → Act → World → Prop} {ops : Array Oper} {o1 o2 o3 : Oper} {a : Act} {w : World} (h1 : o1.op = .build 22 #[(0, .const (.int .u8 9))]) (h2 : o2.op = .alloc 22) (h3 : o3.op = .store 22 (.tmp 4) (.tmp 5))
    (g1 : o1.guard = none) (g2 : o2.guard = none) (g3 : o3.guard = none) (d1 : o1.dst = some 5) (d2 : o2.dst = some 4) (d3 : o3.dst = none) (hs : a.tmps.size = 11)
    (h : ∀ w' g v, g = w.heap.size → Blk w' g 22 (Lib.byteCells M.nine) → Below w.heap.size w w' → Q .normal ((a.put (some 5) v).put (some 4) (.pointer (some ⟨g, 0, none⟩))) w') : wpList Tryd.prog ops Q [o1, o2, o3] a w := by
  refine wpList_valueL g1 _ (built_nine w h1) ?_
  refine wpList_alloc_b32 g2 h2 ?_
  intro w1 g hg hb hk
  rw [d1, d2]
  have e4 : ((a.put (some 5) (.agg (Lib.byteCells M.nine).toArray)).put (some 4) (.pointer (some ⟨g, 0, none⟩))).eval (.tmp 4) = .pointer (some ⟨g, 0, none⟩) := by simp [Act.eval, Act.put, hs]
  have e5 : ((a.put (some 5) (.agg (Lib.byteCells M.nine).toArray)).put (some 4) (.pointer (some ⟨g, 0, none⟩))).eval (.tmp 5) = .agg (Lib.byteCells M.nine).toArray := by simp [Act.eval, Act.put, hs]
  refine wpList_store_blk g3 22 (.tmp 4) (.tmp 5) h3 g (Lib.byteCells M.nine).toArray e4 e5 22 zb32 hb (by rw [List.size_toArray, nine_len]; kernel_rfl) (by rw [List.size_toArray, nine_len, zb32_len]) nine_one ?_
  intro w2 hb2 ho2
  rw [d3]
  refine wpList_nil ?_
  exact h w2 g _ hg hb2 (hk.trans (ho2.below hk.size (by omega)))

set_option maxRecDepth 100000 in
set_option maxHeartbeats 2000000 in
theorem publicOk_any {Fe : List Value → Nat → Prop} (F : FieldOk Fe) (kv : Value) (ks : List UInt8) (w : World) (hk : IsB w kv ks) (hkl : ks.length = 32) :
    Calls Tryd.prog 13 #[kv] w (MakesOk w (M.le (M.point ks) 32)) := by
  have hp : ¬ M.secret ks M.nine = 0 := by rw [M.secret_nine]; exact M.point_ne ks hkl
  have CS : Hid (∀ W pv, IsB W kv ks → IsB W pv M.nine → Calls Tryd.prog 14 #[kv, pv] W (MakesOk W (M.le (M.point ks) 32))) := by
    intro W pv h1 h2
    refine (shared_any F kv pv ks M.nine W h1 h2 hkl rfl).mono ?_
    intro e w' h
    have := h.2 hp
    rwa [M.secret_nine] at this
  obtain ⟨x, hx⟩ : ∃ x, Hid (x = M.le (M.point ks) 32) := ⟨_, rfl⟩
  rw [← hx.out] at CS ⊢
  have HK := Lib.hid hk
  clear hp hx hk hkl F
  go_enter Tryd.func13, Tryd.ntmps13
  go_upto_region 1 with fail
  refine wp_region_lit ?_
  refine nine_laid rfl rfl rfl rfl rfl rfl rfl rfl rfl rfl ?_
  intro W g v hg hb k1
  obtain ⟨nn, hnn⟩ : ∃ nn, Hid (nn = M.nine) := ⟨_, rfl⟩
  have I9 := isB_nine hb
  rw [← hnn.out] at CS I9
  have CC := Lib.hid (CS.out W _ (HK.out.below k1) I9)
  have K1 := Lib.hid k1
  clear hg hb I9 hnn CS HK k1
  have hsl := slice32_at
  go_wp2_with fail
  refine CC.out.mono ?_
  rintro e w2 ⟨r, rfl, o2, k2⟩
  have O2 := Lib.hid (o2.mono K1.out.size)
  have K2 : Hid (Below w.heap.size w w2) := K1.out.trans (k2.mono K1.out.size)
  clear CC o2 k2 hsl
  go_wp2
  go_ret2
  exact ⟨r, rfl, O2.out, K2.out⟩

end Go.Proofs.YtdojalhaklkegaaDoor
