/-
  PLAIN MATHEMATICS OF LAYER 8: the numbers by the prime as a field; the points of Edwards' curve that curve25519 is by another name, their sum (which knows no exceptions), and that it doesn't hang on brackets. Nothing of the program. Conditions: none.
  PLAIN MATHEMATICS OF LAYER 8: THE LADDER TELLS MULTIPLES. Of a point's multiple b (not 0, nor of order 2) the ladder by a scalar tells the multiple by number and b: so its order doesn't matter; what it tells of 9 and a clamped scalar is never 0, as 9's order is a prime. Nothing of the program. Conditions: none.
  PLAIN MATHEMATICS OF LAYER 8: THE LADDER TELLS MULTIPLES. Of 9's multiple b (not 0, nor of order 2) the ladder by a scalar tells the multiple by its number and b; a multiple that is 0 has a number that is one of the order, a prime. Nothing of the program. Conditions: none.
-/
import Derived.Test.YteombilmndlhjaaPrimeMath
import Derived.Test.YteombilmndlhjaaLadMath

namespace Go.Proofs.Yteombilmndlhjaa.M.Ed
set_option linter.unusedVariables false

theorem Q_pos8 : 0 < Q := by decide +kernel
instance nzQ : NeZero Q := ⟨Nat.pos_iff_ne_zero.mp Q_pos8⟩

/-- The field. -/
abbrev Fq := Fin Q

/-- A number in it. -/
def fq (n : Nat) : Fq := Fin.ofNat Q n

theorem fq_val (n : Nat) : (fq n).val = n % Q := rfl

theorem fq_of (a : Fq) : fq a.val = a := by
  apply Fin.ext
  rw [fq_val]
  exact Nat.mod_eq_of_lt a.isLt

theorem fq_mod (n : Nat) : fq (n % Q) = fq n := by
  apply Fin.ext
  rw [fq_val, fq_val, Nat.mod_mod]

theorem fq_add (a b : Nat) : fq (a + b) = fq a + fq b := by
  apply Fin.ext
  rw [Fin.val_add, fq_val, fq_val, fq_val, ← Nat.add_mod]

theorem fq_mul (a b : Nat) : fq (a * b) = fq a * fq b := by
  apply Fin.ext
  rw [Fin.val_mul, fq_val, fq_val, fq_val, ← Nat.mul_mod]

theorem fq_zero : fq 0 = 0 := rfl

theorem fq_one : fq 1 = 1 := rfl

theorem fq_Q : fq Q = 0 := by
  apply Fin.ext
  rw [fq_val, Nat.mod_self]
  rfl

theorem fq_sub (a b : Nat) (h : b ≤ Q) : fq (a + (Q - b)) = fq a - fq b := by
  have h1 : fq (a + (Q - b)) + fq b = fq a := by
    rw [← fq_add, show a + (Q - b) + b = a + Q by omega, fq_add, fq_Q]
    grobner
  grobner

theorem fq_inj {a b : Nat} (ha : a < Q) (hb : b < Q) (h : fq a = fq b) : a = b := by
  have := congrArg Fin.val h
  rwa [fq_val, fq_val, Nat.mod_eq_of_lt ha, Nat.mod_eq_of_lt hb] at this

theorem fq_eq_zero {a : Nat} (ha : a < Q) (h : fq a = 0) : a = 0 := fq_inj ha Q_pos8 (h.trans fq_zero.symm)

/-- A product that is 0 has a factor that is 0. -/
theorem mul_zero {a b : Fq} (h : a * b = 0) : a = 0 ∨ b = 0 := by
  have h0 := congrArg Fin.val h
  rw [Fin.val_mul] at h0
  have hz : (0 : Fq).val = 0 := rfl
  rw [hz] at h0
  have hd : Q ∣ a.val * b.val := Nat.dvd_of_mod_eq_zero h0
  by_cases ha : Q ∣ a.val
  · left
    apply Fin.ext
    rw [hz]
    exact Nat.eq_zero_of_dvd_of_lt ha a.isLt
  · right
    apply Fin.ext
    rw [hz]
    exact Nat.eq_zero_of_dvd_of_lt (Q_prime.euclid hd ha) b.isLt

theorem mul_ne {a b : Fq} (ha : a ≠ 0) (hb : b ≠ 0) : a * b ≠ 0 := fun h => (mul_zero h).elim ha hb

/-- The inverse; 0 of 0. -/
def inv (a : Fq) : Fq := fq (a.val ^ (Q - 2) % Q)

theorem inv_zero : inv 0 = 0 := by
  have hz : (0 : Fq).val = 0 := rfl
  rw [inv, hz, Nat.zero_pow (by decide +kernel), Nat.zero_mod, fq_zero]

theorem inv_mul {a : Fq} (h : a ≠ 0) : a * inv a = 1 := by
  have hz : (0 : Fq).val = 0 := rfl
  have ha : a.val % Q ≠ 0 := by
    rw [Nat.mod_eq_of_lt a.isLt]
    intro h0
    exact h (Fin.ext (by rw [h0, hz]))
  have := Q_inverse a.val ha
  have h1 : a * inv a = fq (a.val * a.val ^ (Q - 2) % Q) := by
    rw [fq_mod, fq_mul, fq_of, inv, fq_mod]
  rw [h1, this, fq_one]

theorem two_ne : (2 : Fq) ≠ 0 := by decide +kernel

/-! ## The curve: x² y² = g (x² + y² - 1) -/

/-- 121666 / 121665. -/
def g : Fq := fq 28692721048178265397853269683490922171210976843790175684556505508326675974058

theorem g_eq : g * 121665 = 121666 := by decide +kernel
theorem g_ne : g ≠ 0 := by decide +kernel
theorem g_one : g ≠ 1 := by decide +kernel

/-- g is no square of the field. -/
theorem no_root (s : Fq) : s * s ≠ g := by
  intro h
  have hs : ¬ Q ∣ s.val := by
    intro hd
    have h0 : s = 0 := Fin.ext (Nat.eq_zero_of_dvd_of_lt hd s.isLt)
    rw [h0] at h
    exact g_ne (h.symm.trans (by grobner))
  have h1 := fermat Q_prime s.val hs
  have h2 := congrArg Fin.val h
  rw [Fin.val_mul] at h2
  have h3 : g.val ^ ((Q - 1) / 2) % Q = 1 := by
    rw [← h2, ← Nat.pow_mod, ← Nat.pow_two, ← Nat.pow_mul, show 2 * ((Q - 1) / 2) = Q - 1 by decide +kernel]
    exact h1
  rw [pm_one Q 256 g.val _ (by decide +kernel)] at h3
  exact absurd h3 (by decide +kernel)

theorem no_sq {a b : Fq} (h : g * (a * a) = b * b) : a = 0 := by
  apply Classical.byContradiction
  intro ha
  have h1 := inv_mul ha
  refine no_root (b * inv a) ?_
  generalize inv a = i at h1
  grobner

structure Pt where
  x : Fq
  y : Fq

def On (p : Pt) : Prop := p.x * p.x * (p.y * p.y) = g * (p.x * p.x + p.y * p.y - 1)

theorem low_ne {x1 y1 x2 y2 : Fq} (h1 : x1 * x1 * (y1 * y1) = g * (x1 * x1 + y1 * y1 - 1)) (h2 : x2 * x2 * (y2 * y2) = g * (x2 * x2 + y2 * y2 - 1)) : g + x1 * x2 * (y1 * y2) ≠ 0 := by
  intro h
  have hg := inv_mul g_ne
  generalize inv g = i at hg
  have ha : x1 - y1 = 0 := no_sq (b := x1 * y1 * (x2 + y2)) (by grobner)
  have hb : x1 + y1 = 0 := no_sq (b := x1 * y1 * (x2 - y2)) (by grobner)
  have hx : 2 * x1 = 0 := by grobner
  rcases mul_zero hx with h2 | h2
  · exact two_ne h2
  · exact g_ne (by grobner)

theorem high_ne {x1 y1 x2 y2 : Fq} (h1 : x1 * x1 * (y1 * y1) = g * (x1 * x1 + y1 * y1 - 1)) (h2 : x2 * x2 * (y2 * y2) = g * (x2 * x2 + y2 * y2 - 1)) : g - x1 * x2 * (y1 * y2) ≠ 0 := by
  have := low_ne (x1 := -x1) (y1 := y1) (x2 := x2) (y2 := y2) (by grobner) h2
  intro h
  exact this (by grobner)

/-- The sum of two points. -/
def add (p q : Pt) : Pt :=
  ⟨g * (p.x * q.y + q.x * p.y) * inv (g + p.x * q.x * (p.y * q.y)), g * (p.y * q.y - p.x * q.x) * inv (g - p.x * q.x * (p.y * q.y))⟩

theorem add_x {p q : Pt} (hp : On p) (hq : On q) : (add p q).x * (g + p.x * q.x * (p.y * q.y)) = g * (p.x * q.y + q.x * p.y) := by
  have h := inv_mul (low_ne hp hq)
  rw [add]
  generalize inv (g + p.x * q.x * (p.y * q.y)) = i at *
  grobner

theorem add_y {p q : Pt} (hp : On p) (hq : On q) : (add p q).y * (g - p.x * q.x * (p.y * q.y)) = g * (p.y * q.y - p.x * q.x) := by
  have h := inv_mul (high_ne hp hq)
  rw [add]
  generalize inv (g - p.x * q.x * (p.y * q.y)) = i at *
  grobner

theorem closed (g x1 y1 x2 y2 t N1 N2 : Fq) (h1 : x1 * x1 * (y1 * y1) = g * (x1 * x1 + y1 * y1 - 1)) (h2 : x2 * x2 * (y2 * y2) = g * (x2 * x2 + y2 * y2 - 1)) (ht : t = x1 * x2 * (y1 * y2)) (hN1 : N1 = x1 * y2 + x2 * y1) (hN2 : N2 = y1 * y2 - x1 * x2) :
    g * g * (N1 * N1 * ((g - t) * (g - t)) + N2 * N2 * ((g + t) * (g + t))) - (g + t) * (g + t) * ((g - t) * (g - t)) = g * g * g * (N1 * N1 * (N2 * N2)) := by
  subst ht hN1 hN2
  grobner

theorem on_of (g X Y D E N1 N2 : Fq) (hX : X * D = g * N1) (hY : Y * E = g * N2) (hc : g * g * (N1 * N1 * (E * E) + N2 * N2 * (D * D)) - D * D * (E * E) = g * g * g * (N1 * N1 * (N2 * N2))) (hD : D ≠ 0) (hE : E ≠ 0) :
    X * X * (Y * Y) = g * (X * X + Y * Y - 1) := by
  have h : (X * X * (Y * Y) - g * (X * X + Y * Y - 1)) * (D * E * (D * E)) = 0 := by grobner
  have h2 := mul_ne (mul_ne hD hE) (mul_ne hD hE)
  rcases mul_zero h with h3 | h3
  · grobner
  · exact absurd h3 h2

theorem add_on {p q : Pt} (hp : On p) (hq : On q) : On (add p q) :=
  on_of g _ _ _ _ _ _ (add_x hp hq) (add_y hp hq) (closed g p.x p.y q.x q.y _ _ _ hp hq rfl rfl rfl) (low_ne hp hq) (high_ne hp hq)

theorem add_comm (p q : Pt) : add p q = add q p := by
  rw [add, add, show p.x * q.y + q.x * p.y = q.x * p.y + p.x * q.y by grobner, show p.y * q.y - p.x * q.x = q.y * p.y - q.x * p.x by grobner, show p.x * q.x * (p.y * q.y) = q.x * p.x * (q.y * p.y) by grobner]

theorem as_x (g x1 y1 x2 y2 x3 y3 t s N1 N2 N3 N4 : Fq) (h1 : x1 * x1 * (y1 * y1) = g * (x1 * x1 + y1 * y1 - 1)) (h2 : x2 * x2 * (y2 * y2) = g * (x2 * x2 + y2 * y2 - 1)) (h3 : x3 * x3 * (y3 * y3) = g * (x3 * x3 + y3 * y3 - 1))
    (ht : t = x1 * x2 * (y1 * y2)) (hs : s = x2 * x3 * (y2 * y3)) (hN1 : N1 = x1 * y2 + x2 * y1) (hN2 : N2 = y1 * y2 - x1 * x2) (hN3 : N3 = x2 * y3 + x3 * y2) (hN4 : N4 = y2 * y3 - x2 * x3) :
    (N1 * (g - t) * y3 + N2 * (g + t) * x3) * ((g + s) * (g - s) + g * (x1 * y1 * (N3 * N4))) = (x1 * N4 * (g + s) + y1 * N3 * (g - s)) * ((g + t) * (g - t) + g * (N1 * N2 * (x3 * y3))) := by
  subst ht hs hN1 hN2 hN3 hN4
  grobner

theorem as_y (g x1 y1 x2 y2 x3 y3 t s N1 N2 N3 N4 : Fq) (h1 : x1 * x1 * (y1 * y1) = g * (x1 * x1 + y1 * y1 - 1)) (h2 : x2 * x2 * (y2 * y2) = g * (x2 * x2 + y2 * y2 - 1)) (h3 : x3 * x3 * (y3 * y3) = g * (x3 * x3 + y3 * y3 - 1))
    (ht : t = x1 * x2 * (y1 * y2)) (hs : s = x2 * x3 * (y2 * y3)) (hN1 : N1 = x1 * y2 + x2 * y1) (hN2 : N2 = y1 * y2 - x1 * x2) (hN3 : N3 = x2 * y3 + x3 * y2) (hN4 : N4 = y2 * y3 - x2 * x3) :
    (N2 * (g + t) * y3 - N1 * (g - t) * x3) * ((g + s) * (g - s) - g * (x1 * y1 * (N3 * N4))) = (y1 * N4 * (g + s) - x1 * N3 * (g - s)) * ((g + t) * (g - t) - g * (N1 * N2 * (x3 * y3))) := by
  subst ht hs hN1 hN2 hN3 hN4
  grobner

/-- Two fractions that are one. -/
theorem same_of (g L R EL AL ER AR el al er ar D E : Fq) (hg : g ≠ 0) (hD : D ≠ 0) (hE : E ≠ 0) (hEL : EL ≠ 0) (hER : ER ≠ 0)
    (h1 : L * EL = g * AL) (h2 : R * ER = g * AR) (h3 : EL * D = g * el) (h4 : AL * D = g * al) (h5 : ER * E = g * er) (h6 : AR * E = g * ar) (h7 : al * er = ar * el) : L = R := by
  have hel : el ≠ 0 := fun h => mul_ne hEL hD (by grobner)
  have her : er ≠ 0 := fun h => mul_ne hER hE (by grobner)
  have e1 : g * (L * el - g * al) = 0 := by grobner
  have e2 : g * (R * er - g * ar) = 0 := by grobner
  have e1' := (mul_zero e1).resolve_left hg
  have e2' := (mul_zero e2).resolve_left hg
  have e3 : (L - R) * (el * er) = 0 := by grobner
  have e4 := (mul_zero e3).resolve_right (mul_ne hel her)
  grobner

theorem pt_ext {p q : Pt} (hx : p.x = q.x) (hy : p.y = q.y) : p = q := by
  cases p
  cases q
  simp only at hx hy
  rw [hx, hy]

theorem of1 {g sx sy D1 D2 N1 N2 x y : Fq} (a1 : sx * D1 = g * N1) (a2 : sy * D2 = g * N2) : (g + sx * x * (sy * y)) * (D1 * D2) = g * (D1 * D2 + g * (N1 * N2 * (x * y))) := by grobner

theorem of2 {g sx sy D1 D2 N1 N2 x y : Fq} (a1 : sx * D1 = g * N1) (a2 : sy * D2 = g * N2) : (g - sx * x * (sy * y)) * (D1 * D2) = g * (D1 * D2 - g * (N1 * N2 * (x * y))) := by grobner

theorem of3 {g sx sy D1 D2 N1 N2 x y : Fq} (a1 : sx * D1 = g * N1) (a2 : sy * D2 = g * N2) : (g + x * sx * (y * sy)) * (D1 * D2) = g * (D1 * D2 + g * (x * y * (N1 * N2))) := by grobner

theorem of4 {g sx sy D1 D2 N1 N2 x y : Fq} (a1 : sx * D1 = g * N1) (a2 : sy * D2 = g * N2) : (g - x * sx * (y * sy)) * (D1 * D2) = g * (D1 * D2 - g * (x * y * (N1 * N2))) := by grobner

theorem of5 {g sx sy D1 D2 N1 N2 x y : Fq} (a1 : sx * D1 = g * N1) (a2 : sy * D2 = g * N2) : (sx * y + x * sy) * (D1 * D2) = g * (N1 * D2 * y + N2 * D1 * x) := by grobner

theorem of6 {g sx sy D1 D2 N1 N2 x y : Fq} (a1 : sx * D1 = g * N1) (a2 : sy * D2 = g * N2) : (sy * y - sx * x) * (D1 * D2) = g * (N2 * D1 * y - N1 * D2 * x) := by grobner

theorem of7 {g sx sy D1 D2 N1 N2 x y : Fq} (a1 : sx * D1 = g * N1) (a2 : sy * D2 = g * N2) : (x * sy + sx * y) * (D1 * D2) = g * (x * N2 * D1 + y * N1 * D2) := by grobner

theorem of8 {g sx sy D1 D2 N1 N2 x y : Fq} (a1 : sx * D1 = g * N1) (a2 : sy * D2 = g * N2) : (y * sy - x * sx) * (D1 * D2) = g * (y * N2 * D1 - x * N1 * D2) := by grobner

/-- Brackets don't matter. -/
theorem add_assoc {p q r : Pt} (hp : On p) (hq : On q) (hr : On r) : add (add p q) r = add p (add q r) := by
  have a1 := add_x hp hq
  have a2 := add_y hp hq
  have b1 := add_x hq hr
  have b2 := add_y hq hr
  have o1 := add_on hp hq
  have o2 := add_on hq hr
  have c1 := add_x o1 hr
  have c2 := add_y o1 hr
  have d1 := add_x hp o2
  have d2 := add_y hp o2
  have n1 := low_ne hp hq
  have n2 := high_ne hp hq
  have n3 := low_ne hq hr
  have n4 := high_ne hq hr
  have m1 := low_ne o1 hr
  have m2 := high_ne o1 hr
  have m3 := low_ne hp o2
  have m4 := high_ne hp o2
  have ex := as_x g p.x p.y q.x q.y r.x r.y _ _ _ _ _ _ hp hq hr rfl rfl rfl rfl rfl rfl
  have ey := as_y g p.x p.y q.x q.y r.x r.y _ _ _ _ _ _ hp hq hr rfl rfl rfl rfl rfl rfl
  have hD := mul_ne n1 n2
  have hE := mul_ne n3 n4
  generalize add (add p q) r = L at *
  generalize add p (add q r) = R at *
  generalize add p q = s at *
  generalize add q r = t at *
  generalize hd1 : g + p.x * q.x * (p.y * q.y) = D1 at *
  generalize hd2 : g - p.x * q.x * (p.y * q.y) = D2 at *
  generalize hd3 : g + q.x * r.x * (q.y * r.y) = D3 at *
  generalize hd4 : g - q.x * r.x * (q.y * r.y) = D4 at *
  generalize p.x * q.y + q.x * p.y = N1 at *
  generalize p.y * q.y - p.x * q.x = N2 at *
  generalize q.x * r.y + r.x * q.y = N3 at *
  generalize q.y * r.y - q.x * r.x = N4 at *
  clear hd1 hd2 hd3 hd4
  refine pt_ext ?_ ?_
  · exact same_of g L.x R.x _ _ _ _ _ _ _ _ (D1 * D2) (D3 * D4) g_ne hD hE m1 m3 c1 d1 (of1 a1 a2) (of5 a1 a2) (of3 b1 b2) (of7 b1 b2) ex
  · exact same_of g L.y R.y _ _ _ _ _ _ _ _ (D1 * D2) (D3 * D4) g_ne hD hE m2 m4 c2 d2 (of2 a1 a2) (of6 a1 a2) (of4 b1 b2) (of8 b1 b2) ey

end Go.Proofs.Yteombilmndlhjaa.M.Ed

namespace Go.Proofs.Yteombilmndlhjaa.M.Ed
set_option linter.unusedVariables false

/-! ## Multiples -/

/-- The point that changes nothing. -/
def O : Pt := ⟨0, 1⟩

theorem on_O : On O := by
  show (0 : Fq) * 0 * (1 * 1) = g * (0 * 0 + 1 * 1 - 1)
  grobner

theorem add_O (p : Pt) : add p O = p := by
  have h := inv_mul g_ne
  refine pt_ext ?_ ?_
  · show g * (p.x * 1 + 0 * p.y) * inv (g + p.x * 0 * (p.y * 1)) = p.x
    rw [show g + p.x * 0 * (p.y * 1) = g by grobner]
    generalize inv g = i at h
    grobner
  · show g * (p.y * 1 - p.x * 0) * inv (g - p.x * 0 * (p.y * 1)) = p.y
    rw [show g - p.x * 0 * (p.y * 1) = g by grobner]
    generalize inv g = i at h
    grobner

/-- The point of 9. -/
def B : Pt := ⟨fq 9771384041963202563870679428059935816164187996444183106833894008023910952347, fq 46316835694926478169428394003475163141307993866256225615783033603165251855960⟩

theorem on_B : On B := by
  show B.x * B.x * (B.y * B.y) = g * (B.x * B.x + B.y * B.y - 1)
  decide +kernel

theorem B_nine : 9 * (1 - B.y) = 1 + B.y := by decide +kernel
theorem B_low : 1 + B.y ≠ 0 := by decide +kernel
theorem B_high : 1 - B.y ≠ 0 := by decide +kernel

/-- The multiples of 9's point. -/
def nP : Nat → Pt
  | 0 => O
  | n + 1 => add (nP n) B

theorem nP_on : ∀ n, On (nP n)
  | 0 => on_O
  | n + 1 => add_on (nP_on n) on_B

theorem nP_add (m : Nat) : ∀ n, nP (m + n) = add (nP m) (nP n)
  | 0 => (add_O _).symm
  | n + 1 => by rw [show m + (n + 1) = (m + n) + 1 from rfl, nP, nP_add m n, add_assoc (nP_on m) (nP_on n) on_B, nP]

theorem nP_one : nP 1 = B := by
  rw [nP, nP, add_comm, add_O]

/-! ## A step -/

/-- X : Z tells the point. -/
def Rep (X Z : Fq) (p : Pt) : Prop := ∃ l : Fq, l ≠ 0 ∧ X = l * (1 + p.y) ∧ Z = l * (1 - p.y)

theorem rep_of {X Z : Fq} {p : Pt} (h : X * (1 - p.y) = Z * (1 + p.y)) (hn : X ≠ 0 ∨ Z ≠ 0) : Rep X Z p := by
  have h2 := inv_mul two_ne
  generalize inv 2 = i at h2
  refine ⟨(X + Z) * i, ?_, by grobner, by grobner⟩
  intro h0
  have hx : X + Z = 0 := by grobner
  have hz : 2 * Z = 0 := by grobner
  have hz0 := (mul_zero hz).resolve_left two_ne
  rcases hn with hn | hn
  · exact hn (by clear hn h h2 h0 hz; grobner)
  · exact hn hz0

theorem neg_on {p : Pt} (hp : On p) : On ⟨-p.x, p.y⟩ := by
  have h : p.x * p.x * (p.y * p.y) = g * (p.x * p.x + p.y * p.y - 1) := hp
  show -p.x * -p.x * (p.y * p.y) = g * (-p.x * -p.x + p.y * p.y - 1)
  grobner

theorem add_neg {p : Pt} (hp : On p) : add p ⟨-p.x, p.y⟩ = O := by
  have hn := neg_on hp
  have a1 := add_x hp hn
  have a2 := add_y hp hn
  have n1 := low_ne hp hn
  have n2 := high_ne hp hn
  have h : p.x * p.x * (p.y * p.y) = g * (p.x * p.x + p.y * p.y - 1) := hp
  generalize add p ⟨-p.x, p.y⟩ = s at *
  simp only at a1 a2 n1 n2
  refine pt_ext ?_ ?_
  · show s.x = 0
    have e : s.x * (g + p.x * -p.x * (p.y * p.y)) = 0 := by rw [a1]; clear n1 n2 a1 a2; grobner
    exact (mul_zero e).resolve_right n1
  · show s.y = 1
    have e : (s.y - 1) * (g - p.x * -p.x * (p.y * p.y)) = 0 := by clear n1 n2 a1; grobner
    have := (mul_zero e).resolve_right n2
    clear a1 a2 n1 n2 e
    grobner

theorem add_back {p q : Pt} (hp : On p) (hq : On q) : add (add p q) ⟨-p.x, p.y⟩ = q := by
  rw [add_comm p q, add_assoc hq hp (neg_on hp), add_neg hp, add_O]

/-- What one has less than the sum of both. -/
theorem sub_y {p q : Pt} (hp : On p) (hq : On q) : q.y * (g + (add p q).x * p.x * ((add p q).y * p.y)) = g * ((add p q).y * p.y + (add p q).x * p.x) := by
  have h := add_y (add_on hp hq) (neg_on hp)
  rw [add_back hp hq] at h
  simp only at h
  generalize add p q = s at *
  grobner

theorem dbl_eq (g x y z l : Fq) (hg : g * 121665 = 121666) (h : x * x * (y * y) = g * (x * x + y * y - 1)) (hz : z * (g - x * x * (y * y)) = g * (y * y - x * x)) :
    (16 * (l * l * (l * l)) * (y * y) * (1 - z) - 16 * (l * l * (l * l)) * ((1 - y * y) * (1 + 121665 * (1 - y * y))) * (1 + z)) * (g - x * x * (y * y)) = 0 := by
  grobner

theorem rep_dbl {X Z : Fq} {p : Pt} (hp : On p) (h : Rep X Z p) :
    Rep ((X + Z) * (X + Z) * ((X - Z) * (X - Z))) (((X + Z) * (X + Z) - (X - Z) * (X - Z)) * ((X + Z) * (X + Z) + 121665 * ((X + Z) * (X + Z) - (X - Z) * (X - Z)))) (add p p) := by
  obtain ⟨l, hl, rfl, rfl⟩ := h
  have e := dbl_eq g p.x p.y (add p p).y l g_eq hp (add_y hp hp)
  have e2 := (mul_zero e).resolve_right (high_ne hp hp)
  have hc : p.x * p.x * (p.y * p.y) = g * (p.x * p.x + p.y * p.y - 1) := hp
  refine rep_of ?_ ?_
  · generalize add p p = s at *
    clear e hc
    grobner
  · have hx : (l * (1 + p.y) + l * (1 - p.y)) * (l * (1 + p.y) + l * (1 - p.y)) * ((l * (1 + p.y) - l * (1 - p.y)) * (l * (1 + p.y) - l * (1 - p.y))) = 2 * l * (2 * l) * (2 * l * p.y * (2 * l * p.y)) := by clear e e2 hc; grobner
    have h2l := mul_ne two_ne hl
    by_cases hy : p.y = 0
    · right
      rw [hy]
      intro h0
      have : 2 * l * (2 * l) * (2 * l * (2 * l) * 121666) = 0 := by clear e e2 hc hx h2l hl; grobner
      exact mul_ne (mul_ne h2l h2l) (mul_ne (mul_ne h2l h2l) (by decide +kernel)) this
    · left
      rw [hx]
      exact mul_ne (mul_ne h2l h2l) (mul_ne (mul_ne h2l hy) (mul_ne h2l hy))

theorem sum_eq (g x y v w z k u t : Fq) (h1 : x * x * (y * y) = g * (x * x + y * y - 1)) (h2 : v * v * (w * w) = g * (v * v + w * w - 1)) (ht : t = v * x * (w * y)) :
    (w + y) * (w + y) * ((g - t) - g * (w * y - v * x)) * ((g + t) - g * (w * y + v * x)) = (w - y) * (w - y) * ((g + t) + g * (w * y + v * x)) * ((g - t) + g * (w * y - v * x)) := by
  subst ht
  grobner

theorem rep_sum {X Z V W u : Fq} {p q : Pt} (hp : On p) (hq : On q) (hX : Rep X Z p) (hV : Rep V W (add p q)) (hu : u * (1 - q.y) = 1 + q.y) (hl : 1 + q.y ≠ 0) (hh : 1 - q.y ≠ 0) :
    Rep (((V - W) * (X + Z) + (V + W) * (X - Z)) * ((V - W) * (X + Z) + (V + W) * (X - Z))) (u * (((V - W) * (X + Z) - (V + W) * (X - Z)) * ((V - W) * (X + Z) - (V + W) * (X - Z)))) (add p (add p q)) := by
  obtain ⟨l, hl0, rfl, rfl⟩ := hX
  obtain ⟨m, hm0, rfl, rfl⟩ := hV
  have hs := add_on hp hq
  have e1 := sub_y hp hq
  have e2 := add_y hp hs
  have n1 := low_ne hs hp
  have n2 := high_ne hp hs
  have e3 := sum_eq g p.x p.y (add p q).x (add p q).y 0 0 0 _ hp hs rfl
  generalize add p (add p q) = r at *
  generalize add p q = s at *
  have hu0 : u ≠ 0 := by
    intro h0
    rw [h0] at hu
    exact hl (by clear e1 e2 e3 n1 n2; grobner)
  have hx : (m * (1 + s.y) - m * (1 - s.y)) * (l * (1 + p.y) + l * (1 - p.y)) + (m * (1 + s.y) + m * (1 - s.y)) * (l * (1 + p.y) - l * (1 - p.y)) = 2 * l * (2 * m) * (s.y + p.y) := by clear e1 e2 e3 n1 n2; grobner
  have hz : (m * (1 + s.y) - m * (1 - s.y)) * (l * (1 + p.y) + l * (1 - p.y)) - (m * (1 + s.y) + m * (1 - s.y)) * (l * (1 + p.y) - l * (1 - p.y)) = 2 * l * (2 * m) * (s.y - p.y) := by clear e1 e2 e3 n1 n2; grobner
  have h4 := mul_ne (mul_ne two_ne hl0) (mul_ne two_ne hm0)
  rw [hx, hz]
  generalize 2 * l * (2 * m) = c at h4
  clear hx hz
  have n2' : g - s.x * p.x * (s.y * p.y) ≠ 0 := by
    intro h0
    exact n2 (by clear e1 e2 e3 n1 n2; grobner)
  have e2' : r.y * (g - s.x * p.x * (s.y * p.y)) = g * (s.y * p.y - s.x * p.x) := by clear e1 e3 n1 n2 n2'; grobner
  have hm : p.x * p.x * (p.y * p.y) = g * (p.x * p.x + p.y * p.y - 1) := hp
  have hm2 : s.x * s.x * (s.y * s.y) = g * (s.x * s.x + s.y * s.y - 1) := hs
  generalize hT : s.x * p.x * (s.y * p.y) = t at *
  refine rep_of ?_ ?_
  · have k : ((s.y + p.y) * (s.y + p.y) * (1 - r.y) - u * ((s.y - p.y) * (s.y - p.y)) * (1 + r.y)) * ((1 - q.y) * ((g - t) * (g + t))) = 0 := by
      have f1 : (1 - r.y) * (g - t) = (g - t) - g * (s.y * p.y - s.x * p.x) := by clear e1 e2 e3 hm hm2 hT n1 n2 n2' hh hl hu0 h4 hl0 hm0 hu; grobner
      have f2 : (1 + r.y) * (g - t) = (g - t) + g * (s.y * p.y - s.x * p.x) := by clear e1 e2 e3 hm hm2 hT n1 n2 n2' hh hl hu0 h4 hl0 hm0 hu; grobner
      have f3 : (1 - q.y) * (g + t) = (g + t) - g * (s.y * p.y + s.x * p.x) := by clear e2 e2' e3 hm hm2 hT n1 n2 n2' hh hl hu0 h4 hl0 hm0 hu; grobner
      have f4 : u * (1 - q.y) * (g + t) = (g + t) + g * (s.y * p.y + s.x * p.x) := by clear e2 e2' e3 hm hm2 hT n1 n2 n2' hh hl hu0 h4 hl0 hm0; grobner
      rw [← f1, ← f2, ← f3, ← f4] at e3
      clear e1 e2 e2' hm hm2 hT n1 n2 n2' hh hl hu0 h4 hl0 hm0 hu f1 f2 f3 f4
      grobner
    have k2 := (mul_zero k).resolve_right (mul_ne hh (mul_ne n2' n1))
    clear e1 e2 e2' e3 hm hm2 hT n1 n2 n2' hh hl hu0 h4 hl0 hm0 hu k
    grobner
  · by_cases ha : s.y + p.y = 0
    · by_cases hb : s.y - p.y = 0
      · exfalso
        have hy : 2 * p.y = 0 := by clear e1 e2 e2' e3 hm hm2 hT n1 n2 n2' hh hl hu0 h4 hl0 hm0 hu; grobner
        have hy0 := (mul_zero hy).resolve_left two_ne
        have hs0 : s.y = 0 := by clear e1 e2 e2' e3 hm hm2 hT n1 n2 n2' hh hl hu0 h4 hl0 hm0 hu; grobner
        rw [hy0] at hm e1
        rw [hs0] at hm2 e1
        have hi := inv_mul g_ne
        generalize inv g = i at hi
        have px : p.x * p.x = 1 := by clear e1 e2 e2' e3 hm2 hT n1 n2 n2' hh hl hu0 h4 hl0 hm0 hu hs0 hy0 hy ha hb; grobner
        have sx : s.x * s.x = 1 := by clear e1 e2 e2' e3 hm hT n1 n2 n2' hh hl hu0 h4 hl0 hm0 hu hs0 hy0 hy ha hb px; grobner
        have t0 : t = 0 := by rw [← hT, hy0]; clear e1 e2 e2' e3 hm hm2 hT n1 n2 n2' hh hl hu0 h4 hl0 hm0 hu hs0 hy0 hy ha hb px sx; grobner
        rw [t0] at e1
        have qy : q.y = s.x * p.x := by clear e2 e2' e3 hm hm2 hT n1 n2 n2' hh hl hu0 h4 hl0 hm0 hu hs0 hy0 hy ha hb px sx; grobner
        have : (1 + q.y) * (1 - q.y) = 0 := by rw [qy]; clear e1 e2 e2' e3 hm hm2 hT n1 n2 n2' hh hl hu0 h4 hl0 hm0 hu hs0 hy0 hy ha hb qy; grobner
        exact mul_ne hl hh this
      · right
        exact mul_ne hu0 (mul_ne (mul_ne h4 hb) (mul_ne h4 hb))
    · left
      exact mul_ne (mul_ne h4 ha) (mul_ne h4 ha)

end Go.Proofs.Yteombilmndlhjaa.M.Ed

namespace Go.Proofs.Yteombilmndlhjaa.M.Ed
set_option linter.unusedVariables false

/-! ## The ladder -/

theorem lstep_fq (u x z v w : Nat) (hz : z < Q) (hw : w < Q) :
    fq (lstep Q u x z v w).1 = (fq x + fq z) * (fq x + fq z) * ((fq x - fq z) * (fq x - fq z)) ∧
    fq (lstep Q u x z v w).2.1 = ((fq x + fq z) * (fq x + fq z) - (fq x - fq z) * (fq x - fq z)) * ((fq x + fq z) * (fq x + fq z) + 121665 * ((fq x + fq z) * (fq x + fq z) - (fq x - fq z) * (fq x - fq z))) ∧
    fq (lstep Q u x z v w).2.2.1 = ((fq v - fq w) * (fq x + fq z) + (fq v + fq w) * (fq x - fq z)) * ((fq v - fq w) * (fq x + fq z) + (fq v + fq w) * (fq x - fq z)) ∧
    fq (lstep Q u x z v w).2.2.2 = fq u * (((fq v - fq w) * (fq x + fq z) - (fq v + fq w) * (fq x - fq z)) * ((fq v - fq w) * (fq x + fq z) - (fq v + fq w) * (fq x - fq z))) := by
  have hm : ∀ n, n % Q ≤ Q := fun n => Nat.le_of_lt (Nat.mod_lt _ Q_pos8)
  have h6 : fq 121665 = 121665 := rfl
  simp only [lstep, fq_mod, fq_mul, fq_add, fq_sub _ _ (hm _), fq_sub _ _ (Nat.le_of_lt hz), fq_sub _ _ (Nat.le_of_lt hw), h6]
  exact ⟨trivial, trivial, trivial, trivial⟩

theorem lstep_lt (u x z v w : Nat) : (lstep Q u x z v w).1 < Q ∧ (lstep Q u x z v w).2.1 < Q ∧ (lstep Q u x z v w).2.2.1 < Q ∧ (lstep Q u x z v w).2.2.2 < Q :=
  ⟨Nat.mod_lt _ Q_pos8, Nat.mod_lt _ Q_pos8, Nat.mod_lt _ Q_pos8, Nat.mod_lt _ Q_pos8⟩

/-- The number of a scalar's j greatest bits (of 255). -/
def nb (ks : List UInt8) : Nat → Nat
  | 0 => 0
  | j + 1 => 2 * nb ks j + kbit ks (254 - j)

/-- A state tells two multiples. -/
def Tells (s : Nat × Nat × Nat × Nat) (p q : Pt) : Prop :=
  (s.1 < Q ∧ s.2.1 < Q ∧ s.2.2.1 < Q ∧ s.2.2.2 < Q) ∧ Rep (fq s.1) (fq s.2.1) p ∧ Rep (fq s.2.2.1) (fq s.2.2.2) q

theorem lstep_tells {u x z v w n b : Nat} (hu : fq u * (1 - (nP b).y) = 1 + (nP b).y) (hl : 1 + (nP b).y ≠ 0) (hh : 1 - (nP b).y ≠ 0) (h : Tells (x, z, v, w) (nP n) (nP (n + b))) :
    Tells (lstep Q u x z v w) (nP (n + n)) (nP (n + (n + b))) := by
  obtain ⟨⟨_, hz, _, hw⟩, h1, h2⟩ := h
  obtain ⟨e1, e2, e3, e4⟩ := lstep_fq u x z v w hz hw
  refine ⟨lstep_lt u x z v w, ?_, ?_⟩
  · rw [e1, e2, nP_add]
    exact rep_dbl (nP_on n) h1
  · rw [e3, e4, nP_add n (n + b)]
    rw [nP_add n b] at h2 ⊢
    exact rep_sum (nP_on n) (nP_on b) h1 h2 hu hl hh

theorem lstep_tells2 {u x z v w n b : Nat} (hu : fq u * (1 - (nP b).y) = 1 + (nP b).y) (hl : 1 + (nP b).y ≠ 0) (hh : 1 - (nP b).y ≠ 0) (h : Tells (x, z, v, w) (nP n) (nP (n + b))) :
    Tells (lstep Q u v w x z) (nP ((n + b) + (n + b))) (nP (n + (n + b))) := by
  obtain ⟨⟨_, hz, _, hw⟩, h1, h2⟩ := h
  obtain ⟨e1, e2, e3, e4⟩ := lstep_fq u v w x z hw hz
  refine ⟨lstep_lt u v w x z, ?_, ?_⟩
  · rw [e1, e2, nP_add (n + b)]
    exact rep_dbl (nP_on _) h2
  · rw [e3, e4, nP_add n (n + b)]
    rw [nP_add n b] at h2 ⊢
    have k := rep_sum (nP_on n) (nP_on b) h1 h2 hu hl hh
    generalize fq x = X at *
    generalize fq z = Z at *
    generalize fq v = V at *
    generalize fq w = W at *
    generalize fq u = U at *
    rw [show ((X - Z) * (V + W) + (X + Z) * (V - W)) * ((X - Z) * (V + W) + (X + Z) * (V - W)) = ((V - W) * (X + Z) + (V + W) * (X - Z)) * ((V - W) * (X + Z) + (V + W) * (X - Z)) by clear hu hl hh h1 h2 k; grobner,
      show U * (((X - Z) * (V + W) - (X + Z) * (V - W)) * ((X - Z) * (V + W) - (X + Z) * (V - W))) = U * (((V - W) * (X + Z) - (V + W) * (X - Z)) * ((V - W) * (X + Z) - (V + W) * (X - Z))) by clear hu hl hh h1 h2 k; grobner]
    exact k

theorem kbit_two (ks : List UInt8) (i : Nat) : kbit ks i = 0 ∨ kbit ks i = 1 := by
  have : kbit ks i < 2 := Nat.mod_lt _ (by decide)
  omega

theorem lad_tells (ks : List UInt8) {u b : Nat} (huQ : u < Q) (hu : fq u * (1 - (nP b).y) = 1 + (nP b).y) (hl : 1 + (nP b).y ≠ 0) (hh : 1 - (nP b).y ≠ 0) :
    ∀ j, Tells (lad Q ks u j) (nP (nb ks j * b)) (nP (nb ks j * b + b)) := by
  intro j
  induction j with
  | zero =>
    refine ⟨⟨(by decide +kernel : 1 < Q), Q_pos8, huQ, (by decide +kernel : 1 < Q)⟩, ?_, ?_⟩
    · show Rep (fq 1) (fq 0) (nP (0 * b))
      rw [Nat.zero_mul, nP, fq_one, fq_zero]
      exact rep_of (show (1 : Fq) * (1 - 1) = 0 * (1 + 1) by decide +kernel) (Or.inl (by decide +kernel))
    · show Rep (fq u) (fq 1) (nP (0 * b + b))
      rw [Nat.zero_mul, Nat.zero_add, fq_one]
      exact rep_of (by rw [hu]; clear hu hl hh; grobner) (Or.inr (by decide +kernel))
  | succ j ih =>
    obtain ⟨⟨x, z, v, w⟩, hs⟩ : ∃ s, lad Q ks u j = s := ⟨_, rfl⟩
    rw [hs] at ih
    rw [lad, hs, nb]
    rcases kbit_two ks (254 - j) with e | e
    · rw [e, show lbit Q u 0 (x, z, v, w) = lstep Q u x z v w from rfl, show (2 * nb ks j + 0) * b = nb ks j * b + nb ks j * b by rw [Nat.add_zero, Nat.two_mul, Nat.add_mul], Nat.add_assoc]
      exact lstep_tells hu hl hh ih
    · rw [e, show lbit Q u 1 (x, z, v, w) = ((lstep Q u v w x z).2.2.1, (lstep Q u v w x z).2.2.2, (lstep Q u v w x z).1, (lstep Q u v w x z).2.1) from rfl, show (2 * nb ks j + 1) * b = nb ks j * b + (nb ks j * b + b) by rw [Nat.two_mul, Nat.add_mul, Nat.add_mul, Nat.one_mul, Nat.add_assoc]]
      have k := lstep_tells2 hu hl hh ih
      obtain ⟨⟨k1, k2, k3, k4⟩, r1, r2⟩ := k
      refine ⟨⟨k3, k4, k1, k2⟩, r2, ?_⟩
      rw [show nb ks j * b + (nb ks j * b + b) + b = nb ks j * b + b + (nb ks j * b + b) by omega]
      exact r1

/-- The number that tells a point. -/
def U (p : Pt) : Nat := ((1 + p.y) * inv (1 - p.y)).val

theorem U_lt (p : Pt) : U p < Q := Fin.isLt _

theorem U_eq {p : Pt} (hh : 1 - p.y ≠ 0) : fq (U p) * (1 - p.y) = 1 + p.y := by
  have h := inv_mul hh
  rw [U, fq_of]
  generalize inv (1 - p.y) = i at *
  clear hh
  grobner

theorem ladder_eq (x z : Nat) (hz : z < Q) : x * (z ^ (Q - 2) % Q) % Q = (fq x * inv (fq z)).val := by
  have h : fq (x * (z ^ (Q - 2) % Q) % Q) = fq x * inv (fq z) := by
    rw [fq_mod, fq_mul, inv, fq_val, Nat.mod_eq_of_lt hz]
  rw [← h, fq_val, Nat.mod_mod]

theorem rep_U {X Z : Fq} {p : Pt} (h : Rep X Z p) : (X * inv Z).val = U p := by
  obtain ⟨l, hl, rfl, rfl⟩ := h
  rw [U]
  congr 1
  by_cases h1 : 1 - p.y = 0
  · rw [h1, show l * (0 : Fq) = 0 by clear h1 hl; grobner, inv_zero]
    clear h1 hl
    grobner
  · have a := inv_mul (mul_ne hl h1)
    have b := inv_mul h1
    generalize inv (l * (1 - p.y)) = i at *
    generalize inv (1 - p.y) = k at *
    clear hl h1
    grobner

/-- The ladder of what tells 9's multiple b tells the multiple by the scalar's number and b. -/
theorem ladder_U (ks : List UInt8) (b : Nat) (hl : 1 + (nP b).y ≠ 0) (hh : 1 - (nP b).y ≠ 0) : ladder Q ks (U (nP b)) = U (nP (nb ks 255 * b)) := by
  have h := lad_tells ks (U_lt (nP b)) (U_eq hh) hl hh 255
  rw [ladder]
  generalize lad Q ks (U (nP b)) 255 = s at *
  obtain ⟨x, z, v, w⟩ := s
  obtain ⟨⟨_, hz, _, _⟩, r, _⟩ := h
  show x * (z ^ (Q - 2) % Q) % Q = _
  rw [ladder_eq x z hz]
  exact rep_U r

theorem U_one : U (nP 1) = 9 := by
  rw [nP_one]
  refine fq_inj (U_lt _) (by decide +kernel) ?_
  have h1 := U_eq (p := B) B_high
  have h2 := B_nine
  have h9 : fq 9 = 9 := rfl
  rw [h9]
  have h3 : (fq (U B) - 9) * (1 - B.y) = 0 := by
    generalize fq (U B) = k at *
    grobner
  have h4 := (mul_zero h3).resolve_right B_high
  generalize fq (U B) = k at *
  clear h1 h2 h3 h9
  grobner

theorem ladder_nine (ks : List UInt8) : ladder Q ks 9 = U (nP (nb ks 255)) := by
  have h := ladder_U ks 1 (by rw [nP_one]; exact B_low) (by rw [nP_one]; exact B_high)
  rwa [U_one, Nat.mul_one] at h

/-! ## The order -/

theorem O_of_y {p : Pt} (hp : On p) (h : 1 - p.y = 0) : p = O := by
  have hc : p.x * p.x * (p.y * p.y) = g * (p.x * p.x + p.y * p.y - 1) := hp
  have hy : p.y = 1 := by clear hc; grobner
  rw [hy] at hc
  have e : p.x * (p.x * (1 - g)) = 0 := by clear h hy; grobner
  refine pt_ext ?_ hy
  show p.x = 0
  rcases mul_zero e with e1 | e1
  · exact e1
  · exact (mul_zero e1).resolve_right fun h0 => g_one (by clear e e1 hc h hy; grobner)

theorem nP_two_of_y {n : Nat} (h : 1 + (nP n).y = 0) : nP (n + n) = O := by
  have hp := nP_on n
  have hc : (nP n).x * (nP n).x * ((nP n).y * (nP n).y) = g * ((nP n).x * (nP n).x + (nP n).y * (nP n).y - 1) := hp
  have hy : (nP n).y = -1 := by clear hc; grobner
  rw [hy] at hc
  have e : (nP n).x * ((nP n).x * (1 - g)) = 0 := by clear h hy; grobner
  have hx : (nP n).x = 0 := by
    rcases mul_zero e with e1 | e1
    · exact e1
    · exact (mul_zero e1).resolve_right fun h0 => g_one (by clear e e1 hc h hy; grobner)
  rw [nP_add]
  have a1 := add_y hp hp
  rw [hx, hy] at a1
  refine O_of_y (add_on hp hp) ?_
  have hg := inv_mul g_ne
  generalize inv g = i at hg
  generalize add (nP n) (nP n) = s at *
  clear hc h hy e hx
  grobner

theorem nP_mul {m : Nat} (h : nP m = O) : ∀ k, nP (m * k) = O
  | 0 => rfl
  | k + 1 => by rw [Nat.mul_succ, nP_add, nP_mul h k, h, add_O]

theorem nP_gcd (m n : Nat) : nP m = O → nP n = O → nP (Nat.gcd m n) = O := by
  induction m, n using Nat.gcd.induction with
  | H0 n => intro _ h; rwa [Nat.gcd_zero_left]
  | H1 m n hm ih =>
    intro h1 h2
    rw [Nat.gcd_rec]
    refine ih ?_ h1
    have e : nP n = nP (n % m) := by
      conv => lhs; rw [← Nat.mod_add_div n m, nP_add, nP_mul h1, add_O]
    rw [← e]
    exact h2

theorem B_ne : B ≠ O := fun h => B_high (by rw [h]; show (1 : Fq) - 1 = 0; decide +kernel)

/-- The order of 9's point. -/
def L : Nat := 7237005577332262213973186563042994240857116359379907606001950938285454250989

theorem pr_1224481 : Pr 1224481 := pr_small _ 1110 (by decide) (by decide) (by decide +kernel)
theorem pr_531581 : Pr 531581 := pr_small _ 730 (by decide) (by decide) (by decide +kernel)
theorem pr_L1 : Pr 1257559732178653 := pr_two _ 1224481 531581 1027014492 2365697292 2 60 pr_1224481 pr_531581 (by decide +kernel) (by decide) (by decide +kernel) (by decide +kernel) (by decide +kernel) (by decide +kernel) (by decide +kernel) (by decide +kernel) (by decide +kernel)
theorem pr_L2 : Pr 4434155615661930479 := pr_one _ 1257559732178653 3526 2 64 pr_L1 (by decide) (by decide +kernel) (by decide +kernel) (by decide +kernel) (by decide +kernel) (by decide +kernel)
theorem pr_L3 : Pr 172054593956031949258510691 := pr_one _ 4434155615661930479 38802110 2 90 pr_L2 (by decide) (by decide +kernel) (by decide +kernel) (by decide +kernel) (by decide +kernel) (by decide +kernel)
theorem pr_L4 : Pr 19757330305831588566944191468367130476339 := pr_one _ 172054593956031949258510691 114831751082918 2 140 pr_L3 (by decide) (by decide +kernel) (by decide +kernel) (by decide +kernel) (by decide +kernel) (by decide +kernel)
theorem pr_L5 : Pr 276602624281642239937218680557139826668747 := pr_one _ 19757330305831588566944191468367130476339 14 2 140 pr_L4 (by decide) (by decide +kernel) (by decide +kernel) (by decide +kernel) (by decide +kernel) (by decide +kernel)
theorem L_prime : Pr L := pr_one _ 276602624281642239937218680557139826668747 26163907866482859529727157400808004 2 256 pr_L5 (by decide +kernel) (by decide +kernel) (by decide +kernel) (by decide +kernel) (by decide +kernel) (by decide +kernel)

/-- Its bytes. -/
def Lb : List UInt8 := [237, 211, 245, 92, 26, 99, 18, 88, 214, 156, 247, 162, 222, 249, 222, 20, 0, 0, 0, 0, 0, 0, 0, 0, 0, 0, 0, 0, 0, 0, 0, 16]

theorem nb_Lb : nb Lb 255 = L := by decide +kernel

theorem lad_Lb : (lad Q Lb 9 255).2.1 = 0 := by decide +kernel

theorem nP_L : nP L = O := by
  have h := lad_tells Lb (u := U (nP 1)) (b := 1) (U_lt _) (U_eq (by rw [nP_one]; exact B_high)) (by rw [nP_one]; exact B_low) (by rw [nP_one]; exact B_high) 255
  rw [nb_Lb, Nat.mul_one, U_one] at h
  obtain ⟨_, ⟨l, hl, _, e⟩, _⟩ := h
  rw [lad_Lb, fq_zero] at e
  exact O_of_y (nP_on L) ((mul_zero e.symm).resolve_left hl)

/-- A multiple by a number that is none of the order's isn't the point that changes nothing. -/
theorem nP_ne {n : Nat} (h : ¬ L ∣ n) : nP n ≠ O := by
  intro h0
  have := nP_gcd L n nP_L h0
  rw [L_prime.coprime h, nP_one] at this
  exact B_ne this

theorem high_of {n : Nat} (h : ¬ L ∣ n) : 1 - (nP n).y ≠ 0 := fun h0 => nP_ne h (O_of_y (nP_on n) h0)

theorem low_of {n : Nat} (h : ¬ L ∣ n) : 1 + (nP n).y ≠ 0 := by
  intro h0
  have h2 : ¬ L ∣ n + n := by
    rw [← Nat.two_mul]
    intro hd
    exact h (L_prime.euclid hd (by decide +kernel))
  exact nP_ne h2 (nP_two_of_y h0)

theorem U_ne {n : Nat} (h : ¬ L ∣ n) : U (nP n) ≠ 0 := by
  intro h0
  have h1 := U_eq (high_of h)
  rw [h0, fq_zero] at h1
  exact low_of h (by rw [← h1]; clear h0 h1; grobner)

/-- The ladder's order doesn't matter. -/
theorem ladder_twice (ks ls : List UInt8) (hk : ¬ L ∣ nb ks 255) : ladder Q ls (ladder Q ks 9) = U (nP (nb ls 255 * nb ks 255)) := by
  rw [ladder_nine ks]
  exact ladder_U ls _ (low_of hk) (high_of hk)

theorem nb_le (ks : List UInt8) (j : Nat) : nb ks j < 2 ^ j := by
  induction j with
  | zero => exact Nat.one_pos
  | succ j ih =>
    rw [nb, Nat.pow_succ]
    rcases kbit_two ks (254 - j) with e | e <;> rw [e] <;> omega

theorem nb_pos {ks : List UInt8} (h : kbit ks 254 = 1) (j : Nat) : 0 < nb ks (j + 1) := by
  induction j with
  | zero => rw [nb, nb, h]; decide
  | succ j ih => rw [nb]; omega

/-- A clamped scalar's number is none of the order's. -/
theorem nb_no {ks : List UInt8} (h0 : kbit ks 0 = 0) (h1 : kbit ks 1 = 0) (h2 : kbit ks 2 = 0) (h3 : kbit ks 254 = 1) : ¬ L ∣ nb ks 255 := by
  have e : nb ks 255 = 8 * nb ks 252 := by
    rw [show nb ks 255 = 2 * (2 * (2 * nb ks 252 + kbit ks (254 - 252)) + kbit ks (254 - 253)) + kbit ks (254 - 254) from rfl, h0, h1, h2]
    omega
  rw [e]
  intro hd
  have h8 : ¬ L ∣ 8 := by decide +kernel
  have hd2 := L_prime.euclid hd h8
  have h5 := nb_le ks 252
  have h6 : 0 < nb ks 252 := nb_pos h3 251
  have h7 := Nat.le_of_dvd h6 hd2
  have h9 : 2 ^ 252 < L := by decide +kernel
  omega

end Go.Proofs.Yteombilmndlhjaa.M.Ed
