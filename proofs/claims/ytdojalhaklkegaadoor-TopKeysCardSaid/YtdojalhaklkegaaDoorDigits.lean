/-
  PLAIN MATHEMATICS: numbers as rows of digits of base 256, the least first. Nothing of the program. Conditions: as each says.
-/
import Derived.Test.YtdojalhaklkegaaDoorMath
namespace Go.Proofs.YtdojalhaklkegaaDoor.M

/-- The number of the first k digits. -/
def gi (l : List Nat) : Nat → Nat
  | 0 => 0
  | k + 1 => gi l k + l.getD k 0 * 256 ^ k

/-- The first n digits of a number. -/
def dg (v : Nat) : Nat → List Nat
  | 0 => []
  | n + 1 => dg v n ++ [v / 256 ^ n % 256]

/-- All are digits. -/
def Dig (l : List Nat) : Prop := ∀ i, l.getD i 0 < 256

theorem dg_length (v n : Nat) : (dg v n).length = n := by
  induction n with
  | zero => rfl
  | succ n ih => simp [dg, ih]

theorem dg_get (v n k : Nat) (h : k < n) : (dg v n).getD k 0 = v / 256 ^ k % 256 := by
  induction n with
  | zero => omega
  | succ n ih =>
    by_cases hk : k < n
    · have := ih hk
      simp only [dg, List.getD_eq_getElem?_getD] at this ⊢
      rw [List.getElem?_append_left (by rw [dg_length]; exact hk)]
      exact this
    · have : k = n := by omega
      subst this
      simp [dg, List.getD_eq_getElem?_getD, dg_length]

theorem dg_past (v n k : Nat) (h : n ≤ k) : (dg v n).getD k 0 = 0 := by
  simp [List.getD_eq_getElem?_getD, List.getElem?_eq_none (show (dg v n).length ≤ k by rw [dg_length]; exact h)]

theorem dg_dig (v n : Nat) : Dig (dg v n) := by
  intro i
  by_cases h : i < n
  · rw [dg_get v n i h]; omega
  · rw [dg_past v n i (by omega)]; omega

/-- Two rows of one length, digit by digit. -/
theorem ext_getDN (a b : List Nat) (hl : a.length = b.length) (h : ∀ i, i < a.length → a.getD i 0 = b.getD i 0) : a = b := by
  apply List.ext_getElem hl
  intro i h1 h2
  have := h i h1
  simpa [h1, h2] using this

theorem dg_mod (v k : Nat) : ∀ n, n ≤ k → dg (v % 256 ^ k) n = dg v n := by
  intro n
  induction n with
  | zero => intro _; rfl
  | succ n ih =>
    intro h
    rw [dg, dg, ih (by omega)]
    have hp : 256 ^ k = 256 ^ n * 256 * 256 ^ (k - 1 - n) := by
      rw [← Nat.pow_succ, ← Nat.pow_add]
      congr 1
      omega
    have q : v % 256 ^ k / 256 ^ n % 256 = v / 256 ^ n % 256 := by
      rw [hp, Nat.mul_assoc, Nat.mod_mul_right_div_self, Nat.mod_mul_right_mod]
    rw [q]

theorem dg_congr (v w n : Nat) (h : v % 256 ^ n = w % 256 ^ n) : dg v n = dg w n := by
  rw [← dg_mod v n n (Nat.le_refl _), h, dg_mod w n n (Nat.le_refl _)]

theorem dg_add (v y n : Nat) : dg (v + y * 256 ^ n) n = dg v n := dg_congr _ _ _ (by rw [Nat.add_mul_mod_self_right])

theorem dg_take (v n k : Nat) (h : k ≤ n) : (dg v n).take k = dg v k := by
  apply ext_getDN
  · rw [List.length_take, dg_length, dg_length]; omega
  · intro i hi
    rw [List.length_take, dg_length] at hi
    rw [dg_get v k i (by omega), ← dg_get v n i (by omega)]
    simp [List.getD_eq_getElem?_getD, show i < k by omega]

theorem gi_dg (v n : Nat) : ∀ k, k ≤ n → gi (dg v n) k = v % 256 ^ k := by
  intro k
  induction k with
  | zero => intro _; simp [gi, Nat.mod_one]
  | succ k ih =>
    intro h
    rw [gi, ih (by omega), dg_get v n k (by omega), Nat.mod_pow_succ, Nat.mul_comm (256 ^ k)]

theorem gi_past (l : List Nat) (k : Nat) (h : l.length ≤ k) : ∀ j, gi l (k + j) = gi l k := by
  intro j
  induction j with
  | zero => rfl
  | succ j ih =>
    rw [← Nat.add_assoc, gi, ih]
    simp [List.getD_eq_getElem?_getD, List.getElem?_eq_none (show l.length ≤ k + j by omega)]

theorem gi_all (l : List Nat) (k : Nat) (h : l.length ≤ k) : gi l k = gi l l.length := by
  have := gi_past l l.length (Nat.le_refl _) (k - l.length)
  rwa [show l.length + (k - l.length) = k by omega] at this

theorem gi_dg_all (v n k : Nat) (h : n ≤ k) : gi (dg v n) k = v % 256 ^ n := by
  rw [gi_all _ _ (by rw [dg_length]; exact h), dg_length, gi_dg v n n (Nat.le_refl _)]

theorem gi_lt (l : List Nat) (h : Dig l) (k : Nat) : gi l k < 256 ^ k := by
  induction k with
  | zero => simp [gi]
  | succ k ih =>
    have h1 := h k
    have h2 : l.getD k 0 * 256 ^ k ≤ 255 * 256 ^ k := Nat.mul_le_mul_right _ (by omega)
    simp only [gi, Nat.pow_succ]
    omega

/-- One digit more of a sum, and what is carried. -/
theorem add_step (X y k : Nat) : dg (X + y * 256 ^ k) (k + 1) = dg X k ++ [(X / 256 ^ k + y) % 256] ∧ (X + y * 256 ^ k) / 256 ^ (k + 1) = (X / 256 ^ k + y) / 256 := by
  have e : (X + y * 256 ^ k) / 256 ^ k = X / 256 ^ k + y := Nat.add_mul_div_right _ _ (pow_pos k)
  refine ⟨by rw [dg, dg_add, e], ?_⟩
  rw [Nat.pow_succ, ← Nat.div_div_eq_div_mul, e]

theorem carry_le (X k c : Nat) (h : X < c * 256 ^ k) : X / 256 ^ k < c := Nat.div_lt_of_lt_mul (by rw [Nat.mul_comm]; exact h)

end Go.Proofs.YtdojalhaklkegaaDoor.M
