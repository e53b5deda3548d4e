/-
  PLAIN MATHEMATICS OF orlopref07: numbers by 2^255 - 19 as rows of 32 digits of base 256. Nothing of the program. Conditions: as each says.
-/
import Derived.Test.YteombilmndlhjaaDigits
import Derived.Test.YteombilmndlhjaaPrimeMath
namespace Go.Proofs.Yteombilmndlhjaa.M
set_option linter.unusedVariables false

theorem w32 : (256 : Nat) ^ 32 = 2 * Q + 38 := by decide +kernel

theorem Q_pos : 0 < Q := by decide +kernel

/-- Digit k of a number, and the number behind k digits. -/
theorem mod_next (x k : Nat) : x % 256 ^ (k + 1) = x % 256 ^ k + x / 256 ^ k % 256 * 256 ^ k := by rw [Nat.mod_pow_succ, Nat.mul_comm]

theorem dg_drop_get (v n k : Nat) (h : k < n) : (dg v n).drop k = v / 256 ^ k % 256 :: (dg v n).drop (k + 1) := by
  have hl : k < (dg v n).length := by rw [dg_length]; exact h
  rw [List.drop_eq_getElem_cons hl]
  have := dg_get v n k h
  simp only [List.getD_eq_getElem?_getD, List.getElem?_eq_getElem hl, Option.getD_some] at this
  rw [this]

/-- A row on its way: k digits of X, the others still of Y. -/
def prt (X Y k : Nat) : List Nat := dg X k ++ (dg Y 32).drop k

theorem prt_length (X Y k : Nat) (h : k ≤ 32) : (prt X Y k).length = 32 := by rw [prt, List.length_append, dg_length, List.length_drop, dg_length]; omega

theorem prt_get (X Y k : Nat) (h : k < 32) : (prt X Y k).getD k 0 = Y / 256 ^ k % 256 := by
  rw [prt, List.getD_eq_getElem?_getD, List.getElem?_append_right (by rw [dg_length]; omega), dg_length, Nat.sub_self, dg_drop_get Y 32 k h]
  rfl

theorem prt_set (X Y X' k d : Nat) (h : k < 32) (e : dg X' (k + 1) = dg X k ++ [d]) : (prt X Y k).set k d = prt X' Y (k + 1) := by
  rw [prt, prt, e, List.set_append_right _ _ (by rw [dg_length]; omega), dg_length, Nat.sub_self, dg_drop_get Y 32 k h, List.set_cons_zero, List.append_assoc, List.singleton_append]

theorem prt_zero (X Y : Nat) : prt X Y 0 = dg Y 32 := by simp [prt, dg]

theorem prt_all (X Y : Nat) : prt X Y 32 = dg X 32 := by rw [prt, List.drop_eq_nil_of_le (by rw [dg_length]; omega), List.append_nil]

theorem prt_dig (X Y k i : Nat) (h : k ≤ 32) : (prt X Y k).getD i 0 < 256 := by
  rw [prt, List.getD_eq_getElem?_getD]
  by_cases hi : i < k
  · rw [List.getElem?_append_left (by rw [dg_length]; exact hi), ← List.getD_eq_getElem?_getD]
    exact dg_dig X k i
  · rw [List.getElem?_append_right (by rw [dg_length]; omega), dg_length, List.getElem?_drop, ← List.getD_eq_getElem?_getD]
    exact dg_dig Y 32 _

/-! less -/

theorem div_lt_div {x y n : Nat} (h : x / n < y / n) : x < y := by
  rcases Nat.lt_or_ge x y with h1 | h1
  · exact h1
  · have := Nat.div_le_div_right (c := n) h1
    omega

theorem div_next (x i : Nat) : x / 256 ^ i = 256 * (x / 256 ^ (i + 1)) + x / 256 ^ i % 256 := by
  rw [Nat.pow_succ, ← Nat.div_div_eq_div_mul]
  omega

/-- Where all digits above are alike: a digit that isn't tells which is less. -/
theorem less_at (x y i : Nat) (h : x / 256 ^ (i + 1) = y / 256 ^ (i + 1)) (hne : x / 256 ^ i % 256 ≠ y / 256 ^ i % 256) : decide (x / 256 ^ i % 256 < y / 256 ^ i % 256) = decide (x < y) := by
  have e1 := div_next x i
  have e2 := div_next y i
  rw [h] at e1
  rw [decide_eq_decide]
  constructor
  · intro hl
    exact div_lt_div (n := 256 ^ i) (by omega)
  · intro hl
    have h3 : x / 256 ^ i ≤ y / 256 ^ i := Nat.div_le_div_right (by omega)
    omega

theorem less_on (x y i : Nat) (h : x / 256 ^ (i + 1) = y / 256 ^ (i + 1)) (he : x / 256 ^ i % 256 = y / 256 ^ i % 256) : x / 256 ^ i = y / 256 ^ i := by
  rw [div_next x i, div_next y i, h, he]

theorem less_top (x y : Nat) (hx : x < 256 ^ 32) (hy : y < 256 ^ 32) : x / 256 ^ 32 = y / 256 ^ 32 := by rw [Nat.div_eq_of_lt hx, Nat.div_eq_of_lt hy]

/-! minus -/

def mS (x y k : Nat) : Nat := x % 256 ^ k + 256 ^ k - y % 256 ^ k

/-- What is borrowed. -/
def mC (x y k : Nat) : Nat := 1 - mS x y k / 256 ^ k

theorem mS_lt (x y k : Nat) : mS x y k / 256 ^ k < 2 := by
  apply carry_le
  have := Nat.mod_lt x (pow_pos k)
  rw [mS]
  omega

theorem mS_next (x y k : Nat) : mS x y (k + 1) = mS x y k + (x / 256 ^ k % 256 + 255 - y / 256 ^ k % 256) * 256 ^ k := by
  have h1 := Nat.mod_lt y (pow_pos k)
  have h2 : y / 256 ^ k % 256 < 256 := Nat.mod_lt _ (by decide)
  rw [mS, mS, mod_next x k, mod_next y k, Nat.pow_succ, Nat.sub_mul, Nat.add_mul]
  have h3 : y / 256 ^ k % 256 * 256 ^ k ≤ 255 * 256 ^ k := Nat.mul_le_mul_right _ (by omega)
  generalize y / 256 ^ k % 256 * 256 ^ k = A at *
  generalize x / 256 ^ k % 256 * 256 ^ k = B at *
  generalize y % 256 ^ k = C at *
  generalize x % 256 ^ k = D at *
  omega

theorem minus_step (x y k : Nat) : ∃ d, dg (mS x y (k + 1)) (k + 1) = dg (mS x y k) k ++ [d] ∧ mC x y k ≤ 1 ∧ d < 256 ∧
    ((d + y / 256 ^ k % 256 + mC x y k = x / 256 ^ k % 256 ∧ mC x y (k + 1) = 0) ∨ (x / 256 ^ k % 256 < y / 256 ^ k % 256 + mC x y k ∧ d + y / 256 ^ k % 256 + mC x y k = x / 256 ^ k % 256 + 256 ∧ mC x y (k + 1) = 1)) := by
  obtain ⟨h1, h2⟩ := add_step (mS x y k) (x / 256 ^ k % 256 + 255 - y / 256 ^ k % 256) k
  rw [← mS_next] at h1 h2
  have h3 := mS_lt x y k
  refine ⟨_, h1, Nat.sub_le _ _, Nat.mod_lt _ (by decide), ?_⟩
  have hx : x / 256 ^ k % 256 < 256 := Nat.mod_lt _ (by decide)
  have hy : y / 256 ^ k % 256 < 256 := Nat.mod_lt _ (by decide)
  simp only [mC, h2]
  generalize x / 256 ^ k % 256 = X at *
  generalize y / 256 ^ k % 256 = Y at *
  generalize mS x y k / 256 ^ k = S at *
  omega

theorem minus_zero (x y : Nat) : mC x y 0 = 0 := by simp [mC, mS, Nat.mod_one]

theorem minus_all (x y : Nat) (hx : x < 256 ^ 32) (h : y ≤ x) : dg (mS x y 32) 32 = dg (x - y) 32 := by
  apply dg_congr
  rw [mS, Nat.mod_eq_of_lt hx, Nat.mod_eq_of_lt (show y < 256 ^ 32 by omega), show x + 256 ^ 32 - y = x - y + 256 ^ 32 by omega, Nat.add_mod_right]

/-! fold -/

/-- The first k places of a sum. -/
def fY (O : Nat) (l : List Nat) (k : Nat) : Nat := O % 256 ^ k + gi l k

theorem fY_next (O : Nat) (l : List Nat) (k : Nat) : fY O l (k + 1) = fY O l k + (O / 256 ^ k % 256 + l.getD k 0) * 256 ^ k := by
  rw [fY, fY, mod_next, gi, Nat.add_mul]
  omega

theorem fold_step (O : Nat) (l : List Nat) (k : Nat) : dg (fY O l (k + 1)) (k + 1) = dg (fY O l k) k ++ [(O / 256 ^ k % 256 + fY O l k / 256 ^ k + l.getD k 0) % 256] ∧
    fY O l (k + 1) / 256 ^ (k + 1) = (O / 256 ^ k % 256 + fY O l k / 256 ^ k + l.getD k 0) / 256 := by
  obtain ⟨h1, h2⟩ := add_step (fY O l k) (O / 256 ^ k % 256 + l.getD k 0) k
  rw [← fY_next] at h1 h2
  rw [h1, h2, show fY O l k / 256 ^ k + (O / 256 ^ k % 256 + l.getD k 0) = O / 256 ^ k % 256 + fY O l k / 256 ^ k + l.getD k 0 by omega]
  exact ⟨rfl, rfl⟩

/-- What is carried is at most as great as the greatest place. -/
theorem fY_le (O : Nat) (l : List Nat) (B : Nat) (hB : ∀ i, l.getD i 0 ≤ B) (k : Nat) : fY O l k / 256 ^ k ≤ B / 255 + 1 := by
  induction k with
  | zero => simp [fY, gi, Nat.mod_one]
  | succ k ih =>
    rw [(fold_step O l k).2]
    have h1 := hB k
    have h2 : O / 256 ^ k % 256 < 256 := Nat.mod_lt _ (by decide)
    omega

theorem gi_drop (l : List Nat) (n : Nat) : ∀ j, gi l (n + j) = gi l n + gi (l.drop n) j * 256 ^ n := by
  intro j
  induction j with
  | zero => simp [gi]
  | succ j ih =>
    rw [← Nat.add_assoc, gi, ih, gi, Nat.add_mul, show (l.drop n).getD j 0 = l.getD (n + j) 0 by simp [List.getD_eq_getElem?_getD], Nat.pow_add, Nat.mul_comm (256 ^ n) (256 ^ j), ← Nat.mul_assoc]
    omega

theorem gi_congr (a b : List Nat) (k : Nat) (h : ∀ i, i < k → a.getD i 0 = b.getD i 0) : gi a k = gi b k := by
  induction k with
  | zero => rfl
  | succ k ih => rw [gi, gi, ih fun i hi => h i (by omega), h k (by omega)]

theorem gi_scale (l m : List Nat) (c k : Nat) (h : ∀ i, i < k → m.getD i 0 = c * l.getD i 0) : gi m k = c * gi l k := by
  induction k with
  | zero => rfl
  | succ k ih => rw [gi, gi, ih fun i hi => h i (by omega), h k (by omega), Nat.mul_add, Nat.mul_assoc]

theorem gi_head (l : List Nat) (k : Nat) (h : 0 < k) (x : Nat) (hl : 0 < l.length) : gi (l.set 0 x) k + l.getD 0 0 = gi l k + x := by
  induction k with
  | zero => omega
  | succ k ih =>
    by_cases hk : k = 0
    · subst hk
      simp [gi, hl, List.getD_eq_getElem?_getD]
      omega
    · have e : (l.set 0 x).getD k 0 = l.getD k 0 := by
        simp only [List.getD_eq_getElem?_getD, List.getElem?_set]
        rw [if_neg (by omega)]
      have := ih (by omega)
      rw [gi, gi, e]
      omega

/-- What is beyond 32 places counts 38 times. -/
theorem fold_mod (T' X R : Nat) (h : T' = X + 38 * R) : T' % Q = (X + R * 256 ^ 32) % Q := by
  rw [h, w32, show X + R * (2 * Q + 38) = X + 38 * R + 2 * R * Q by rw [Nat.mul_add, Nat.mul_comm R 38, ← Nat.mul_assoc, Nat.mul_comm R 2]; omega, Nat.add_mul_mod_self_right]

/-! rest -/

theorem rest_sub (a : Nat) (h : Q ≤ a) : (a - Q) % Q = a % Q := by
  conv => rhs; rw [show a = a - Q + Q by omega]
  rw [Nat.add_mod_right]

end Go.Proofs.Yteombilmndlhjaa.M
