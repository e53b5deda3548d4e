/-
  PLAIN MATHEMATICS OF LAYER 1 (numbers as bytes): lists of bytes and natural numbers, nothing of the program. Conditions: none.
-/
namespace Go.Proofs.YtdojalhaklkegaaDoor.M

/-- The first n bytes of a number, the least first. -/
def le (v : Nat) : Nat → List UInt8
  | 0 => []
  | n + 1 => le v n ++ [UInt8.ofNat (v / 256 ^ n)]

/-- The number of the first k bytes, the least first; those that there aren't are 0. -/
def gl (b : List UInt8) : Nat → Nat
  | 0 => 0
  | k + 1 => gl b k + (b.getD k 0).toNat * 256 ^ k

/-- The number of the first k bytes, the greatest first; those that there aren't are 0. -/
def gb (b : List UInt8) : Nat → Nat
  | 0 => 0
  | k + 1 => gb b k * 256 + (b.getD k 0).toNat

theorem le_length (v n : Nat) : (le v n).length = n := by
  induction n with
  | zero => rfl
  | succ n ih => simp [le, ih]

theorem le_getD (v n k : Nat) (h : k < n) : (le v n).getD k 0 = UInt8.ofNat (v / 256 ^ k) := by
  induction n with
  | zero => omega
  | succ n ih =>
    by_cases hk : k < n
    · have := ih hk
      simp only [le, List.getD_eq_getElem?_getD]
      rw [List.getElem?_append_left (by rw [le_length]; exact hk)]
      simpa [List.getD_eq_getElem?_getD] using this
    · have : k = n := by omega
      subst this
      simp [le, List.getD_eq_getElem?_getD, le_length]

theorem pow_pos (k : Nat) : 0 < 256 ^ k := Nat.pow_pos (by omega)

theorem gl_lt (b : List UInt8) (k : Nat) : gl b k < 256 ^ k := by
  induction k with
  | zero => simp [gl]
  | succ k ih =>
    have h := (b.getD k 0).toNat_lt
    have h2 : (b.getD k 0).toNat * 256 ^ k ≤ 255 * 256 ^ k := Nat.mul_le_mul_right _ (by omega)
    simp only [gl, Nat.pow_succ]
    omega

theorem gb_lt (b : List UInt8) (k : Nat) : gb b k < 256 ^ k := by
  induction k with
  | zero => simp [gb]
  | succ k ih =>
    have h := (b.getD k 0).toNat_lt
    simp only [gb, Nat.pow_succ]
    omega

theorem gl_past (b : List UInt8) (k : Nat) (h : b.length ≤ k) : ∀ j, gl b (k + j) = gl b k := by
  intro j
  induction j with
  | zero => rfl
  | succ j ih =>
    rw [← Nat.add_assoc, gl, ih]
    simp [List.getD_eq_getElem?_getD, List.getElem?_eq_none (show b.length ≤ k + j by omega)]

theorem gb_past (b : List UInt8) (k : Nat) (h : b.length ≤ k) : ∀ j, gb b (k + j) = gb b k * 256 ^ j := by
  intro j
  induction j with
  | zero => simp
  | succ j ih =>
    rw [← Nat.add_assoc, gb, ih]
    simp [List.getD_eq_getElem?_getD, List.getElem?_eq_none (show b.length ≤ k + j by omega), Nat.pow_succ, Nat.mul_assoc]

theorem take_next (xs ys : List UInt8) (k : Nat) (hx : k < xs.length) (hy : k < ys.length) (h : xs.take k = ys.take k) (e : (xs.getD k 0).toNat = (ys.getD k 0).toNat) :
    xs.take (k + 1) = ys.take (k + 1) := by
  rw [List.take_succ_eq_append_getElem hx, List.take_succ_eq_append_getElem hy, h]
  have e' : xs.getD k 0 = ys.getD k 0 := UInt8.toNat_inj.1 e
  simp [hx, hy] at e'
  rw [e']

/-- The step of a reckoning from the greatest byte down. -/
theorem gl_step (bs : List UInt8) (v j n : Nat) (h : v * 256 ^ (j + 1) + gl bs (j + 1) = gl bs n) : (v * 256 + (bs.getD j 0).toNat) * 256 ^ j + gl bs j = gl bs n := by
  rw [← h, gl, Nat.pow_succ, Nat.add_mul]
  have : v * (256 ^ j * 256) = v * 256 * 256 ^ j := by rw [Nat.mul_comm (256 ^ j), Nat.mul_assoc]
  omega

theorem gl_small (bs : List UInt8) (v j n : Nat) (hn : n ≤ 8) (h : v * 256 ^ (j + 1) + gl bs (j + 1) = gl bs n) : v * 256 + 255 < 18446744073709551616 := by
  have h1 := gl_lt bs n
  have h2 : (256 : Nat) ^ n ≤ 256 ^ 8 := Nat.pow_le_pow_right (by omega) (by omega)
  have h3 : (256 : Nat) ^ 8 = 18446744073709551616 := by decide
  have h4 : v * 256 ≤ v * 256 ^ (j + 1) := Nat.mul_le_mul_left v (by rw [Nat.pow_succ]; have := pow_pos j; omega)
  omega

theorem gb_small (bs : List UInt8) (k n : Nat) (hn : n ≤ 8) (h : k < n) : gb bs k * 256 + 255 < 18446744073709551616 := by
  have h1 := gb_lt bs k
  have h2 : (256 : Nat) ^ k ≤ 256 ^ 7 := Nat.pow_le_pow_right (by omega) (by omega)
  have h3 : (256 : Nat) ^ 7 = 72057594037927936 := by decide
  omega

theorem getD_past (bs : List UInt8) (j : Nat) (h : ¬ j < bs.length) : (bs.getD j 0).toNat = 0 := by
  simp [List.getD_eq_getElem?_getD, List.getElem?_eq_none (show bs.length ≤ j by omega)]

theorem gl_le (v n : Nat) : ∀ k, k ≤ n → gl (le v n) k = v % 256 ^ k := by
  intro k
  induction k with
  | zero => intro _; simp [gl, Nat.mod_one]
  | succ k ih =>
    intro h
    have e : (UInt8.ofNat (v / 256 ^ k)).toNat = v / 256 ^ k % 256 := by simp
    rw [gl, ih (by omega), le_getD v n k (by omega), e, Nat.mod_pow_succ, Nat.mul_comm (256 ^ k)]

theorem gb_back (v n : Nat) : ∀ k, k ≤ n → gb (le v n).reverse k = (v % 256 ^ n) / 256 ^ (n - k) := by
  intro k
  induction k with
  | zero => intro _; simp [gb, Nat.div_eq_of_lt (Nat.mod_lt v (pow_pos n))]
  | succ k ih =>
    intro h
    have e : (UInt8.ofNat (v / 256 ^ (n - 1 - k))).toNat = v / 256 ^ (n - 1 - k) % 256 := by simp
    have g : (le v n).reverse.getD k 0 = UInt8.ofNat (v / 256 ^ (n - 1 - k)) := by
      rw [← le_getD v n (n - 1 - k) (by omega)]
      simp only [List.getD_eq_getElem?_getD]
      rw [List.getElem?_reverse (by rw [le_length]; omega), le_length]
    have s : n - k = (n - 1 - k) + 1 := by omega
    have t : n - (k + 1) = n - 1 - k := by omega
    rw [gb, ih (by omega), g, e, s, t]
    generalize hm : n - 1 - k = m
    have hmn : m < n := by omega
    have q : v / 256 ^ m % 256 = v % 256 ^ n / 256 ^ m % 256 := by
      have hp : 256 ^ n = 256 ^ m * 256 * 256 ^ (n - 1 - m) := by
        rw [← Nat.pow_succ, ← Nat.pow_add]
        congr 1
        omega
      have h1 : v % 256 ^ n / 256 ^ m = v / 256 ^ m % (256 * 256 ^ (n - 1 - m)) := by
        rw [hp, Nat.mul_assoc, Nat.mod_mul_right_div_self]
      rw [h1, Nat.mod_mul_right_mod]
    rw [q]
    generalize v % 256 ^ n = V
    rw [Nat.pow_succ, ← Nat.div_div_eq_div_mul]
    have := Nat.div_add_mod (V / 256 ^ m) 256
    omega

theorem gl_of_le (v n : Nat) (h : v < 256 ^ n) : gl (le v n) n = v := by
  rw [gl_le v n n (Nat.le_refl _), Nat.mod_eq_of_lt h]

theorem gb_of_back (v n : Nat) (h : v < 256 ^ n) : gb (le v n).reverse n = v := by
  rw [gb_back v n n (Nat.le_refl _), Nat.mod_eq_of_lt h]
  simp

theorem le_mod (v a : Nat) : ∀ n, n ≤ a → le (v % 256 ^ a) n = le v n := by
  intro n
  induction n with
  | zero => intro _; rfl
  | succ n ih =>
    intro h
    have hp : 256 ^ a = 256 ^ n * (256 * 256 ^ (a - 1 - n)) := by
      rw [← Nat.mul_assoc, ← Nat.pow_succ, ← Nat.pow_add]
      congr 1
      omega
    have e : UInt8.ofNat (v % 256 ^ a / 256 ^ n) = UInt8.ofNat (v / 256 ^ n) := by
      rw [hp, Nat.mod_mul_right_div_self]
      apply UInt8.toNat_inj.1
      simp [Nat.mod_mul_right_mod]
    simp only [le]
    rw [ih (by omega), e]

theorem le_add (v a : Nat) : ∀ n, le v (a + n) = le v a ++ le (v / 256 ^ a) n := by
  intro n
  induction n with
  | zero => simp [le]
  | succ n ih =>
    rw [← Nat.add_assoc, le, ih, le, List.append_assoc, Nat.div_div_eq_div_mul, ← Nat.pow_add]

theorem halves (v : Nat) : le v 8 = le (v % 4294967296) 4 ++ le (v / 4294967296) 4 := by
  have h := le_add v 4 4
  have e : (256 : Nat) ^ 4 = 4294967296 := by decide
  rw [e] at h
  have m := le_mod v 4 4 (Nat.le_refl _)
  rw [e] at m
  rw [m]
  exact h

theorem halves_back (v : Nat) : (le v 8).reverse = (le (v / 4294967296) 4).reverse ++ (le (v % 4294967296) 4).reverse := by
  rw [halves, List.reverse_append]

/-- A sum of a small number and a multiple of a power of two beyond it is their 'or'. -/
theorem or_up (a b k : Nat) (h : a < 256 ^ k) : a ||| b * 256 ^ k = a + b * 256 ^ k := by
  have e : (256 : Nat) ^ k = 2 ^ (8 * k) := by rw [Nat.pow_mul]
  rw [e] at h ⊢
  rw [← Nat.shiftLeft_eq, Nat.or_comm, ← Nat.shiftLeft_add_eq_or_of_lt h, Nat.add_comm]

theorem or_down (a b k : Nat) (h : b < 256 ^ k) : a * 256 ^ k ||| b = a * 256 ^ k + b := by
  have e : (256 : Nat) ^ k = 2 ^ (8 * k) := by rw [Nat.pow_mul]
  rw [e] at h ⊢
  rw [← Nat.shiftLeft_eq, Nat.shiftLeft_add_eq_or_of_lt h]

end Go.Proofs.YtdojalhaklkegaaDoor.M
