/-
  PLAIN MATHEMATICS OF LAYER 7: 2^255 - 19 is prime (by Pocklington's criterion, again and again), so each number's power p - 1 is 1 by p (Fermat). Nothing of the program. Conditions: none.
  PLAIN MATHEMATICS OF orlopref07: numbers by 2^255 - 19 as rows of 32 digits of base 256. Nothing of the program. Conditions: as each says.
  CONTRACTS OF orlopref07.prime, less, minus AND Rest: numbers below 2^256 as arrays of 32 digits. Conditions: the numbers are below 2^256; what is taken away isn't greater.
-/
import Derived.Test.YtdojalhaklkegaaDoorPn1
import Derived.Test.YtdojalhaklkegaaDoorPn11
import Derived.Test.YtdojalhaklkegaaDoorPn15
import Derived.Deep.QuietTactic
import Derived.BigQuiet
import Derived.Lib.Hide

namespace Go.Proofs.YtdojalhaklkegaaDoor.M
set_option linter.unusedVariables false

def Pr (n : Nat) : Prop := 1 < n ∧ ∀ d, d ∣ n → d = 1 ∨ d = n

theorem Pr.coprime {r k : Nat} (h : Pr r) (hk : ¬ r ∣ k) : Nat.Coprime r k := by
  rcases h.2 (Nat.gcd r k) (Nat.gcd_dvd_left r k) with e | e
  · exact e
  · exact absurd (e ▸ Nat.gcd_dvd_right r k) hk

theorem Pr.euclid {r a b : Nat} (h : Pr r) (hd : r ∣ a * b) (ha : ¬ r ∣ a) : r ∣ b := (h.coprime ha).dvd_of_dvd_mul_left hd

/-- Every number above 1 has a prime divisor. -/
theorem exists_pr : ∀ n, 1 < n → ∃ r, Pr r ∧ r ∣ n := by
  intro n
  induction n using Nat.strongRecOn with
  | _ n ih =>
    intro hn
    by_cases h : ∀ d, d ∣ n → d = 1 ∨ d = n
    · exact ⟨n, ⟨hn, h⟩, Nat.dvd_refl n⟩
    · have : ∃ d, d ∣ n ∧ ¬ (d = 1 ∨ d = n) := by
        apply Classical.byContradiction
        intro hh
        exact h fun d hd => Classical.byContradiction fun h2 => hh ⟨d, hd, h2⟩
      obtain ⟨d, hd, hne⟩ := this
      have hle := Nat.le_of_dvd (by omega) hd
      have h0 : d ≠ 0 := by rintro rfl; have := Nat.eq_zero_of_zero_dvd hd; omega
      obtain ⟨r, hr, hrd⟩ := ih d (by omega) (by omega)
      exact ⟨r, hr, Nat.dvd_trans hrd hd⟩

/-- A number all of whose prime divisors are above its root is prime. -/
theorem pr_of_root (n : Nat) (hn : 1 < n) (h : ∀ r, Pr r → r ∣ n → n < r * r) : Pr n := by
  obtain ⟨r, hr, k, hk⟩ := exists_pr n hn
  have hlt := h r hr ⟨k, hk⟩
  by_cases h1 : k = 1
  · rw [h1, Nat.mul_one] at hk
    rw [hk]
    exact hr
  · have hk0 : k ≠ 0 := by rintro rfl; omega
    obtain ⟨s, hs, hsd⟩ := exists_pr k (by omega)
    have hsk := Nat.le_of_dvd (by omega) hsd
    have hlt2 := h s hs (Nat.dvd_trans hsd ⟨r, by rw [hk, Nat.mul_comm]⟩)
    exfalso
    rw [hk] at hlt hlt2
    have h3 : k < r := Nat.lt_of_mul_lt_mul_left hlt
    have h4 : s * s ≤ r * k := Nat.mul_le_mul (by omega) hsk
    omega

/-- Small primes: no number up to the root divides. -/
def trial (n : Nat) : Nat → Nat → Bool
  | 0, _ => true
  | f + 1, d => (n % d != 0) && trial n f (d + 1)

theorem trial_ok (n : Nat) : ∀ f d, trial n f d = true → ∀ k, d ≤ k → k < d + f → ¬ k ∣ n := by
  intro f
  induction f with
  | zero => intro d _ k h1 h2; omega
  | succ f ih =>
    intro d h k h1 h2 hd
    simp only [trial, Bool.and_eq_true, bne_iff_ne] at h
    by_cases e : k = d
    · subst e
      exact h.1 (Nat.mod_eq_zero_of_dvd hd)
    · exact ih (d + 1) h.2 k (by omega) (by omega) hd

theorem pr_small (n f : Nat) (hn : 1 < n) (hf : n < (f + 2) * (f + 2)) (h : trial n f 2 = true) : Pr n := by
  refine pr_of_root n hn fun r hr hd => ?_
  by_cases hlt : r < 2 + f
  · exact absurd hd (trial_ok n f 2 h r hr.1 hlt)
  · have : (f + 2) * (f + 2) ≤ r * r := Nat.mul_le_mul (by omega) (by omega)
    omega

/-- Numbers of ways. -/
def ways : Nat → Nat → Nat
  | _, 0 => 1
  | 0, _ + 1 => 0
  | n + 1, k + 1 => ways n k + ways n (k + 1)

theorem ways_zero (n : Nat) : ways n 0 = 1 := by cases n <;> rfl

theorem ways_above : ∀ n k, n < k → ways n k = 0 := by
  intro n
  induction n with
  | zero => intro k h; match k, h with | k + 1, _ => rfl
  | succ n ih => intro k h; match k, h with | k + 1, h => rw [ways, ih k (by omega), ih (k + 1) (by omega)]

theorem ways_all : ∀ n, ways n n = 1 := by
  intro n
  induction n with
  | zero => rfl
  | succ n ih => rw [ways, ih, ways_above n (n + 1) (by omega)]

theorem ways_mul : ∀ n k, (k + 1) * ways (n + 1) (k + 1) = (n + 1) * ways n k := by
  intro n
  induction n with
  | zero =>
    intro k
    match k with
    | 0 => rfl
    | k + 1 => rw [show ways (0 + 1) (k + 1 + 1) = 0 from ways_above _ _ (by omega), show ways 0 (k + 1) = 0 from rfl]; rfl
  | succ n ih =>
    intro k
    match k with
    | 0 =>
      have h := ih 0
      rw [ways_zero] at h ⊢
      rw [ways, ways_zero]
      omega
    | k + 1 =>
      have h1 := ih k
      have h2 := ih (k + 1)
      rw [ways]
      generalize hA : ways (n + 1) (k + 1) = A at *
      generalize hB : ways (n + 1) (k + 1 + 1) = B at *
      have h3 : A = ways n k + ways n (k + 1) := by rw [← hA, ways]
      generalize ways n k = C at *
      generalize ways n (k + 1) = D at *
      rw [Nat.mul_add, h2, Nat.add_mul (k + 1) 1 A, h1, h3, Nat.one_mul, Nat.add_mul (n + 1) 1 (C + D), Nat.mul_add, Nat.one_mul]
      omega

/-- The first m terms of (a + 1)^n. -/
def terms (n a : Nat) : Nat → Nat
  | 0 => 0
  | m + 1 => terms n a m + ways n m * a ^ m

theorem terms_next (n a : Nat) : ∀ m, terms (n + 1) a (m + 1) = terms n a (m + 1) + a * terms n a m := by
  intro m
  induction m with
  | zero => simp [terms, ways_zero]
  | succ m ih =>
    rw [terms, ih, ways, terms, terms, terms, Nat.add_mul, Nat.mul_add, show a * (ways n m * a ^ m) = ways n m * a ^ (m + 1) by rw [Nat.pow_succ, Nat.mul_left_comm, Nat.mul_comm a]]
    omega

theorem terms_all (a : Nat) : ∀ n, (a + 1) ^ n = terms n a (n + 1) := by
  intro n
  induction n with
  | zero => simp [terms, ways]
  | succ n ih => rw [terms_next, show terms n a (n + 1 + 1) = terms n a (n + 1) + ways n (n + 1) * a ^ (n + 1) from rfl, ways_above n (n + 1) (by omega), Nat.zero_mul, ← ih, Nat.pow_succ, Nat.mul_add, Nat.mul_one, Nat.add_comm, Nat.mul_comm]; rfl

theorem Pr.ways {r : Nat} (h : Pr r) (k : Nat) (h0 : 0 < k) (hk : k < r) : r ∣ ways r k := by
  obtain ⟨n, rfl⟩ : ∃ n, r = n + 1 := ⟨r - 1, by have := h.1; omega⟩
  obtain ⟨j, rfl⟩ : ∃ j, k = j + 1 := ⟨k - 1, by omega⟩
  have e := ways_mul n j
  refine h.euclid (a := j + 1) ⟨M.ways n j, e⟩ fun hd => ?_
  have := Nat.le_of_dvd (by omega) hd
  omega

theorem terms_mod {r : Nat} (h : Pr r) (a : Nat) : ∀ m, 1 ≤ m → m ≤ r → terms r a m % r = 1 := by
  intro m
  induction m with
  | zero => intro h1; omega
  | succ m ih =>
    intro _ hm
    by_cases h0 : m = 0
    · subst h0
      simp only [terms, ways_zero, Nat.pow_zero, Nat.mul_one, Nat.zero_add]
      exact Nat.mod_eq_of_lt h.1
    · obtain ⟨c, hc⟩ := h.ways m (by omega) (by omega)
      rw [terms, hc, Nat.mul_assoc, Nat.add_mul_mod_self_left]
      exact ih (by omega) (by omega)

theorem dream {r : Nat} (h : Pr r) (a : Nat) : (a + 1) ^ r % r = (a ^ r + 1) % r := by
  have hr := h.1
  rw [terms_all, terms, ways_all, Nat.one_mul, Nat.add_mod, terms_mod h a r (by omega) (Nat.le_refl _), Nat.add_mod (a ^ r) 1, Nat.mod_eq_of_lt hr, Nat.add_comm]

theorem little {r : Nat} (h : Pr r) : ∀ a, a ^ r % r = a % r := by
  intro a
  induction a with
  | zero => rw [Nat.zero_pow (by have := h.1; omega)]
  | succ a ih => rw [dream h, Nat.add_mod, ih, ← Nat.add_mod]

theorem sub_dvd_of_mod {r x y : Nat} (h : x % r = y % r) (hle : y ≤ x) : r ∣ x - y := by
  rw [Nat.dvd_iff_mod_eq_zero]
  exact Nat.sub_mod_eq_zero_of_mod_eq h

theorem mod_of_sub_dvd {r x y : Nat} (h : r ∣ x - y) (hle : y ≤ x) : x % r = y % r := by
  obtain ⟨c, hc⟩ := h
  have : x = y + r * c := by omega
  rw [this, Nat.add_mul_mod_self_left]

/-- Fermat. -/
theorem fermat {r : Nat} (h : Pr r) (a : Nat) (ha : ¬ r ∣ a) : a ^ (r - 1) % r = 1 := by
  have hr := h.1
  have h1 : 0 < a := by
    rcases Nat.eq_zero_or_pos a with e | e
    · exact absurd (e ▸ Nat.dvd_zero r) ha
    · exact e
  have h2 : 1 ≤ a ^ (r - 1) := Nat.pow_pos h1
  have e : a ^ r = a * a ^ (r - 1) := by
    obtain ⟨n, rfl⟩ : ∃ n, r = n + 1 := ⟨r - 1, by omega⟩
    rw [Nat.add_sub_cancel, Nat.pow_succ, Nat.mul_comm]
  have h3 : r ∣ a * (a ^ (r - 1) - 1) := by
    rw [Nat.mul_sub, ← e, Nat.mul_one]
    exact sub_dvd_of_mod (little h a) (by rw [e]; exact Nat.le_mul_of_pos_right _ (by omega))
  have h4 := h.euclid h3 ha
  rw [mod_of_sub_dvd h4 h2, Nat.mod_eq_of_lt hr]

theorem pow_mod_one {r b m : Nat} (hr : 1 < r) (h : b ^ m % r = 1) (k : Nat) : b ^ (m * k) % r = 1 := by
  rw [Nat.pow_mul, Nat.pow_mod, h, Nat.one_pow, Nat.mod_eq_of_lt hr]

/-- The powers that are 1 are multiples of one. -/
theorem pow_gcd {r b : Nat} (hr : 1 < r) (m n : Nat) : b ^ m % r = 1 → b ^ n % r = 1 → b ^ (Nat.gcd m n) % r = 1 := by
  induction m, n using Nat.gcd.induction with
  | H0 n => intro _ h; rwa [Nat.gcd_zero_left]
  | H1 m n hm ih =>
    intro h1 h2
    rw [Nat.gcd_rec]
    refine ih ?_ h1
    have e : b ^ n = b ^ (m * (n / m)) * b ^ (n % m) := by rw [← Nat.pow_add, Nat.div_add_mod]
    rw [e, Nat.mul_mod, pow_mod_one hr h1, Nat.one_mul, Nat.mod_mod] at h2
    exact h2

/-- Pocklington: a prime divisor q of n - 1 is one of r - 1, too, for each prime divisor r of n. -/
theorem pock {n a q r : Nat} (hr : Pr r) (hrn : r ∣ n) (hq : Pr q) (hn : 1 < n) (h1 : a ^ (n - 1) % n = 1) (k : Nat) (hk : n - 1 = k * q) (h2 : Nat.gcd (a ^ k % n + n - 1) n = 1) : q ∣ r - 1 := by
  apply Classical.byContradiction
  intro hno
  have hr1 := hr.1
  have m1 : ∀ x, x % n % r = x % r := fun x => Nat.mod_mod_of_dvd x hrn
  have e1 : (a ^ k) ^ q % r = 1 := by
    rw [← Nat.pow_mul, ← hk, ← m1, h1, Nat.mod_eq_of_lt hr1]
  have hna : ¬ r ∣ a ^ k := by
    intro hd
    have := Nat.mod_eq_zero_of_dvd hd
    rw [Nat.pow_mod, this, Nat.zero_pow (by have := hq.1; omega)] at e1
    simp at e1
  have e2 := fermat hr (a ^ k) hna
  have e3 := pow_gcd hr1 q (r - 1) e1 e2
  rw [hq.coprime hno, Nat.pow_one] at e3
  have hd : r ∣ a ^ k % n + n - 1 := by
    have hle : 1 ≤ a ^ k % n + n := by omega
    refine sub_dvd_of_mod ?_ hle
    obtain ⟨c, hc⟩ := hrn
    rw [show a ^ k % n + n = a ^ k % n + r * c by rw [← hc], Nat.add_mul_mod_self_left, m1, e3, Nat.mod_eq_of_lt hr1]
  have := Nat.dvd_gcd hd hrn
  rw [h2] at this
  have := Nat.le_of_dvd (by omega) this
  omega

/-- A power by a number, bit by bit: acc * b ^ e % m. -/
def pm (m : Nat) : Nat → Nat → Nat → Nat → Nat
  | 0, _, _, acc => acc
  | f + 1, b, e, acc => pm m f (b * b % m) (e / 2) (if e % 2 = 1 then acc * b % m else acc)

theorem pm_ok (m : Nat) : ∀ f b e acc, e < 2 ^ f → pm m f b e acc % m = acc * b ^ e % m := by
  intro f
  induction f with
  | zero => intro b e acc h; obtain rfl : e = 0 := by simpa using h
            rw [pm, Nat.pow_zero, Nat.mul_one]
  | succ f ih =>
    intro b e acc h
    have he : e / 2 < 2 ^ f := by rw [Nat.pow_succ] at h; omega
    rw [pm, ih _ _ _ he]
    have e2 : (b * b % m) ^ (e / 2) % m = b ^ (2 * (e / 2)) % m := by rw [← Nat.pow_mod, Nat.pow_mul, Nat.pow_two]
    by_cases h1 : e % 2 = 1
    · rw [if_pos h1, Nat.mul_mod, e2, Nat.mod_mod, ← Nat.mul_mod, Nat.mul_assoc, ← Nat.pow_succ', show (2 * (e / 2)).succ = e by omega]
    · rw [if_neg h1, Nat.mul_mod, e2, ← Nat.mul_mod, show 2 * (e / 2) = e by omega]

theorem pm_one (m f b e : Nat) (h : e < 2 ^ f) : b ^ e % m = pm m f b e 1 % m := by rw [pm_ok m f b e 1 h, Nat.one_mul]

/-- The criterion with one prime. -/
theorem pr_one (n q k a f : Nat) (hq : Pr q) (hn : 1 < n) (hk : n - 1 = k * q) (hf : n - 1 < 2 ^ f) (h1 : pm n f a (n - 1) 1 % n = 1) (h2 : Nat.gcd (pm n f a k 1 % n + n - 1) n = 1) (hroot : n < q * q) : Pr n := by
  refine pr_of_root n hn fun r hr hrn => ?_
  have hkn : k < 2 ^ f := Nat.lt_of_le_of_lt (by rw [hk]; exact Nat.le_mul_of_pos_right _ (by have := hq.1; omega)) hf
  have hd := pock hr hrn hq hn (by rw [pm_one n f a _ hf]; exact h1) k hk (by rw [pm_one n f a k hkn]; exact h2)
  have := Nat.le_of_dvd (by have := hr.1; omega) hd
  have h3 : q * q ≤ r * r := Nat.mul_le_mul (by omega) (by omega)
  omega

/-- The criterion with two. -/
theorem pr_two (n q s k l a f : Nat) (hq : Pr q) (hs : Pr s) (hqs : Nat.gcd q s = 1) (hn : 1 < n) (hk : n - 1 = k * q) (hl : n - 1 = l * s) (hf : n - 1 < 2 ^ f) (h1 : pm n f a (n - 1) 1 % n = 1) (h2 : Nat.gcd (pm n f a k 1 % n + n - 1) n = 1) (h3 : Nat.gcd (pm n f a l 1 % n + n - 1) n = 1)
    (hroot : n < q * s * (q * s)) : Pr n := by
  refine pr_of_root n hn fun r hr hrn => ?_
  have hkn : k < 2 ^ f := Nat.lt_of_le_of_lt (by rw [hk]; exact Nat.le_mul_of_pos_right _ (by have := hq.1; omega)) hf
  have hln : l < 2 ^ f := Nat.lt_of_le_of_lt (by rw [hl]; exact Nat.le_mul_of_pos_right _ (by have := hs.1; omega)) hf
  have hd := pock hr hrn hq hn (by rw [pm_one n f a _ hf]; exact h1) k hk (by rw [pm_one n f a k hkn]; exact h2)
  have hd2 := pock hr hrn hs hn (by rw [pm_one n f a _ hf]; exact h1) l hl (by rw [pm_one n f a l hln]; exact h3)
  have := Nat.le_of_dvd (by have := hr.1; omega) (Nat.Coprime.mul_dvd_of_dvd_of_dvd hqs hd hd2)
  have h3 : q * s * (q * s) ≤ r * r := Nat.mul_le_mul (by omega) (by omega)
  omega

theorem pr_8574133 : Pr 8574133 := pr_small _ 2930 (by decide) (by decide) (by decide +kernel)
theorem pr_127 : Pr 127 := pr_small _ 12 (by decide) (by decide) (by decide +kernel)
theorem pr_569003 : Pr 569003 := pr_small _ 760 (by decide) (by decide) (by decide +kernel)
theorem pr_430751 : Pr 430751 := pr_small _ 660 (by decide) (by decide) (by decide +kernel)
theorem pr_4153 : Pr 4153 := pr_small _ 70 (by decide) (by decide) (by decide +kernel)
theorem pr_2773320623 : Pr 2773320623 := pr_one _ 569003 4874 2 32 pr_569003 (by decide) (by decide) (by decide +kernel) (by decide +kernel) (by decide +kernel) (by decide)
theorem pr_D : Pr 72106336199 := pr_one _ 2773320623 26 2 40 pr_2773320623 (by decide) (by decide) (by decide +kernel) (by decide +kernel) (by decide +kernel) (by decide)
theorem pr_B : Pr 31757755568855353 := pr_two _ 430751 4153 (31757755568855352 / 430751) (31757755568855352 / 4153) 2 60 pr_430751 pr_4153 (by decide +kernel) (by decide) (by decide +kernel) (by decide +kernel) (by decide +kernel) (by decide +kernel) (by decide +kernel) (by decide +kernel) (by decide +kernel)
theorem pr_C : Pr 1919519569386763 := pr_two _ 8574133 127 (1919519569386762 / 8574133) (1919519569386762 / 127) 2 60 pr_8574133 pr_127 (by decide +kernel) (by decide) (by decide +kernel) (by decide +kernel) (by decide +kernel) (by decide +kernel) (by decide +kernel) (by decide +kernel) (by decide +kernel)
theorem pr_A : Pr 75445702479781427272750846543864801 := pr_two _ 1919519569386763 72106336199 (75445702479781427272750846543864800 / 1919519569386763) (75445702479781427272750846543864800 / 72106336199) 2 120 pr_C pr_D (by decide +kernel) (by decide) (by decide +kernel) (by decide +kernel) (by decide +kernel) (by decide +kernel) (by decide +kernel) (by decide +kernel) (by decide +kernel)
theorem pr_q : Pr 74058212732561358302231226437062788676166966415465897661863160754340907 :=
  pr_two _ 75445702479781427272750846543864801 31757755568855353 (74058212732561358302231226437062788676166966415465897661863160754340906 / 75445702479781427272750846543864801) (74058212732561358302231226437062788676166966415465897661863160754340906 / 31757755568855353) 2 240 pr_A pr_B (by decide +kernel) (by decide) (by decide +kernel) (by decide +kernel) (by decide +kernel) (by decide +kernel) (by decide +kernel) (by decide +kernel) (by decide +kernel)

/-- The prime. -/
def Q : Nat := 57896044618658097711785492504343953926634992332820282019728792003956564819949

theorem Q_prime : Pr Q := pr_one _ 74058212732561358302231226437062788676166966415465897661863160754340907 781764 2 256 pr_q (by decide +kernel) (by decide +kernel) (by decide +kernel) (by decide +kernel) (by decide +kernel) (by decide +kernel)

/-- What is not 0 by the prime has a power that is its inverse. -/
theorem Q_inverse (a : Nat) (h : a % Q ≠ 0) : a * a ^ (Q - 2) % Q = 1 := by
  have := fermat Q_prime a fun hd => h (Nat.mod_eq_zero_of_dvd hd)
  rwa [show Q - 1 = (Q - 2) + 1 by decide +kernel, Nat.pow_succ, Nat.mul_comm] at this

end Go.Proofs.YtdojalhaklkegaaDoor.M

namespace Go.Proofs.YtdojalhaklkegaaDoor.M
set_option linter.unusedVariables false

theorem w32 : (256 : Nat) ^ 32 = 2 * Q + 38 := by decide +kernel

theorem Q_pos : 0 < Q := by decide +kernel

/-- Digit k of a number, and the number behind k digits. -/
theorem mod_next (x k : Nat) : x % 256 ^ (k + 1) = x % 256 ^ k + x / 256 ^ k % 256 * 256 ^ k := by rw [Nat.mod_pow_succ, Nat.mul_comm]

theorem gi_congr (a b : List Nat) (k : Nat) (h : ∀ i, i < k → a.getD i 0 = b.getD i 0) : gi a k = gi b k := by
  induction k with
  | zero => rfl
  | succ k ih => rw [gi, gi, ih fun i hi => h i (by omega), h k (by omega)]

end Go.Proofs.YtdojalhaklkegaaDoor.M

namespace Go.Proofs.YtdojalhaklkegaaDoor
open Go.RowKit
set_option linter.unusedVariables false

/-- The cells of a number. -/
def nm (v : Nat) : List Value := ic (M.dg v 32)

theorem nm_length (v : Nat) : (nm v).length = 32 := by rw [nm, ic_length, M.dg_length]

theorem nm_one (v : Nat) : ∀ u ∈ nm v, u.oneCell' = true := ic_oneCell _

end Go.Proofs.YtdojalhaklkegaaDoor
