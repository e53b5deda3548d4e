/-
  PLAIN MATHEMATICS OF orlopref05: numbers as rows of digits of base 256, the least first. Conditions: as each says.
  CONTRACTS OF orlopref05.add, prime AND less: numbers as rows of digits. Conditions: digits below 256; sums of at most 100 digits.
  CONTRACTS OF orlopref05.less AND times: numbers as rows of digits. Conditions: digits below 256; lengths within what the code makes room for.
-/
import Derived.Test.YtogklpeehfoijaaDoorPolyB
import Derived.Test.YtogklpeehfoijaaDoorRefI
import Derived.Lib.Hide

namespace Go.Proofs.YtogklpeehfoijaaDoor.M

/-- The number of the first k digits. -/
def gi (l : List Nat) : Nat → Nat
  | 0 => 0
  | k + 1 => gi l k + l.getD k 0 * 256 ^ k

/-- The first n digits of a number. -/
def dg (v : Nat) : Nat → List Nat
  | 0 => []
  | n + 1 => dg v n ++ [v / 256 ^ n % 256]

/-- All are digits. -/
def Dig (l : List Nat) : Prop := ∀ i, l.getD i 0 < 256

theorem dg_length (v n : Nat) : (dg v n).length = n := by
  induction n with
  | zero => rfl
  | succ n ih => simp [dg, ih]

theorem dg_get (v n k : Nat) (h : k < n) : (dg v n).getD k 0 = v / 256 ^ k % 256 := by
  induction n with
  | zero => omega
  | succ n ih =>
    by_cases hk : k < n
    · have := ih hk
      simp only [dg, List.getD_eq_getElem?_getD] at this ⊢
      rw [List.getElem?_append_left (by rw [dg_length]; exact hk)]
      exact this
    · have : k = n := by omega
      subst this
      simp [dg, List.getD_eq_getElem?_getD, dg_length]

theorem dg_past (v n k : Nat) (h : n ≤ k) : (dg v n).getD k 0 = 0 := by
  simp [List.getD_eq_getElem?_getD, List.getElem?_eq_none (show (dg v n).length ≤ k by rw [dg_length]; exact h)]

theorem dg_dig (v n : Nat) : Dig (dg v n) := by
  intro i
  by_cases h : i < n
  · rw [dg_get v n i h]; omega
  · rw [dg_past v n i (by omega)]; omega

/-- Two rows of one length, digit by digit. -/
theorem ext_getDN (a b : List Nat) (hl : a.length = b.length) (h : ∀ i, i < a.length → a.getD i 0 = b.getD i 0) : a = b := by
  apply List.ext_getElem hl
  intro i h1 h2
  have := h i h1
  simpa [h1, h2] using this

theorem dg_mod (v k : Nat) : ∀ n, n ≤ k → dg (v % 256 ^ k) n = dg v n := by
  intro n
  induction n with
  | zero => intro _; rfl
  | succ n ih =>
    intro h
    rw [dg, dg, ih (by omega)]
    have hp : 256 ^ k = 256 ^ n * 256 * 256 ^ (k - 1 - n) := by
      rw [← Nat.pow_succ, ← Nat.pow_add]
      congr 1
      omega
    have q : v % 256 ^ k / 256 ^ n % 256 = v / 256 ^ n % 256 := by
      rw [hp, Nat.mul_assoc, Nat.mod_mul_right_div_self, Nat.mod_mul_right_mod]
    rw [q]

theorem dg_congr (v w n : Nat) (h : v % 256 ^ n = w % 256 ^ n) : dg v n = dg w n := by
  rw [← dg_mod v n n (Nat.le_refl _), h, dg_mod w n n (Nat.le_refl _)]

theorem dg_add (v y n : Nat) : dg (v + y * 256 ^ n) n = dg v n := dg_congr _ _ _ (by rw [Nat.add_mul_mod_self_right])

theorem dg_take (v n k : Nat) (h : k ≤ n) : (dg v n).take k = dg v k := by
  apply ext_getDN
  · rw [List.length_take, dg_length, dg_length]; omega
  · intro i hi
    rw [List.length_take, dg_length] at hi
    rw [dg_get v k i (by omega), ← dg_get v n i (by omega)]
    simp [List.getD_eq_getElem?_getD, show i < k by omega]

theorem gi_dg (v n : Nat) : ∀ k, k ≤ n → gi (dg v n) k = v % 256 ^ k := by
  intro k
  induction k with
  | zero => intro _; simp [gi, Nat.mod_one]
  | succ k ih =>
    intro h
    rw [gi, ih (by omega), dg_get v n k (by omega), Nat.mod_pow_succ, Nat.mul_comm (256 ^ k)]

theorem gi_past (l : List Nat) (k : Nat) (h : l.length ≤ k) : ∀ j, gi l (k + j) = gi l k := by
  intro j
  induction j with
  | zero => rfl
  | succ j ih =>
    rw [← Nat.add_assoc, gi, ih]
    simp [List.getD_eq_getElem?_getD, List.getElem?_eq_none (show l.length ≤ k + j by omega)]

theorem gi_all (l : List Nat) (k : Nat) (h : l.length ≤ k) : gi l k = gi l l.length := by
  have := gi_past l l.length (Nat.le_refl _) (k - l.length)
  rwa [show l.length + (k - l.length) = k by omega] at this

theorem gi_dg_all (v n k : Nat) (h : n ≤ k) : gi (dg v n) k = v % 256 ^ n := by
  rw [gi_all _ _ (by rw [dg_length]; exact h), dg_length, gi_dg v n n (Nat.le_refl _)]

theorem gi_lt (l : List Nat) (h : Dig l) (k : Nat) : gi l k < 256 ^ k := by
  induction k with
  | zero => simp [gi]
  | succ k ih =>
    have h1 := h k
    have h2 : l.getD k 0 * 256 ^ k ≤ 255 * 256 ^ k := Nat.mul_le_mul_right _ (by omega)
    simp only [gi, Nat.pow_succ]
    omega

/-- One digit more of a sum, and what is carried. -/
theorem add_step (X y k : Nat) : dg (X + y * 256 ^ k) (k + 1) = dg X k ++ [(X / 256 ^ k + y) % 256] ∧ (X + y * 256 ^ k) / 256 ^ (k + 1) = (X / 256 ^ k + y) / 256 := by
  have e : (X + y * 256 ^ k) / 256 ^ k = X / 256 ^ k + y := Nat.add_mul_div_right _ _ (pow_pos k)
  refine ⟨by rw [dg, dg_add, e], ?_⟩
  rw [Nat.pow_succ, ← Nat.div_div_eq_div_mul, e]

theorem carry_le (X k c : Nat) (h : X < c * 256 ^ k) : X / 256 ^ k < c := Nat.div_lt_of_lt_mul (by rw [Nat.mul_comm]; exact h)

/-- The rows of a product, on their way: X0 is what lay there, ai the digit, i its place, k digits of b done. -/
def tY (X0 ai : Nat) (b : List Nat) (i k : Nat) : Nat := X0 % 256 ^ (i + k) + ai * gi b k * 256 ^ i
def tR (X0 ai : Nat) (b : List Nat) (i k : Nat) : List Nat := dg (tY X0 ai b i k) (i + k) ++ (dg X0 36).drop (i + k)
def tC (X0 ai : Nat) (b : List Nat) (i k : Nat) : Nat := tY X0 ai b i k / 256 ^ (i + k)

theorem tR_length (X0 ai : Nat) (b : List Nat) (i k : Nat) (h : i + k ≤ 36) : (tR X0 ai b i k).length = 36 := by
  rw [tR, List.length_append, dg_length, List.length_drop, dg_length]; omega

theorem tR_get (X0 ai : Nat) (b : List Nat) (i k : Nat) (h : i + k < 36) : (tR X0 ai b i k).getD (i + k) 0 = X0 / 256 ^ (i + k) % 256 := by
  rw [← dg_get X0 36 (i + k) h, tR, List.getD_eq_getElem?_getD, List.getElem?_append_right (by rw [dg_length]; omega), dg_length, Nat.sub_self, List.getElem?_drop, Nat.add_zero, List.getD_eq_getElem?_getD]

theorem tY_step (X0 ai : Nat) (b : List Nat) (i k : Nat) : tY X0 ai b i (k + 1) = tY X0 ai b i k + (X0 / 256 ^ (i + k) % 256 + ai * b.getD k 0) * 256 ^ (i + k) := by
  have e1 : X0 % 256 ^ (i + (k + 1)) = X0 % 256 ^ (i + k) + 256 ^ (i + k) * (X0 / 256 ^ (i + k) % 256) := by
    rw [← Nat.add_assoc, Nat.mod_pow_succ]
  have e2 : ai * (b.getD k 0 * 256 ^ k) * 256 ^ i = ai * b.getD k 0 * 256 ^ (i + k) := by
    rw [Nat.pow_add, Nat.mul_comm (256 ^ i), ← Nat.mul_assoc, ← Nat.mul_assoc]
  rw [tY, tY, e1, gi, Nat.mul_add, Nat.add_mul, e2, Nat.add_mul, Nat.mul_comm (256 ^ (i + k))]
  omega

theorem t_step (X0 ai : Nat) (b : List Nat) (i k : Nat) (h : i + k < 36) :
    (tR X0 ai b i k).set (i + k) ((X0 / 256 ^ (i + k) % 256 + tC X0 ai b i k + ai * b.getD k 0) % 256) = tR X0 ai b i (k + 1) ∧ tC X0 ai b i (k + 1) = (X0 / 256 ^ (i + k) % 256 + tC X0 ai b i k + ai * b.getD k 0) / 256 := by
  obtain ⟨h1, h2⟩ := add_step (tY X0 ai b i k) (X0 / 256 ^ (i + k) % 256 + ai * b.getD k 0) (i + k)
  have e : X0 / 256 ^ (i + k) % 256 + tC X0 ai b i k + ai * b.getD k 0 = tY X0 ai b i k / 256 ^ (i + k) + (X0 / 256 ^ (i + k) % 256 + ai * b.getD k 0) := by rw [tC]; omega
  refine ⟨?_, by rw [tC, tY_step, ← Nat.add_assoc i k 1, h2, e]⟩
  have hl : (dg (tY X0 ai b i k) (i + k)).length = i + k := dg_length _ _
  rw [tR, tR, tY_step, ← Nat.add_assoc i k 1, h1, e, List.set_append_right _ _ (by omega), hl, Nat.sub_self, List.append_assoc, List.drop_eq_getElem_cons (by rw [dg_length]; exact h), List.set_cons_zero, List.singleton_append]

theorem t_start (X0 ai : Nat) (b : List Nat) (i : Nat) (h : i ≤ 36) : tR X0 ai b i 0 = dg X0 36 ∧ tC X0 ai b i 0 = 0 := by
  have e : tY X0 ai b i 0 = X0 % 256 ^ i := by simp [tY, gi]
  refine ⟨?_, by rw [tC, e, Nat.add_zero, Nat.div_eq_of_lt (Nat.mod_lt _ (pow_pos i))]⟩
  rw [tR, e, Nat.add_zero, dg_mod X0 i i (Nat.le_refl _), ← dg_take X0 36 i h, List.take_append_drop]

theorem t_end (X0 ai : Nat) (b : List Nat) (i k : Nat) (hX : X0 < 256 ^ (i + b.length)) (hk : b.length ≤ k) (h : i + k ≤ 36) (hc : tC X0 ai b i k = 0) : tR X0 ai b i k = dg (X0 + ai * gi b b.length * 256 ^ i) 36 := by
  have hp : 256 ^ (i + b.length) ≤ 256 ^ (i + k) := Nat.pow_le_pow_right (by omega) (by omega)
  have e : tY X0 ai b i k = X0 + ai * gi b b.length * 256 ^ i := by rw [tY, Nat.mod_eq_of_lt (by omega), gi_all b k hk]
  have hY : tY X0 ai b i k < 256 ^ (i + k) := by
    rcases Nat.div_eq_zero_iff.1 hc with h | h
    · have := pow_pos (i + k); omega
    · exact h
  rw [← e]
  apply ext_getDN
  · rw [tR_length _ _ _ _ _ h, dg_length]
  · intro j hj
    rw [tR_length _ _ _ _ _ h] at hj
    by_cases hj2 : j < i + k
    · rw [tR, List.getD_eq_getElem?_getD, List.getElem?_append_left (by rw [dg_length]; exact hj2), ← List.getD_eq_getElem?_getD, dg_get _ _ _ hj2, dg_get _ _ _ hj]
    · have hpj : 256 ^ (i + k) ≤ 256 ^ j := Nat.pow_le_pow_right (by omega) (by omega)
      rw [tR, List.getD_eq_getElem?_getD, List.getElem?_append_right (by rw [dg_length]; omega), dg_length, List.getElem?_drop, show i + k + (j - (i + k)) = j by omega, ← List.getD_eq_getElem?_getD, dg_get _ _ _ hj, dg_get _ _ _ hj, Nat.div_eq_of_lt (by omega), Nat.div_eq_of_lt (by omega)]

theorem t_last (X0 ai : Nat) (b : List Nat) (i : Nat) (hX : X0 < 256 ^ (i + b.length)) (ha : ai < 256) (hb : Dig b) : tC X0 ai b i (b.length + 1) = 0 := by
  rw [tC]
  apply Nat.div_eq_of_lt
  have h1 := gi_lt b hb b.length
  have h2 : ai * gi b (b.length + 1) * 256 ^ i ≤ 255 * 256 ^ (i + b.length) := by
    rw [gi_all b (b.length + 1) (by omega), Nat.mul_assoc, Nat.pow_add, Nat.mul_comm (256 ^ i)]
    exact Nat.mul_le_mul (by omega) (Nat.mul_le_mul_right _ (by omega))
  have h3 := Nat.mod_le X0 (256 ^ (i + b.length) * 256)
  rw [tY, ← Nat.add_assoc, Nat.pow_succ]
  omega

theorem tC_lt (X0 ai : Nat) (b : List Nat) (i k : Nat) (ha : ai < 256) (hb : Dig b) : tC X0 ai b i k < 256 := by
  apply carry_le
  have h1 := gi_lt b hb k
  have h2 : ai * gi b k * 256 ^ i ≤ 255 * 256 ^ (i + k) := by
    rw [Nat.mul_assoc, Nat.pow_add, Nat.mul_comm (256 ^ i)]
    exact Nat.mul_le_mul (by omega) (Nat.mul_le_mul_right _ (by omega))
  have h3 := Nat.mod_lt X0 (pow_pos (i + k))
  rw [tY]
  omega

/-- One limb more of the left factor. -/
theorem gi_times (a b : List Nat) (i : Nat) : gi a (i + 1) * gi b b.length = gi a i * gi b b.length + a.getD i 0 * gi b b.length * 256 ^ i := by
  rw [gi, Nat.add_mul, Nat.mul_right_comm]

theorem gi_times_lt (a b : List Nat) (ha : Dig a) (hb : Dig b) (i : Nat) : gi a i * gi b b.length < 256 ^ (i + b.length) := by
  rw [Nat.pow_add]
  have h1 := gi_lt a ha i
  have h2 := gi_lt b hb b.length
  have h3 : gi a i * gi b b.length ≤ gi a i * 256 ^ b.length := Nat.mul_le_mul_left _ (by omega)
  exact Nat.lt_of_le_of_lt h3 ((Nat.mul_lt_mul_right (pow_pos _)).2 h1)

theorem two130 : (2 : Nat) ^ 130 = 256 ^ 16 * 4 := by decide

/-- What lies above 130 bits, digit by digit. -/
theorem high_get (A i : Nat) : A / 256 ^ (16 + i) % 256 / 4 + A / 256 ^ (17 + i) % 256 % 4 * 64 = A / 2 ^ 130 / 256 ^ i % 256 := by
  have e1 : A / 2 ^ 130 / 256 ^ i = A / 256 ^ (16 + i) / 4 := by
    rw [Nat.div_div_eq_div_mul, Nat.div_div_eq_div_mul, two130, Nat.pow_add, Nat.mul_right_comm]
  have e2 : A / 256 ^ (17 + i) = A / 256 ^ (16 + i) / 256 := by
    rw [Nat.div_div_eq_div_mul, ← Nat.pow_succ, show 17 + i = 16 + i + 1 by omega]
  rw [e1, e2]
  generalize A / 256 ^ (16 + i) = N
  omega

theorem low_row (A : Nat) : (dg A 36).take 16 ++ [A / 256 ^ 16 % 256 % 4] = dg (A % 2 ^ 130) 17 := by
  rw [dg_take A 36 16 (by omega)]
  show _ = dg (A % 2 ^ 130) 16 ++ [A % 2 ^ 130 / 256 ^ 16 % 256]
  have e1 : dg (A % 2 ^ 130) 16 = dg A 16 := dg_congr _ _ _ (by rw [two130, Nat.mod_mul_right_mod])
  have e2 : A % 2 ^ 130 / 256 ^ 16 % 256 = A / 256 ^ 16 % 256 % 4 := by
    rw [two130, Nat.mod_mul_right_div_self]
    omega
  rw [e1, e2]

/-- One round of rest. -/
def rd (A : Nat) : Nat := A % 2 ^ 130 + 5 * (A / 2 ^ 130)

theorem rd_mod (A : Nat) : rd A % P = A % P := by
  have e : A = rd A + A / 2 ^ 130 * P := by
    have := Nat.div_add_mod A (2 ^ 130)
    rw [rd, P]
    generalize hq : A / 2 ^ 130 = q at *
    generalize A % 2 ^ 130 = r at *
    omega
  conv => rhs; rw [e]
  rw [Nat.add_mul_mod_self_right]

theorem rd_lt (A c : Nat) (h : A < 2 ^ 130 * c) : rd A < 2 ^ 130 + 5 * c := by
  have h1 := Nat.div_lt_of_lt_mul h
  have h2 := Nat.mod_lt A (show 0 < 2 ^ 130 by decide)
  rw [rd]
  omega

end Go.Proofs.YtogklpeehfoijaaDoor.M

namespace Go.Proofs.YtogklpeehfoijaaDoor
open Go.RowKit
set_option linter.unusedVariables false

/-- The cells of a row that is filled from its head on. -/
def fillC (l : List Nat) (m : Nat) : List Value := ic l ++ List.replicate m (.int .i64 0)

theorem fillC_length (l : List Nat) (m : Nat) : (fillC l m).length = l.length + m := by simp [fillC, ic_length]

theorem IsI.cell {w w' : World} {v : Value} {l : List Nat} (h : IsI w v l) (k : Below w.heap.size w w') (i : Nat) (hi : i < l.length) : ∃ b o cap, v = .slice (some ⟨b, o, none⟩) l.length cap ∧ w'.cell? ⟨b, o + i, none⟩ = some (.int .i64 ((l.getD i 0 : Nat) : Int)) := by
  obtain ⟨b, o, cap, rfl, hc⟩ := h.at_ (by omega)
  have hx := hc i hi
  exact ⟨b, o, cap, rfl, by rw [k.cell (by exact World.block_lt_of_cell? w _ hx), hx]⟩

theorem getD_none (l : List Nat) (i : Nat) (h : ¬ i < l.length) : l.getD i 0 = 0 := by
  simp [List.getD_eq_getElem?_getD, List.getElem?_eq_none (show l.length ≤ i by omega)]

set_option maxHeartbeats 1000000 in
theorem radd_any (av bv : Value) (a b : List Nat) (n : Nat) (w : World) (ha : IsI w av a) (hb : IsI w bv b) (da : M.Dig a) (db : M.Dig b) (hn : n ≤ 100) :
    Calls Tryd.prog 31 #[av, bv, .int .i64 n] w (MakesI w (M.dg (M.gi a n + M.gi b n) n)) := by
  have HA := Lib.hid ha
  have HB := Lib.hid hb
  have DA := Lib.hid da
  have DB := Lib.hid db
  obtain ⟨a1, c1, rfl, _, _, _⟩ := ha
  obtain ⟨a2, c2, rfl, _, _, _⟩ := hb
  obtain ⟨la, hla⟩ : ∃ n, n = a.length := ⟨_, rfl⟩
  obtain ⟨lb, hlb⟩ : ∃ n, n = b.length := ⟨_, rfl⟩
  have HLA := Lib.hid hla
  have HLB := Lib.hid hlb
  rw [← hla] at HA ⊢
  rw [← hlb] at HB ⊢
  clear hla hlb da db
  obtain ⟨i0, hi, hz0, hz1, hz2⟩ := info_parts Tryd.info47
  go_enter Tryd.func31, Tryd.ntmps31
  go_wp2_with (at_make; go_must (refine wpList_make_full _ rfl _ _ 49 rfl w.heap.size 3 i0 (.int .i64 0) 1 Tryd.underlying49 hi hz0 hz1 .i64 .i64 n n n rfl rfl rfl rfl (by rw [hz2]; omega) (by unfold maxLen; omega) (Nat.le_refl _) ?_))
  intro w1 hown hgrow
  have hb1 : Below w.heap.size w w1 := (Below.refl _ _).grown hgrow (Nat.le_refl _) (by intro k hk; cases hk)
  have HO : Hid (w1.ownsRow w.heap.size 3 1 (.slice (some ⟨w.heap.size, 0, none⟩) n n) n (fillC (M.dg (M.gi a 0 + M.gi b 0) 0) (n - 0))) := by
    have e : fillC (M.dg (M.gi a 0 + M.gi b 0) 0) (n - 0) = (madeCells #[Value.int IntKind.i64 0] n).toList := by
      simp [fillC, M.dg, ic, toList_madeCells_one]
    rw [Hid, e]
    exact hown
  clear hown hgrow hi hz0 hz1 hz2
  go_wp2
  go_loopw [8, 9] (fun c i wr => ∃ k : Nat, k ≤ n ∧ i = .int .i64 k ∧ c = .int .i64 ((M.gi a k + M.gi b k) / 256 ^ k : Nat) ∧ Hid (wr.ownsRow w.heap.size 3 1 (.slice (some ⟨w.heap.size, 0, none⟩) n n) n (fillC (M.dg (M.gi a k + M.gi b k) k) (n - k))) ∧ Below w.heap.size w wr)
    (fun _ i _ => n - (intOf i).toNat)
  case atStart => exact ⟨0, Nat.zero_le _, rfl, by simp [M.gi], HO, hb1⟩
  case round =>
    clear HO hb1
    obtain ⟨wA, rfl⟩ : ∃ x, x = wr := ⟨_, rfl⟩
    obtain ⟨k, hk, rfl, rfl, hown, kk⟩ := hrel
    obtain ⟨c, hc⟩ : ∃ c, Hid (c = (M.gi a k + M.gi b k) / 256 ^ k) := ⟨_, rfl⟩
    have hc2 : c < 2 := by
      rw [hc.out]
      refine M.carry_le _ _ _ ?_
      have h1 := M.gi_lt a DA.out k
      have h2 := M.gi_lt b DB.out k
      omega
    rw [← hc.out]
    by_cases hlt : k < n
    · obtain ⟨x, hx⟩ : ∃ x, Hid (x = a.getD k 0) := ⟨_, rfl⟩
      obtain ⟨y, hy⟩ : ∃ x, Hid (x = b.getD k 0) := ⟨_, rfl⟩
      have hxb : x < 256 := by rw [hx.out]; exact DA.out k
      have hyb : y < 256 := by rw [hy.out]; exact DB.out k
      obtain ⟨z, hz⟩ : ∃ z, z = c + x + y := ⟨_, rfl⟩
      obtain ⟨m, hm⟩ : ∃ m, m = z % 256 := ⟨_, rfl⟩
      obtain ⟨q, hq⟩ : ∃ q, q = z / 256 := ⟨_, rfl⟩
      have t1 : (z : Int).tmod 256 = (m : Int) := by rw [Int.tmod_eq_emod_of_nonneg (by omega)]; omega
      have t2 : (z : Int) % 256 = (m : Int) := by omega
      have t3 : (z : Int).tdiv 256 = (q : Int) := by rw [Int.tdiv_eq_ediv_of_nonneg (by omega)]; omega
      have t4 : (z : Int) / 256 = (q : Int) := by omega
      have HZ := Lib.hid hz
      have HM := Lib.hid hm
      have HQ := Lib.hid hq
      have hcO : wA.cell? ⟨w.heap.size, k, none⟩ = some (.int .i64 0) := by
        rw [hown.out.cellAt k (by omega), fillC, List.getElem?_append_right (by rw [ic_length, M.dg_length]; omega), ic_length, M.dg_length, Nat.sub_self, List.getElem?_replicate, if_pos (by omega)]
      have hfO : wA.frozen? ⟨w.heap.size, k, none⟩ = false := hown.out.frozenAt k
      have HNX : Hid ((M.gi a (k + 1) + M.gi b (k + 1)) / 256 ^ (k + 1) = q ∧ M.dg (M.gi a (k + 1) + M.gi b (k + 1)) (k + 1) = M.dg (M.gi a k + M.gi b k) k ++ [m]) := by
        have e : M.gi a (k + 1) + M.gi b (k + 1) = (M.gi a k + M.gi b k) + (x + y) * 256 ^ k := by
          rw [M.gi, M.gi, hx.out, hy.out, Nat.add_mul]; omega
        obtain ⟨h1, h2⟩ := M.add_step (M.gi a k + M.gi b k) (x + y) k
        rw [Hid, e, h1, h2, ← hc.out, hm, hq, hz, Nat.add_assoc]
        exact ⟨rfl, rfl⟩
      have fin : Hid ((wA.setCell ⟨w.heap.size, k, none⟩ (.int .i64 (m : Int))).ownsRow w.heap.size 3 1 (.slice (some ⟨w.heap.size, 0, none⟩) n n) n (fillC (M.dg (M.gi a (k + 1) + M.gi b (k + 1)) (k + 1)) (n - (k + 1)))) := by
        have h := (hown.out.stored k (.int .i64 (m : Int))).1
        rw [fillC, set_next _ _ _ k (n - k) (by rw [ic_length, M.dg_length]) (by omega)] at h
        rw [Hid, HNX.out.2, fillC, ic_append, Nat.sub_add_eq]
        exact h
      clear hm hq
      by_cases hka : k < la
      · obtain ⟨b1, o1, p1, e1, cx⟩ := HA.out.cell kk k (by have := HLA.out; omega)
        injection e1 with e1 e1' e1''
        subst e1
        rw [← hx.out] at cx
        by_cases hkb : k < lb
        · obtain ⟨b2, o2, p2, e2, cy⟩ := HB.out.cell kk k (by have := HLB.out; omega)
          injection e2 with e2 e2' e2''
          subst e2
          rw [← hy.out] at cy
          have hzi : (c : Int) + x + y = z := by omega
          clear hz e1' e1'' e2' e2''
          go_wp2
          go_roundw
          case rel => exact ⟨k + 1, by omega, by go_num, by rw [HNX.out.1], fin, below_set kk (Nat.le_refl _) _⟩
          case measure => simp [intOf]; omega
        · have hy0 : y = 0 := by rw [hy.out]; exact getD_none b k (by have := HLB.out; omega)
          have hzi : (c : Int) + x = z := by omega
          clear hz e1' e1''
          go_wp2
          go_roundw
          case rel => exact ⟨k + 1, by omega, by go_num, by rw [HNX.out.1], fin, below_set kk (Nat.le_refl _) _⟩
          case measure => simp [intOf]; omega
      · have hx0 : x = 0 := by rw [hx.out]; exact getD_none a k (by have := HLA.out; omega)
        by_cases hkb : k < lb
        · obtain ⟨b2, o2, p2, e2, cy⟩ := HB.out.cell kk k (by have := HLB.out; omega)
          injection e2 with e2 e2' e2''
          subst e2
          rw [← hy.out] at cy
          have hzi : (c : Int) + y = z := by omega
          clear hz e2' e2''
          go_wp2
          go_roundw
          case rel => exact ⟨k + 1, by omega, by go_num, by rw [HNX.out.1], fin, below_set kk (Nat.le_refl _) _⟩
          case measure => simp [intOf]; omega
        · have hy0 : y = 0 := by rw [hy.out]; exact getD_none b k (by have := HLB.out; omega)
          have hzi : z = c := by omega
          subst hzi
          clear hz
          go_wp2
          go_roundw
          case rel => exact ⟨k + 1, by omega, by go_num, by rw [HNX.out.1], fin, below_set kk (Nat.le_refl _) _⟩
          case measure => simp [intOf]; omega
    · obtain rfl : k = n := by omega
      go_wp2
      go_ret
      refine ⟨_, rfl, ?_, kk⟩
      have h := hown.out
      rw [fillC, Nat.sub_self, List.replicate_zero, List.append_nil] at h
      rw [OwnI, M.dg_length]
      exact h

theorem rprime_any (w : World) : Calls Tryd.prog 45 #[] w (MakesI w (M.dg M.P 17)) := by
  obtain ⟨i0, hi, hz0, hz1, hz2⟩ := info_parts Tryd.info47
  go_enter Tryd.func45, Tryd.ntmps45
  go_wp2_with (at_make; go_must (refine wpList_make_full _ rfl _ _ 49 rfl w.heap.size 3 i0 (.int .i64 0) 1 Tryd.underlying49 hi hz0 hz1 .i64 .i64 17 17 17 rfl rfl rfl rfl (by rw [hz2]; omega) (by unfold maxLen; omega) (Nat.le_refl _) ?_))
  intro w1 hown hgrow
  have hb1 : Below w.heap.size w w1 := (Below.refl _ _).grown hgrow (Nat.le_refl _) (by intro k hk; cases hk)
  have HO : Hid (w1.ownsRow w.heap.size 3 1 (.slice (some ⟨w.heap.size, 0, none⟩) 17 17) 17 (fillC (List.replicate 0 255) (17 - 0))) := by
    have e : fillC (List.replicate 0 255) (17 - 0) = (madeCells #[Value.int IntKind.i64 0] 17).toList := by
      simp [fillC, ic, toList_madeCells_one]
    rw [Hid, e]
    exact hown
  clear hown hgrow hi hz0 hz1 hz2
  go_wp2
  go_loopw [2] (fun i wr => ∃ k : Nat, k ≤ 16 ∧ i = .int .i64 k ∧ Hid (wr.ownsRow w.heap.size 3 1 (.slice (some ⟨w.heap.size, 0, none⟩) 17 17) 17 (fillC (List.replicate k 255) (17 - k))) ∧ Below w.heap.size w wr)
    (fun i _ => 16 - (intOf i).toNat)
  case atStart => exact ⟨0, Nat.zero_le _, rfl, HO, hb1⟩
  case round =>
    clear HO hb1
    obtain ⟨wA, rfl⟩ : ∃ x, x = wr := ⟨_, rfl⟩
    obtain ⟨k, hk, rfl, hown, kk⟩ := hrel
    by_cases hlt : k < 16
    · have hcO : wA.cell? ⟨w.heap.size, k, none⟩ = some (.int .i64 0) := by
        rw [hown.out.cellAt k (by omega), fillC, List.getElem?_append_right (by rw [ic_length, List.length_replicate]; omega), ic_length, List.length_replicate, Nat.sub_self, List.getElem?_replicate, if_pos (by omega)]
      have hfO : wA.frozen? ⟨w.heap.size, k, none⟩ = false := hown.out.frozenAt k
      have fin : Hid ((wA.setCell ⟨w.heap.size, k, none⟩ (.int .i64 255)).ownsRow w.heap.size 3 1 (.slice (some ⟨w.heap.size, 0, none⟩) 17 17) 17 (fillC (List.replicate (k + 1) 255) (17 - (k + 1)))) := by
        have h := (hown.out.stored k (.int .i64 255)).1
        rw [fillC, set_next _ _ _ k (17 - k) (by rw [ic_length, List.length_replicate]) (by omega)] at h
        rw [Hid, List.replicate_succ', fillC, ic_append, Nat.sub_add_eq]
        exact h
      go_wp2
      go_roundw
      case rel => exact ⟨k + 1, by omega, by go_num, fin, below_set kk (Nat.le_refl _) _⟩
      case measure => simp [intOf]; omega
    · obtain rfl : k = 16 := by omega
      have c0 : wA.cell? ⟨w.heap.size, 0, none⟩ = some (.int .i64 255) := by rw [hown.out.cellAt 0 (by omega)]; rfl
      have c16 : wA.cell? ⟨w.heap.size, 16, none⟩ = some (.int .i64 0) := by rw [hown.out.cellAt 16 (by omega)]; rfl
      have f0 : wA.frozen? ⟨w.heap.size, 0, none⟩ = false := hown.out.frozenAt 0
      have f16 : wA.frozen? ⟨w.heap.size, 16, none⟩ = false := hown.out.frozenAt 16
      have h2 : Hid (((wA.setCell ⟨w.heap.size, 0, none⟩ (.int .i64 251)).setCell ⟨w.heap.size, 16, none⟩ (.int .i64 3)).ownsRow w.heap.size 3 1 (.slice (some ⟨w.heap.size, 0, none⟩) 17 17) 17 (ic (M.dg M.P 17))) := by
        have h := ((hown.out.stored 0 (.int .i64 251)).1.stored 16 (.int .i64 3)).1
        have e : ((fillC (List.replicate 16 255) (17 - 16)).set 0 (.int .i64 251)).set 16 (.int .i64 3) = ic (M.dg M.P 17) := by
          rw [show M.dg M.P 17 = [251, 255, 255, 255, 255, 255, 255, 255, 255, 255, 255, 255, 255, 255, 255, 255, 3] from by decide]
          rfl
        rw [e] at h
        exact h
      go_wp2
      go_ret
      exact ⟨_, rfl, h2.out, below_set (below_set kk (Nat.le_refl _) _) (Nat.le_refl _) _⟩

end Go.Proofs.YtogklpeehfoijaaDoor

namespace Go.Proofs.YtogklpeehfoijaaDoor
open Go.RowKit
set_option linter.unusedVariables false

namespace M

theorem less_step (A B j : Nat) (h : A / 256 ^ (j + 1) = B / 256 ^ (j + 1)) : (A / 256 ^ j % 256 = B / 256 ^ j % 256 → A / 256 ^ j = B / 256 ^ j) ∧ (A / 256 ^ j % 256 ≠ B / 256 ^ j % 256 → (A < B ↔ A / 256 ^ j % 256 < B / 256 ^ j % 256)) := by
  rw [Nat.pow_succ, ← Nat.div_div_eq_div_mul, ← Nat.div_div_eq_div_mul] at h
  refine ⟨fun e => by omega, fun e => ⟨fun hl => ?_, fun hl => ?_⟩⟩
  · have := Nat.div_le_div_right (c := 256 ^ j) (Nat.le_of_lt hl)
    omega
  · have h2 : A / 256 ^ j < B / 256 ^ j := by omega
    rcases Nat.lt_or_ge A B with h3 | h3
    · exact h3
    · have := Nat.div_le_div_right (c := 256 ^ j) h3
      omega

end M

theorem ret_b {a b : Bool} (h : a = b) : Ending.returned (.bool a) = .returned (.bool b) := by rw [h]

theorem rless_any (av bv : Value) (A B : Nat) (w : World) (ha : IsI w av (M.dg A 17)) (hb : IsI w bv (M.dg B 17)) (hA : A < 256 ^ 17) (hB : B < 256 ^ 17) :
    Calls Tryd.prog 46 #[av, bv] w fun e w' => e = .returned (.bool (decide (A < B))) ∧ Below w.heap.size w w' := by
  obtain ⟨b1, o1, p1, rfl, hc1⟩ := ha.at_ (by rw [M.dg_length]; decide)
  obtain ⟨b2, o2, p2, rfl, hc2⟩ := hb.at_ (by rw [M.dg_length]; decide)
  have C1 := Lib.hid hc1
  have C2 := Lib.hid hc2
  rw [M.dg_length, M.dg_length]
  have H0 : Hid (A / 256 ^ 17 = B / 256 ^ 17) := by rw [Hid, Nat.div_eq_of_lt hA, Nat.div_eq_of_lt hB]
  clear ha hb hc1 hc2 hA hB
  go_enter Tryd.func46, Tryd.ntmps46
  go_wp2
  go_loopw [5] (fun i wr => ∃ k : Nat, k ≤ 17 ∧ i = .int .i64 ((k : Int) - 1) ∧ Hid (A / 256 ^ k = B / 256 ^ k) ∧ Below w.heap.size w wr)
    (fun i _ => (intOf i + 1).toNat)
  case atStart => exact ⟨17, Nat.le_refl _, rfl, H0, Below.refl _ _⟩
  case round =>
    clear H0
    obtain ⟨wA, rfl⟩ : ∃ x, x = wr := ⟨_, rfl⟩
    obtain ⟨k, hk, rfl, he, kk⟩ := hrel
    by_cases hlt : 0 < k
    · obtain ⟨j, rfl⟩ : ∃ j, k = j + 1 := ⟨k - 1, by omega⟩
      have hji : ((j + 1 : Nat) : Int) - 1 = (j : Int) := by omega
      rw [hji]
      obtain ⟨x, hx⟩ : ∃ x, Hid (x = A / 256 ^ j % 256) := ⟨_, rfl⟩
      obtain ⟨y, hy⟩ : ∃ x, Hid (x = B / 256 ^ j % 256) := ⟨_, rfl⟩
      have hc1 := C1.out j (by rw [M.dg_length]; omega)
      have hc2 := C2.out j (by rw [M.dg_length]; omega)
      have cx : wA.cell? ⟨b1, o1 + j, none⟩ = some (.int .i64 (x : Int)) := by
        rw [kk.cell (by exact World.block_lt_of_cell? w _ hc1), hc1, M.dg_get A 17 j (by omega), hx.out]
      have cy : wA.cell? ⟨b2, o2 + j, none⟩ = some (.int .i64 (y : Int)) := by
        rw [kk.cell (by exact World.block_lt_of_cell? w _ hc2), hc2, M.dg_get B 17 j (by omega), hy.out]
      have hj17 : j < 17 := by omega
      have HS := Lib.hid (M.less_step A B j he.out)
      clear hc1 hc2 hji
      by_cases hxy : x = y
      · have hxyi : (x : Int) = y := by omega
        go_wp2
        go_quiet (fail)
        go_wp2
        go_roundw
        case rel => exact ⟨j, by omega, by go_num, HS.out.1 (by rw [← hx.out, ← hy.out]; exact hxy), drewN_below kk _⟩
        case measure => simp [intOf]
      · have hxyi : ¬ (x : Int) = y := by omega
        have HR : Hid (A < B ↔ x < y) := by rw [Hid, hx.out, hy.out]; exact HS.out.2 (by rw [← hx.out, ← hy.out]; exact hxy)
        go_wp2
        go_quiet (fail)
        go_wp2
        obtain ⟨wB, hwB⟩ : ∃ x, Hid (x = wA.drewN nq) := ⟨_, rfl⟩
        rw [← hwB.out]
        have cx' : wB.cell? ⟨b1, o1 + j, none⟩ = some (.int .i64 (x : Int)) := by rw [hwB.out]; exact cx
        have cy' : wB.cell? ⟨b2, o2 + j, none⟩ = some (.int .i64 (y : Int)) := by rw [hwB.out]; exact cy
        have kB : Below w.heap.size w wB := by rw [hwB.out]; exact drewN_below kk _
        clear cx cy kk
        go_quiet (fail)
        go_wp2
        go_ret
        refine ⟨ret_b ?_, drewN_below kB _⟩
        by_cases hl : x < y
        · rw [decide_eq_true (HR.out.2 hl), decide_eq_true (by omega)]
        · rw [decide_eq_false (fun h => hl (HR.out.1 h)), decide_eq_false (by omega)]
    · obtain rfl : k = 0 := by omega
      go_wp2
      go_ret
      refine ⟨ret_b ?_, kk⟩
      have h := he.out
      simp at h
      simp [h]

set_option maxHeartbeats 2000000 in
theorem rtimes_any (av bv : Value) (a b : List Nat) (w : World) (ha : IsI w av a) (hb : IsI w bv b) (da : M.Dig a) (db : M.Dig b) (hlen : a.length + b.length ≤ 35) :
    Calls Tryd.prog 30 #[av, bv] w (MakesI w (M.dg (M.gi a a.length * M.gi b b.length) 36)) := by
  have HA := Lib.hid ha
  have HB := Lib.hid hb
  have DA := Lib.hid da
  have DB := Lib.hid db
  obtain ⟨a1, c1, rfl, _, _, _⟩ := ha
  obtain ⟨a2, c2, rfl, _, _, _⟩ := hb
  obtain ⟨la, hla⟩ : ∃ n, n = a.length := ⟨_, rfl⟩
  obtain ⟨lb, hlb⟩ : ∃ n, n = b.length := ⟨_, rfl⟩
  have HLA := Lib.hid hla
  have HLB := Lib.hid hlb
  rw [← hla] at HA hlen ⊢
  rw [← hlb] at HB hlen ⊢
  clear hla hlb da db
  obtain ⟨i0, hi, hz0, hz1, hz2⟩ := info_parts Tryd.info47
  go_enter Tryd.func30, Tryd.ntmps30
  go_wp2_with (at_make; go_must (refine wpList_make_full _ rfl _ _ 49 rfl w.heap.size 3 i0 (.int .i64 0) 1 Tryd.underlying49 hi hz0 hz1 .i64 .i64 36 36 36 rfl rfl rfl rfl (by rw [hz2]; omega) (by unfold maxLen; omega) (Nat.le_refl _) ?_))
  intro w1 hown hgrow
  have hb1 : Below w.heap.size w w1 := (Below.refl _ _).grown hgrow (Nat.le_refl _) (by intro k hk; cases hk)
  have HO : Hid (w1.ownsRow w.heap.size 3 1 (.slice (some ⟨w.heap.size, 0, none⟩) 36 36) 36 (ic (M.dg (M.gi a 0 * M.gi b lb) 36))) := by
    have e : ic (M.dg (M.gi a 0 * M.gi b lb) 36) = (madeCells #[Value.int IntKind.i64 0] 36).toList := by
      rw [toList_madeCells_one, ic_zero, M.gi, Nat.zero_mul]
      congr 1
    rw [Hid, e]
    exact hown
  clear hown hgrow hi hz0 hz1 hz2
  go_wp2
  go_loopw [6] (fun i wr => ∃ k : Nat, k ≤ la ∧ i = .int .i64 k ∧ Hid (wr.ownsRow w.heap.size 3 1 (.slice (some ⟨w.heap.size, 0, none⟩) 36 36) 36 (ic (M.dg (M.gi a k * M.gi b lb) 36))) ∧ Below w.heap.size w wr)
    (fun i _ => la - (intOf i).toNat)
  case atStart => exact ⟨0, Nat.zero_le _, rfl, HO, hb1⟩
  case round =>
    clear HO hb1
    obtain ⟨wA, rfl⟩ : ∃ x, x = wr := ⟨_, rfl⟩
    obtain ⟨i, hi, rfl, hown, kk⟩ := hrel
    by_cases hlt : i < la
    · obtain ⟨x, hx⟩ : ∃ x, Hid (x = a.getD i 0) := ⟨_, rfl⟩
      have hxb : x < 256 := by rw [hx.out]; exact DA.out i
      obtain ⟨X0, hX0⟩ : ∃ X, Hid (X = M.gi a i * M.gi b lb) := ⟨_, rfl⟩
      have HXB : Hid (X0 < 256 ^ (i + b.length)) := by rw [Hid, hX0.out, HLB.out]; exact M.gi_times_lt a b DA.out DB.out i
      rw [← hX0.out] at hown
      obtain ⟨ts1, ts2⟩ := M.t_start X0 x b i (by omega)
      have O0 : Hid (wA.ownsRow w.heap.size 3 1 (.slice (some ⟨w.heap.size, 0, none⟩) 36 36) 36 (ic (M.tR X0 x b i 0))) := by rw [Hid, ts1]; exact hown.out
      have HT0 := Lib.hid ts2
      clear hown ts1 ts2
      go_wp2
      go_loopw [7, 8] (fun c kv wr => ∃ k : Nat, k ≤ lb + 1 ∧ kv = .int .i64 k ∧ c = .int .i64 (M.tC X0 x b i k : Nat) ∧ Hid (wr.ownsRow w.heap.size 3 1 (.slice (some ⟨w.heap.size, 0, none⟩) 36 36) 36 (ic (M.tR X0 x b i k))) ∧ Below w.heap.size w wr)
        (fun _ kv _ => lb + 1 - (intOf kv).toNat)
      case atStart => exact ⟨0, by omega, rfl, by rw [HT0.out]; rfl, O0, kk⟩
      case round =>
        clear O0 HT0 kk
        obtain ⟨wz, rfl⟩ : ∃ x, x = wr := ⟨_, rfl⟩
        obtain ⟨k, hk, rfl, rfl, hown, kk⟩ := hrel
        obtain ⟨c, hc⟩ : ∃ c, Hid (c = M.tC X0 x b i k) := ⟨_, rfl⟩
        have hcb : c < 256 := by rw [hc.out]; exact M.tC_lt X0 x b i k hxb DB.out
        rw [← hc.out]
        by_cases hgo : k < lb ∨ 0 < c
        · have hkl : k ≤ lb := by
            rcases hgo with h | h
            · omega
            · by_cases h2 : k ≤ lb
              · exact h2
              · have e : k = b.length + 1 := by have := HLB.out; omega
                have := M.t_last X0 x b i HXB.out hxb DB.out
                rw [← e, ← hc.out] at this
                omega
          obtain ⟨p, hp⟩ : ∃ p, p = i + k := ⟨_, rfl⟩
          have hpi : (i : Int) + k = p := by omega
          have hp36 : p < 36 := by omega
          have HPP := Lib.hid hp
          obtain ⟨d, hd⟩ : ∃ d, Hid (d = X0 / 256 ^ (i + k) % 256) := ⟨_, rfl⟩
          have hdb : d < 256 := by rw [hd.out]; omega
          obtain ⟨y, hy⟩ : ∃ y, Hid (y = b.getD k 0) := ⟨_, rfl⟩
          have hyb : y < 256 := by rw [hy.out]; exact DB.out k
          obtain ⟨z0, hz0⟩ : ∃ z, z = d + c := ⟨_, rfl⟩
          obtain ⟨xy, hxy⟩ : ∃ z, z = x * y := ⟨_, rfl⟩
          have hxyb : xy ≤ 65025 := by rw [hxy]; exact Nat.mul_le_mul (show x ≤ 255 by omega) (show y ≤ 255 by omega)
          obtain ⟨z, hz⟩ : ∃ z, z = z0 + xy := ⟨_, rfl⟩
          obtain ⟨m, hm⟩ : ∃ m, m = z % 256 := ⟨_, rfl⟩
          obtain ⟨q, hq⟩ : ∃ q, q = z / 256 := ⟨_, rfl⟩
          have t1 : (z : Int).tmod 256 = (m : Int) := by rw [Int.tmod_eq_emod_of_nonneg (by omega)]; omega
          have t2 : (z : Int) % 256 = (m : Int) := by omega
          have t3 : (z : Int).tdiv 256 = (q : Int) := by rw [Int.tdiv_eq_ediv_of_nonneg (by omega)]; omega
          have t4 : (z : Int) / 256 = (q : Int) := by omega
          have hz0i : (d : Int) + c = z0 := by omega
          have hxyi : (x : Int) * y = xy := by rw [hxy]; simp
          have hxyw : IntKind.i64.wrap ((x : Int) * y) = xy := by rw [hxyi]; exact IntWalk.i64_in _ (by omega)
          have hzi : (z0 : Int) + xy = z := by omega
          have hzw : IntKind.i64.wrap ((z0 : Int) + xy) = z := by rw [hzi]; exact IntWalk.i64_in _ (by omega)
          have hcO : wz.cell? ⟨w.heap.size, p, none⟩ = some (.int .i64 (d : Int)) := by
            rw [hown.out.cellAt p (by omega), ic_get _ _ (by rw [M.tR_length _ _ _ _ _ (by omega)]; exact hp36), hp, M.tR_get _ _ _ _ _ (by omega), ← hd.out]
          have hfO : wz.frozen? ⟨w.heap.size, p, none⟩ = false := hown.out.frozenAt p
          obtain ⟨s1, s2⟩ := M.t_step X0 x b i k (by omega)
          rw [← hd.out, ← hc.out, ← hy.out, ← hxy, ← hz0, ← hz] at s1 s2
          have HNX : Hid (M.tC X0 x b i (k + 1) = q) := by rw [Hid, s2, hq]
          have fin : Hid ((wz.setCell ⟨w.heap.size, p, none⟩ (.int .i64 (m : Int))).ownsRow w.heap.size 3 1 (.slice (some ⟨w.heap.size, 0, none⟩) 36 36) 36 (ic (M.tR X0 x b i (k + 1)))) := by
            have h := (hown.out.stored p (.int .i64 (m : Int))).1
            rw [Hid, ← s1, ← hp, ← hm, ← ic_set]
            exact h
          have HXY := Lib.hid hxy
          have HZ := Lib.hid hz
          have HZ0 := Lib.hid hz0
          clear hm hq hp s1 s2 hown hz0 hxy
          by_cases hkb : k < lb
          · obtain ⟨b1, o1, p1, e1, cx⟩ := HA.out.cell kk i (by have := HLA.out; omega)
            injection e1 with e1 e1' e1''
            subst e1
            obtain ⟨b2, o2, p2, e2, cy⟩ := HB.out.cell kk k (by have := HLB.out; omega)
            injection e2 with e2 e2' e2''
            subst e2
            rw [← hx.out] at cx
            rw [← hy.out] at cy
            clear hz e1' e1'' e2' e2'' hgo
            go_wp2
            go_quiet (fail)
            go_wp2
            refine ⟨⟨k + 1, by omega, by go_num, by rw [HNX.out], fin.out, below_set (drewN_below kk _) (Nat.le_refl _) _⟩, by simp [intOf]; omega⟩
          · have hc0 : 0 < c := by omega
            have hy0 : y = 0 := by rw [hy.out]; exact getD_none b k (by have := HLB.out; omega)
            have hzz : z = z0 := by have := HXY.out; rw [hy0, Nat.mul_zero] at this; omega
            subst hzz
            clear hz hgo
            go_wp2
            go_roundw
            case rel => exact ⟨k + 1, by omega, by go_num, by rw [HNX.out], fin, below_set kk (Nat.le_refl _) _⟩
            case measure => simp [intOf]; omega
        · have hkb : ¬ k < lb := by omega
          have hc0 : c = 0 := by omega
          have O1 : Hid (wz.ownsRow w.heap.size 3 1 (.slice (some ⟨w.heap.size, 0, none⟩) 36 36) 36 (ic (M.dg (M.gi a (i + 1) * M.gi b lb) 36))) := by
            have h := M.t_end X0 x b i k HXB.out (by have := HLB.out; omega) (by omega) (by rw [← hc.out]; exact hc0)
            rw [hX0.out, hx.out] at h
            rw [Hid, HLB.out, M.gi_times, ← HLB.out]
            rw [← HLB.out] at h
            rw [← h, ← hX0.out, ← hx.out]
            exact hown.out
          subst hc0
          clear hown hgo
          go_wp2
          go_roundw
          case rel => exact ⟨i + 1, by omega, by go_num, O1, kk⟩
          case measure => simp [intOf]; omega
    · obtain rfl : i = la := by omega
      go_wp2
      go_ret
      refine ⟨_, rfl, ?_, kk⟩
      rw [OwnI, M.dg_length]
      exact hown.out

end Go.Proofs.YtogklpeehfoijaaDoor
