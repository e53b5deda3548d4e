/-
  PLAIN MATHEMATICS OF orlopref07.fold: one round of it, and why it ends. Nothing of the program. Conditions: as each says.
-/
import Derived.Test.YteombilmndlhjaaFieldMath
namespace Go.Proofs.Yteombilmndlhjaa.M
set_option linter.unusedVariables false

/-- How great the places may be. -/
def FB (l : List Nat) : Prop := (l.length ≤ 63 ∧ ∀ i, l.getD i 0 ≤ 2097152) ∨ (l.length ≤ 32 ∧ ∀ i, l.getD i 0 ≤ 134217728)

theorem FB.le {l : List Nat} (h : FB l) (i : Nat) : l.getD i 0 ≤ 134217728 := by
  rcases h with h | h
  · have := h.2 i; omega
  · exact h.2 i

theorem FB.len {l : List Nat} (h : FB l) : l.length ≤ 63 := by rcases h with h | h <;> omega

/-- What is carried out of the 32 places. -/
def fC (O : Nat) (l : List Nat) : Nat := fY O l 32 / 256 ^ 32

theorem fC_le (O : Nat) (l : List Nat) (h : FB l) : fC O l ≤ 526345 := by
  have := fY_le O l 134217728 h.le 32
  rw [fC]
  omega

/-- What is beyond 32 places. -/
def fR (l : List Nat) : Nat := gi (l.drop 32) (l.length - 32)

theorem total (O : Nat) (l : List Nat) (hO : O < 256 ^ 32) : O + gi l l.length = fY O l 32 % 256 ^ 32 + (fC O l + fR l) * 256 ^ 32 := by
  have e1 : fY O l 32 % 256 ^ 32 + fC O l * 256 ^ 32 = O + gi l 32 := by
    rw [fC, Nat.mul_comm, Nat.mod_add_div, fY, Nat.mod_eq_of_lt hO]
  have e2 : gi l l.length = gi l 32 + fR l * 256 ^ 32 := by
    by_cases h : l.length ≤ 32
    · rw [fR, show l.length - 32 = 0 by omega, gi, Nat.zero_mul, Nat.add_zero, gi_all l 32 h]
    · have := gi_drop l 32 (l.length - 32)
      rwa [show 32 + (l.length - 32) = l.length by omega] at this
  rw [e2, Nat.add_mul]
  omega

/-- The row behind a round, and its sum. -/
theorem round_mod (O S : Nat) (l : List Nat) (hO : O < 256 ^ 32) (hS : S = 38 * (fC O l + fR l)) : (fY O l 32 % 256 ^ 32 + S) % Q = (O + gi l l.length) % Q := by
  rw [total O l hO, hS]
  exact fold_mod _ _ _ rfl

theorem less_core (X R W n len : Nat) (h1 : 1000 ≤ W) (hn : n ≤ 63) (h : 0 < R ∨ n < len) : (X + 38 * R) * 64 + n < (X + R * W) * 64 + len := by
  have h2 : R * 1000 ≤ R * W := Nat.mul_le_mul_left _ h1
  generalize R * W = Y at *
  rcases h with h | h <;> omega

theorem round_less (O S n : Nat) (l : List Nat) (hO : O < 256 ^ 32) (hS : S = 38 * (fC O l + fR l)) (hn : n ≤ 63) (h : 0 < fC O l + fR l ∨ n < l.length) :
    (fY O l 32 % 256 ^ 32 + S) * 64 + n < (O + gi l l.length) * 64 + l.length := by
  rw [total O l hO, hS]
  exact less_core _ _ _ _ _ (by decide +kernel) hn h

/-- The places beyond, 38 times. -/
def nx (l : List Nat) : List Nat := (l.drop 32).map (38 * ·)

theorem nx_length (l : List Nat) : (nx l).length = l.length - 32 := by rw [nx, List.length_map, List.length_drop]

theorem nx_get (l : List Nat) (i : Nat) : (nx l).getD i 0 = 38 * l.getD (32 + i) 0 := by
  simp only [nx, List.getD_eq_getElem?_getD, List.getElem?_map, List.getElem?_drop]
  cases l[32 + i]? <;> rfl

theorem nx_sum (l : List Nat) : gi (nx l) (nx l).length = 38 * fR l := by
  rw [nx_length, fR]
  exact gi_scale _ _ _ _ fun i hi => by rw [nx_get]; simp [List.getD_eq_getElem?_getD]

theorem nx_take (l : List Nat) (j : Nat) (h : 32 + j < l.length) : (nx l).take (j + 1) = (nx l).take j ++ [38 * l.getD (32 + j) 0] := by
  have hl : j < (nx l).length := by rw [nx_length]; omega
  rw [List.take_succ_eq_append_getElem hl]
  have := nx_get l j
  simp only [List.getD_eq_getElem?_getD, List.getElem?_eq_getElem hl, Option.getD_some] at this
  rw [this, List.getD_eq_getElem?_getD]

theorem fC_le2 (O : Nat) (l : List Nat) (h1 : ∀ i, l.getD i 0 ≤ 2097152) : fC O l ≤ 8225 := by
  have := fY_le O l 2097152 h1 32
  rw [fC]
  omega

theorem set_rowF (m : List Nat) (c : Nat) (h0 : 0 < m.length) (hlen : m.length ≤ 32) (hm : ∀ i, m.getD i 0 ≤ 79691776) (hc : c ≤ 8225) : FB (m.set 0 (m.getD 0 0 + 38 * c)) ∧ gi (m.set 0 (m.getD 0 0 + 38 * c)) m.length = gi m m.length + 38 * c := by
  constructor
  · refine .inr ⟨by rw [List.length_set]; exact hlen, fun i => ?_⟩
    have h2 := hm i
    have h3 := hm 0
    by_cases hi : i = 0
    · subst hi
      have e : (m.set 0 (m.getD 0 0 + 38 * c)).getD 0 0 = m.getD 0 0 + 38 * c := by simp [List.getD_eq_getElem?_getD, h0]
      rw [e]
      omega
    · have e : (m.set 0 (m.getD 0 0 + 38 * c)).getD i 0 = m.getD i 0 := by
        simp only [List.getD_eq_getElem?_getD, List.getElem?_set]
        rw [if_neg (fun h => hi h.symm)]
      rw [e]
      omega
  · have := gi_head m m.length h0 (m.getD 0 0 + 38 * c) h0
    omega

/-- Beyond 32 places the round's row is the places beyond, and the carry in the first one. -/
theorem long_row (O : Nat) (l : List Nat) (hl : 32 < l.length) (hb : FB l) : FB ((nx l).set 0 ((nx l).getD 0 0 + 38 * fC O l)) ∧ gi ((nx l).set 0 ((nx l).getD 0 0 + 38 * fC O l)) (nx l).length = 38 * (fC O l + fR l) := by
  have h1 : ∀ i, l.getD i 0 ≤ 2097152 := by
    rcases hb with h | h
    · exact h.2
    · exact absurd h.1 (by omega)
  have hlen := nx_length l
  have h63 := hb.len
  have hs := set_rowF (nx l) (fC O l) (by omega) (by omega) (fun i => by rw [nx_get]; have := h1 (32 + i); omega) (fC_le2 O l h1)
  refine ⟨hs.1, ?_⟩
  rw [hs.2, nx_sum, Nat.mul_add, Nat.add_comm]

theorem long_nil (O : Nat) (l : List Nat) (hl : 32 < l.length) (hb : FB l) (hc : fC O l = 0) : FB (nx l) ∧ gi (nx l) (nx l).length = 38 * (fC O l + fR l) := by
  have h := long_row O l hl hb
  rw [hc, Nat.mul_zero, Nat.add_zero] at h
  have e : (nx l).set 0 ((nx l).getD 0 0) = nx l := by
    have h0 : 0 < (nx l).length := by rw [nx_length]; omega
    rw [List.getD_eq_getElem?_getD, List.getElem?_eq_getElem h0, Option.getD_some, List.set_getElem_self]
  rw [e] at h
  rw [hc]
  exact h

theorem fR_short (l : List Nat) (h : l.length ≤ 32) : fR l = 0 := by rw [fR, show l.length - 32 = 0 by omega]; rfl

theorem one_row (c : Nat) (hc : c ≤ 526345) : FB [38 * c] ∧ gi [38 * c] 1 = 38 * (c + 0) := by
  refine ⟨.inr ⟨by simp, fun i => ?_⟩, by simp [gi]⟩
  match i with
  | 0 =>
    rw [List.getD_cons_zero]
    omega
  | i + 1 => simp [List.getD_eq_getElem?_getD]

theorem short_row (O : Nat) (l : List Nat) (hl : l.length ≤ 32) (hb : FB l) : FB [38 * fC O l] ∧ gi [38 * fC O l] 1 = 38 * (fC O l + fR l) := by
  rw [fR_short l hl]
  exact one_row _ (fC_le O l hb)

theorem short_nil (O : Nat) (l : List Nat) (hl : l.length ≤ 32) (hc : fC O l = 0) : FB [] ∧ gi [] 0 = 38 * (fC O l + fR l) := by
  refine ⟨.inr ⟨by simp, fun i => by simp⟩, ?_⟩
  rw [fR_short l hl, hc]
  rfl

end Go.Proofs.Yteombilmndlhjaa.M
