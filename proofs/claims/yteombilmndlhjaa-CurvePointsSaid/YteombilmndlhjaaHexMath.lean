/-
  PLAIN MATHEMATICS OF HEXADECIMAL TEXTS: lists of bytes, nothing of the program. Conditions: none.
-/
import Derived.Lib.Bytealg
namespace Go.Proofs.Yteombilmndlhjaa.M

/-- A digit of base sixteen, as a letter. -/
def dig (n : Nat) : UInt8 := if n < 10 then UInt8.ofNat (48 + n) else UInt8.ofNat (87 + n)

/-- Bytes as digits. -/
def hex : List UInt8 → List UInt8
  | [] => []
  | b :: r => dig (b.toNat / 16) :: dig (b.toNat % 16) :: hex r

/-- A letter's worth; 99: it is no digit. -/
def val (c : UInt8) : Nat := if 48 ≤ c.toNat ∧ c.toNat ≤ 57 then c.toNat - 48 else if 97 ≤ c.toNat ∧ c.toNat ≤ 102 then c.toNat - 87 else 99

def good (s : List UInt8) (j : Nat) : Prop := val (s.getD (2 * j) 0) ≤ 15 ∧ val (s.getD (2 * j + 1) 0) ≤ 15

instance (s : List UInt8) (j : Nat) : Decidable (good s j) := by unfold good; infer_instance

def byteAt (s : List UInt8) (j : Nat) : UInt8 := UInt8.ofNat (16 * val (s.getD (2 * j) 0) + val (s.getD (2 * j + 1) 0))

/-- The bytes of the first k pairs. -/
def upTo (s : List UInt8) : Nat → List UInt8
  | 0 => []
  | k + 1 => upTo s k ++ [byteAt s k]

/-- A text's bytes, if it is one of digits. -/
def unhex (s : List UInt8) : Option (List UInt8) := if s.length % 2 = 0 ∧ ∀ j < s.length / 2, good s j then some (upTo s (s.length / 2)) else none

theorem hex_length (b : List UInt8) : (hex b).length = 2 * b.length := by
  induction b with
  | nil => rfl
  | cons x r ih => simp only [hex, List.length_cons, ih]; omega

theorem hex_append (a b : List UInt8) : hex (a ++ b) = hex a ++ hex b := by
  induction a with
  | nil => rfl
  | cons x r ih => simp [hex, ih]

theorem upTo_length (s : List UInt8) (k : Nat) : (upTo s k).length = k := by
  induction k with
  | zero => rfl
  | succ k ih => simp [upTo, ih]

theorem val_dig : ∀ n : Fin 16, val (dig n.val) = n.val := by decide

theorem val_of_dig (n : Nat) (h : n < 16) : val (dig n) = n := val_dig ⟨n, h⟩

theorem hex_getD (b : List UInt8) : ∀ j, j < b.length → (hex b).getD (2 * j) 0 = dig ((b.getD j 0).toNat / 16) ∧ (hex b).getD (2 * j + 1) 0 = dig ((b.getD j 0).toNat % 16) := by
  induction b with
  | nil => intro j hj; simp at hj
  | cons x r ih =>
    intro j hj
    cases j with
    | zero => exact ⟨rfl, rfl⟩
    | succ j =>
      have := ih j (by simpa using hj)
      rw [show 2 * (j + 1) = 2 * j + 1 + 1 by omega]
      simpa [hex] using this

theorem upTo_hex (b : List UInt8) : ∀ k, k ≤ b.length → upTo (hex b) k = b.take k := by
  intro k
  induction k with
  | zero => intro _; simp [upTo]
  | succ k ih =>
    intro h
    rw [upTo, ih (by omega), List.take_succ_eq_append_getElem (by omega)]
    obtain ⟨e1, e2⟩ := hex_getD b k (by omega)
    have hlt := (b.getD k 0).toNat_lt
    have e : byteAt (hex b) k = b.getD k 0 := by
      rw [byteAt, e1, e2, val_of_dig _ (by omega), val_of_dig _ (by omega), Nat.div_add_mod]
      simp
    rw [e]
    simp [show k < b.length by omega]

theorem val_le (c : UInt8) : val c ≤ 99 := by
  have := c.toNat_lt
  unfold val
  split
  · omega
  · split <;> omega

theorem unhex_odd (s : List UInt8) (h : s.length % 2 ≠ 0) : unhex s = none := by
  unfold unhex
  rw [if_neg (fun k => h k.1)]

theorem unhex_none (s : List UInt8) (j : Nat) (hj : j < s.length / 2) (h : ¬ good s j) : unhex s = none := by
  unfold unhex
  rw [if_neg (fun k => h (k.2 j hj))]

theorem unhex_some (s : List UInt8) (h0 : s.length % 2 = 0) (h : ∀ j < s.length / 2, good s j) : unhex s = some (upTo s (s.length / 2)) := by
  unfold unhex
  rw [if_pos ⟨h0, h⟩]

theorem unhex_length (s b : List UInt8) (h : unhex s = some b) : b.length = s.length / 2 := by
  unfold unhex at h
  split at h
  · cases h
    exact upTo_length _ _
  · cases h

theorem unhex_hex (b : List UInt8) : unhex (hex b) = some b := by
  have hl := hex_length b
  have e : (hex b).length / 2 = b.length := by omega
  unfold unhex
  rw [if_pos, e, upTo_hex b b.length (Nat.le_refl _), List.take_length]
  refine ⟨by omega, fun j hj => ?_⟩
  obtain ⟨e1, e2⟩ := hex_getD b j (by omega)
  have hlt := (b.getD j 0).toNat_lt
  rw [good, e1, e2, val_of_dig _ (by omega), val_of_dig _ (by omega)]
  omega

/-- The row of digits. -/
def digits : List UInt8 := [48, 49, 50, 51, 52, 53, 54, 55, 56, 57, 97, 98, 99, 100, 101, 102]

theorem index_digit : ∀ c : Fin 256, Lib.indexByte digits (UInt8.ofNat c.val) = (if val (UInt8.ofNat c.val) ≤ 15 then ((val (UInt8.ofNat c.val) : Nat) : Int) else -1) := by decide +kernel

theorem index_of (c : UInt8) : Lib.indexByte digits c = (if val c ≤ 15 then ((val c : Nat) : Int) else -1) := by
  have := index_digit ⟨c.toNat, c.toNat_lt⟩
  simpa using this

theorem digits_at : ∀ n : Fin 16, digits.getD n.val 0 = dig n.val := by decide

end Go.Proofs.Yteombilmndlhjaa.M
