/-
  BASE64 IN PLAIN MATHEMATICS: letters, texts, what the document's own reading does. Conditions: none.
-/
import Derived.Test.YtmheaefpbebgfaaDoorMath
namespace Go.Proofs.YtmheaefpbebgfaaDoor
set_option linter.unusedVariables false
set_option maxRecDepth 100000

namespace M

/-- The letter of a value. -/
def let64 (n : Nat) : UInt8 := if n < 26 then UInt8.ofNat (65 + n) else if n < 52 then UInt8.ofNat (97 + (n - 26)) else if n < 62 then UInt8.ofNat (48 + (n - 52)) else if n = 62 then 43 else 47

/-- The value of a letter. -/
def val64 (c : UInt8) : Option Nat := (List.range 64).find? fun k => let64 k == c

theorem let64_inj : ∀ i, i < 64 → ∀ j, j < 64 → let64 i = let64 j → i = j := by decide +kernel
theorem let64_pad : ∀ i, i < 64 → let64 i ≠ 61 := by decide +kernel

theorem val_some {c : UInt8} {k : Nat} (h : val64 c = some k) : k < 64 ∧ let64 k = c := by
  have h1 := List.find?_some h
  have h2 := List.mem_of_find?_eq_some h
  exact ⟨by simpa using h2, by simpa using h1⟩

theorem val_none {c : UInt8} (h : val64 c = none) : ∀ k, k < 64 → let64 k ≠ c := by
  intro k hk e
  have := List.find?_eq_none.1 h k (by simpa using hk)
  rw [e] at this
  simp at this

theorem val_let {k : Nat} (h : k < 64) : val64 (let64 k) = some k := by
  cases hv : val64 (let64 k) with
  | none => exact absurd rfl (val_none hv k h)
  | some j =>
    obtain ⟨h1, h2⟩ := val_some hv
    rw [let64_inj j h1 k h h2]

/-- Bytes as letters. -/
def enc64 : List UInt8 → List UInt8
  | a :: b :: c :: r => let64 (a.toNat / 4) :: let64 (a.toNat % 4 * 16 + b.toNat / 16) :: let64 (b.toNat % 16 * 4 + c.toNat / 64) :: let64 (c.toNat % 64) :: enc64 r
  | [a, b] => [let64 (a.toNat / 4), let64 (a.toNat % 4 * 16 + b.toNat / 16), let64 (b.toNat % 16 * 4), 61]
  | [a] => [let64 (a.toNat / 4), let64 (a.toNat % 4 * 16), 61, 61]
  | [] => []

theorem enc64_len : ∀ b : List UInt8, (enc64 b).length = (b.length + 2) / 3 * 4
  | a :: b :: c :: r => by
    rw [enc64, List.length_cons, List.length_cons, List.length_cons, List.length_cons, enc64_len r, List.length_cons, List.length_cons, List.length_cons]
    omega
  | [a, b] => by simp [enc64]
  | [a] => by simp [enc64]
  | [] => by simp [enc64]

theorem enc64_append : ∀ (p q : List UInt8), p.length % 3 = 0 → enc64 (p ++ q) = enc64 p ++ enc64 q
  | a :: b :: c :: r, q, h => by
    have h2 : r.length % 3 = 0 := by
      rw [List.length_cons, List.length_cons, List.length_cons] at h
      omega
    show enc64 (a :: b :: c :: (r ++ q)) = _
    rw [enc64, enc64, enc64_append r q h2]
    rfl
  | [a, b], q, h => by simp at h
  | [a], q, h => by simp at h
  | [], q, h => rfl

/-- What a reader holds: the bits that wait, how many they are, the bytes so far. -/
structure Rd where
  v : Nat
  k : Nat
  o : List UInt8

def rdS (s : Rd) (c : UInt8) : Option Rd := (val64 c).map fun x => if 8 ≤ s.k + 6 then ⟨(s.v * 64 + x) % 2 ^ (s.k + 6 - 8), s.k + 6 - 8, s.o ++ [UInt8.ofNat ((s.v * 64 + x) / 2 ^ (s.k + 6 - 8))]⟩ else ⟨s.v * 64 + x, s.k + 6, s.o⟩

def rdL : List UInt8 → Rd → Option Rd
  | [], s => some s
  | c :: r, s => if c = 61 then some s else (rdS s c).bind (rdL r)

theorem rdS_let {x : Nat} (h : x < 64) (s : Rd) : rdS s (let64 x) = some (if 8 ≤ s.k + 6 then ⟨(s.v * 64 + x) % 2 ^ (s.k + 6 - 8), s.k + 6 - 8, s.o ++ [UInt8.ofNat ((s.v * 64 + x) / 2 ^ (s.k + 6 - 8))]⟩ else ⟨s.v * 64 + x, s.k + 6, s.o⟩) := by
  rw [rdS, val_let h]
  rfl

theorem rdL_let {x : Nat} (h : x < 64) (r : List UInt8) (s : Rd) : rdL (let64 x :: r) s = rdL r (if 8 ≤ s.k + 6 then ⟨(s.v * 64 + x) % 2 ^ (s.k + 6 - 8), s.k + 6 - 8, s.o ++ [UInt8.ofNat ((s.v * 64 + x) / 2 ^ (s.k + 6 - 8))]⟩ else ⟨s.v * 64 + x, s.k + 6, s.o⟩) := by
  rw [rdL, if_neg (let64_pad x h), rdS_let h]
  rfl

theorem rd_k0 {x : Nat} (h : x < 64) (r o : List UInt8) (v : Nat) : rdL (let64 x :: r) ⟨v, 0, o⟩ = rdL r ⟨v * 64 + x, 6, o⟩ := rdL_let h r _
theorem rd_k6 {x : Nat} (h : x < 64) (r o : List UInt8) (v : Nat) : rdL (let64 x :: r) ⟨v, 6, o⟩ = rdL r ⟨(v * 64 + x) % 16, 4, o ++ [UInt8.ofNat ((v * 64 + x) / 16)]⟩ := rdL_let h r _
theorem rd_k4 {x : Nat} (h : x < 64) (r o : List UInt8) (v : Nat) : rdL (let64 x :: r) ⟨v, 4, o⟩ = rdL r ⟨(v * 64 + x) % 4, 2, o ++ [UInt8.ofNat ((v * 64 + x) / 4)]⟩ := rdL_let h r _
theorem rd_k2 {x : Nat} (h : x < 64) (r o : List UInt8) (v : Nat) : rdL (let64 x :: r) ⟨v, 2, o⟩ = rdL r ⟨(v * 64 + x) % 1, 0, o ++ [UInt8.ofNat ((v * 64 + x) / 1)]⟩ := rdL_let h r _

theorem ofNat_eq {n : Nat} {a : UInt8} (h : n = a.toNat) : UInt8.ofNat n = a := by
  rw [h]
  exact UInt8.ofNat_toNat

theorem rd_three (a b c : UInt8) (r : List UInt8) (o : List UInt8) : rdL (let64 (a.toNat / 4) :: let64 (a.toNat % 4 * 16 + b.toNat / 16) :: let64 (b.toNat % 16 * 4 + c.toNat / 64) :: let64 (c.toNat % 64) :: r) ⟨0, 0, o⟩ = rdL r ⟨0, 0, o ++ [a, b, c]⟩ := by
  have ha := a.toNat_lt
  have hb := b.toNat_lt
  have hc := c.toNat_lt
  rw [rd_k0 (by omega), rd_k6 (by omega), rd_k4 (by omega), rd_k2 (by omega)]
  rw [ofNat_eq (a := a) (by omega), ofNat_eq (a := b) (by omega), ofNat_eq (a := c) (by omega), Nat.mod_one, List.append_assoc, List.append_assoc]
  rfl

/-- What was written is read. -/
theorem rd_enc : ∀ (b o : List UInt8), ∃ v k, rdL (enc64 b) ⟨0, 0, o⟩ = some ⟨v, k, o ++ b⟩
  | a :: b :: c :: r, o => by
    rw [enc64, rd_three]
    obtain ⟨v, k, h⟩ := rd_enc r (o ++ [a, b, c])
    exact ⟨v, k, by rw [h, List.append_assoc]; rfl⟩
  | [a, b], o => by
    have ha := a.toNat_lt
    have hb := b.toNat_lt
    rw [enc64, rd_k0 (by omega), rd_k6 (by omega), rd_k4 (by omega), rdL, if_pos rfl]
    rw [ofNat_eq (a := a) (by omega), ofNat_eq (a := b) (by omega), List.append_assoc]
    exact ⟨_, _, rfl⟩
  | [a], o => by
    have ha := a.toNat_lt
    rw [enc64, rd_k0 (by omega), rd_k6 (by omega), rdL, if_pos rfl]
    rw [ofNat_eq (a := a) (by omega)]
    exact ⟨_, _, rfl⟩
  | [], o => ⟨0, 0, by rw [enc64, rdL, List.append_nil]⟩

theorem enc64_inj {a b : List UInt8} (h : enc64 a = enc64 b) : a = b := by
  obtain ⟨v, k, h1⟩ := rd_enc a []
  obtain ⟨v2, k2, h2⟩ := rd_enc b []
  rw [h, h2] at h1
  injection h1 with h1
  injection h1 with _ _ h1
  exact h1.symm

/-- What a text is read as. -/
noncomputable def dec64 (s : List UInt8) : Option (List UInt8) := open Classical in if h : ∃ b, enc64 b = s then some h.choose else none

theorem dec64_some {s b : List UInt8} : dec64 s = some b ↔ enc64 b = s := by
  rw [dec64]
  constructor
  · intro h
    split at h
    · rename_i he
      injection h with h
      rw [← h]
      exact he.choose_spec
    · cases h
  · intro h
    have he : ∃ b, enc64 b = s := ⟨b, h⟩
    rw [dif_pos he]
    congr 1
    exact enc64_inj (he.choose_spec.trans h.symm)

/-- The document's own reading: read on to '=', then written again. -/
theorem dec64_rd (s : List UInt8) : dec64 s = (rdL s ⟨0, 0, []⟩).bind fun t => if enc64 t.o = s then some t.o else none := by
  cases hd : dec64 s with
  | some b =>
    have h := dec64_some.1 hd
    obtain ⟨v, k, h1⟩ := rd_enc b []
    rw [h] at h1
    rw [h1]
    show some b = if enc64 ([] ++ b) = s then some ([] ++ b) else none
    rw [List.nil_append, if_pos h]
  | none =>
    cases hr : rdL s ⟨0, 0, []⟩ with
    | none => rfl
    | some t =>
      show none = if enc64 t.o = s then some t.o else none
      by_cases h : enc64 t.o = s
      · rw [dec64_some.2 h] at hd
        cases hd
      · rw [if_neg h]

/-- Bit number j, the greatest of the first byte first. -/
def bit64 (b : List UInt8) (j : Nat) : Nat := if j / 8 < b.length then (b.getD (j / 8) 0).toNat / 2 ^ (7 - j % 8) % 2 else 0
/-- k bits from number i on. -/
def six64 (b : List UInt8) (i : Nat) : Nat → Nat
  | 0 => 0
  | k + 1 => six64 b i k * 2 + bit64 b (i + k)

theorem bit64_lt (b : List UInt8) (j : Nat) : bit64 b j < 2 := by
  rw [bit64]
  split <;> omega

theorem six64_lt (b : List UInt8) (i : Nat) : ∀ k, six64 b i k < 2 ^ k
  | 0 => by simp [six64]
  | k + 1 => by
    have h := six64_lt b i k
    have h2 := bit64_lt b (i + k)
    rw [six64, Nat.pow_succ]
    omega

theorem bit64_far (a b c : UInt8) (r : List UInt8) (j : Nat) : bit64 (a :: b :: c :: r) (24 + j) = bit64 r j := by
  have e1 : (24 + j) / 8 = j / 8 + 3 := by omega
  have e2 : (24 + j) % 8 = j % 8 := by omega
  rw [bit64, bit64, e1, e2, List.length_cons, List.length_cons, List.length_cons]
  by_cases h : j / 8 < r.length
  · rw [if_pos h, if_pos (by omega)]
    rfl
  · rw [if_neg h, if_neg (by omega)]

theorem six64_far (a b c : UInt8) (r : List UInt8) (i : Nat) : ∀ k, six64 (a :: b :: c :: r) (24 + i) k = six64 r i k
  | 0 => rfl
  | k + 1 => by rw [six64, six64, six64_far a b c r i k, Nat.add_assoc, bit64_far]

/-- The first t letters. -/
def text64 (b : List UInt8) (t : Nat) : List UInt8 := (List.range t).map fun q => let64 (six64 b (6 * q) 6)

theorem text64_next (b : List UInt8) (t : Nat) : text64 b (t + 1) = text64 b t ++ [let64 (six64 b (6 * t) 6)] := by
  rw [text64, text64, List.range_succ, List.map_append]
  rfl

theorem text64_len (b : List UInt8) (t : Nat) : (text64 b t).length = t := by simp [text64]

theorem six_0 (a : UInt8) (r : List UInt8) : six64 (a :: r) 0 6 = a.toNat / 4 := by
  have ha := a.toNat_lt
  have h : ∀ k, k < 6 → bit64 (a :: r) (0 + k) = a.toNat / 2 ^ (7 - k) % 2 := fun k hk => by
    rw [bit64, if_pos (by rw [List.length_cons]; omega), show (0 + k) / 8 = 0 by omega, show (0 + k) % 8 = k by omega]
    rfl
  simp only [six64, h 0 (by omega), h 1 (by omega), h 2 (by omega), h 3 (by omega), h 4 (by omega), h 5 (by omega), Nat.reduceSub, Nat.reducePow]
  omega

theorem six_6 (a b : UInt8) (r : List UInt8) : six64 (a :: b :: r) 6 6 = a.toNat % 4 * 16 + b.toNat / 16 := by
  have ha := a.toNat_lt
  have hb := b.toNat_lt
  have h : ∀ k, k < 2 → bit64 (a :: b :: r) (6 + k) = a.toNat / 2 ^ (1 - k) % 2 := fun k hk => by
    rw [bit64, if_pos (by rw [List.length_cons]; omega), show (6 + k) / 8 = 0 by omega, show 7 - (6 + k) % 8 = 1 - k by omega]
    rfl
  have h2 : ∀ k, 2 ≤ k → k < 6 → bit64 (a :: b :: r) (6 + k) = b.toNat / 2 ^ (9 - k) % 2 := fun k hk hk2 => by
    rw [bit64, if_pos (by rw [List.length_cons, List.length_cons]; omega), show (6 + k) / 8 = 1 by omega, show 7 - (6 + k) % 8 = 9 - k by omega]
    rfl
  simp only [six64, h 0 (by omega), h 1 (by omega), h2 2 (by omega) (by omega), h2 3 (by omega) (by omega), h2 4 (by omega) (by omega), h2 5 (by omega) (by omega), Nat.reduceSub, Nat.reducePow]
  omega

theorem six_6' (a : UInt8) : six64 [a] 6 6 = a.toNat % 4 * 16 := by
  have ha := a.toNat_lt
  have h : ∀ k, k < 2 → bit64 [a] (6 + k) = a.toNat / 2 ^ (1 - k) % 2 := fun k hk => by
    rw [bit64, if_pos (by rw [List.length_cons]; omega), show (6 + k) / 8 = 0 by omega, show 7 - (6 + k) % 8 = 1 - k by omega]
    rfl
  have h2 : ∀ k, 2 ≤ k → k < 6 → bit64 [a] (6 + k) = 0 := fun k hk hk2 => by
    rw [bit64, if_neg (by rw [List.length_cons]; simp; omega)]
  simp only [six64, h 0 (by omega), h 1 (by omega), h2 2 (by omega) (by omega), h2 3 (by omega) (by omega), h2 4 (by omega) (by omega), h2 5 (by omega) (by omega), Nat.reduceSub, Nat.reducePow]
  omega

theorem six_12 (a b c : UInt8) (r : List UInt8) : six64 (a :: b :: c :: r) 12 6 = b.toNat % 16 * 4 + c.toNat / 64 := by
  have hb := b.toNat_lt
  have hc := c.toNat_lt
  have h : ∀ k, k < 4 → bit64 (a :: b :: c :: r) (12 + k) = b.toNat / 2 ^ (3 - k) % 2 := fun k hk => by
    rw [bit64, if_pos (by rw [List.length_cons, List.length_cons]; omega), show (12 + k) / 8 = 1 by omega, show 7 - (12 + k) % 8 = 3 - k by omega]
    rfl
  have h2 : ∀ k, 4 ≤ k → k < 6 → bit64 (a :: b :: c :: r) (12 + k) = c.toNat / 2 ^ (11 - k) % 2 := fun k hk hk2 => by
    rw [bit64, if_pos (by rw [List.length_cons, List.length_cons, List.length_cons]; omega), show (12 + k) / 8 = 2 by omega, show 7 - (12 + k) % 8 = 11 - k by omega]
    rfl
  simp only [six64, h 0 (by omega), h 1 (by omega), h 2 (by omega), h 3 (by omega), h2 4 (by omega) (by omega), h2 5 (by omega) (by omega), Nat.reduceSub, Nat.reducePow]
  omega

theorem six_12' (a b : UInt8) : six64 [a, b] 12 6 = b.toNat % 16 * 4 := by
  have hb := b.toNat_lt
  have h : ∀ k, k < 4 → bit64 [a, b] (12 + k) = b.toNat / 2 ^ (3 - k) % 2 := fun k hk => by
    rw [bit64, if_pos (by rw [List.length_cons, List.length_cons]; omega), show (12 + k) / 8 = 1 by omega, show 7 - (12 + k) % 8 = 3 - k by omega]
    rfl
  have h2 : ∀ k, 4 ≤ k → k < 6 → bit64 [a, b] (12 + k) = 0 := fun k hk hk2 => by
    rw [bit64, if_neg (by rw [List.length_cons, List.length_cons]; simp; omega)]
  simp only [six64, h 0 (by omega), h 1 (by omega), h 2 (by omega), h 3 (by omega), h2 4 (by omega) (by omega), h2 5 (by omega) (by omega), Nat.reduceSub, Nat.reducePow]
  omega

theorem six_18 (a b c : UInt8) (r : List UInt8) : six64 (a :: b :: c :: r) 18 6 = c.toNat % 64 := by
  have hc := c.toNat_lt
  have h : ∀ k, k < 6 → bit64 (a :: b :: c :: r) (18 + k) = c.toNat / 2 ^ (5 - k) % 2 := fun k hk => by
    rw [bit64, if_pos (by rw [List.length_cons, List.length_cons, List.length_cons]; omega), show (18 + k) / 8 = 2 by omega, show 7 - (18 + k) % 8 = 5 - k by omega]
    rfl
  simp only [six64, h 0 (by omega), h 1 (by omega), h 2 (by omega), h 3 (by omega), h 4 (by omega), h 5 (by omega), Nat.reduceSub, Nat.reducePow]
  omega

/-- How many letters, and how many signs fill up. -/
def num64 (n : Nat) : Nat := (8 * n + 5) / 6
def pad64 (t : Nat) : Nat := (4 - t % 4) % 4

/-- Bit by bit: the same. -/
theorem text_enc : ∀ b : List UInt8, text64 b (num64 b.length) ++ List.replicate (pad64 (num64 b.length)) 61 = enc64 b
  | a :: b :: c :: r => by
    have e1 : num64 (a :: b :: c :: r).length = num64 r.length + 4 := by
      rw [num64, num64, List.length_cons, List.length_cons, List.length_cons]
      omega
    have e2 : pad64 (num64 r.length + 4) = pad64 (num64 r.length) := by
      rw [pad64, pad64]
      omega
    have e3 : text64 (a :: b :: c :: r) (num64 r.length + 4) = [let64 (a.toNat / 4), let64 (a.toNat % 4 * 16 + b.toNat / 16), let64 (b.toNat % 16 * 4 + c.toNat / 64), let64 (c.toNat % 64)] ++ text64 r (num64 r.length) := by
      have h : List.range (num64 r.length + 4) = [0, 1, 2, 3] ++ (List.range (num64 r.length)).map (4 + ·) := by
        rw [Nat.add_comm, List.range_add]
        rfl
      rw [text64, h, List.map_append, List.map_map]
      congr 1
      · simp only [List.map_cons, List.map_nil, Nat.reduceMul]
        rw [six_0, six_6, six_12, six_18]
      · rw [text64]
        refine List.map_congr_left fun q _ => ?_
        show let64 (six64 (a :: b :: c :: r) (6 * (4 + q)) 6) = _
        rw [show 6 * (4 + q) = 24 + 6 * q by omega, six64_far]
    rw [e1, e2, e3, List.append_assoc, text_enc r, enc64]
    rfl
  | [a, b] => by
    have e1 : num64 [a, b].length = 3 := by simp [num64]
    have e3 : text64 [a, b] 3 = [let64 (six64 [a, b] 0 6), let64 (six64 [a, b] 6 6), let64 (six64 [a, b] 12 6)] := rfl
    rw [e1, e3, show pad64 3 = 1 from rfl, six_0, six_6, six_12', enc64]
    rfl
  | [a] => by
    have e1 : num64 [a].length = 2 := by simp [num64]
    have e3 : text64 [a] 2 = [let64 (six64 [a] 0 6), let64 (six64 [a] 6 6)] := rfl
    rw [e1, e3, show pad64 2 = 2 from rfl, six_0, six_6', enc64]
    rfl
  | [] => rfl

end M

end Go.Proofs.YtmheaefpbebgfaaDoor
