/-
  PLAIN MATHEMATICS: blocks of 256 bytes laid end to end, and what laying a block, or turning bytes, does to the whole row. Nothing of the program. Conditions: none.
-/
import Derived.Test.YtoeighongkchnaaRefDiskT
namespace Go.Proofs.Ytoeighongkchnaa.M
set_option linter.unusedVariables false

theorem flat_set : ∀ (s : List (List UInt8)) (i : Nat) (b : List UInt8), (∀ c ∈ s, c.length = 256) → i < s.length → (s.set i b).flatten = s.flatten.take (256 * i) ++ b ++ s.flatten.drop (256 * i + 256)
  | [], _, _, _, h => by cases h
  | c :: s, 0, b, h, _ => by
    have hc := h c (by simp)
    rw [List.set_cons_zero, List.flatten_cons, List.flatten_cons, Nat.mul_zero, List.take_zero, List.nil_append, Nat.zero_add, ← hc, List.drop_left]
  | c :: s, i + 1, b, h, hi => by
    have hc := h c (by simp)
    have ih := flat_set s i b (fun x hx => h x (by simp [hx])) (by simpa using hi)
    rw [List.set_cons_succ, List.flatten_cons, List.flatten_cons, ih]
    have e1 : 256 * (i + 1) = c.length + 256 * i := by omega
    have e2 : 256 * (i + 1) + 256 = c.length + (256 * i + 256) := by omega
    rw [e2, e1, List.take_length_add_append, List.drop_length_add_append]
    simp [List.append_assoc]

theorem flat_mid : ∀ (s : List (List UInt8)) (i : Nat), (∀ c ∈ s, c.length = 256) → i < s.length → (s.flatten.drop (256 * i)).take 256 = s.getD i []
  | [], _, _, h => by cases h
  | c :: s, 0, h, _ => by
    have hc := h c (by simp)
    rw [Nat.mul_zero, List.drop_zero, List.flatten_cons, ← hc, List.take_left]
    rfl
  | c :: s, i + 1, h, hi => by
    have hc := h c (by simp)
    have ih := flat_mid s i (fun x hx => h x (by simp [hx])) (by simpa using hi)
    have e1 : 256 * (i + 1) = c.length + 256 * i := by omega
    rw [List.flatten_cons, e1, List.drop_length_add_append, ih]
    rfl

theorem flat_turn1 : ∀ (s : List (List UInt8)) (p : Nat) (x : UInt8), (∀ c ∈ s, c.length = 256) → (turned1 s p x).flatten = s.flatten.set p x
  | [], p, x, _ => by simp [turned1]
  | c :: s, p, x, h => by
    have hc := h c (by simp)
    by_cases hp : p < 256
    · have e1 : p / 256 = 0 := by omega
      have e2 : p % 256 = p := by omega
      rw [turned1, e1, e2, List.set_cons_zero, List.flatten_cons, List.flatten_cons, List.set_append_left _ _ (by omega)]
      rfl
    · obtain ⟨q, rfl⟩ : ∃ q, p = q + 256 := ⟨p - 256, by omega⟩
      have ih := flat_turn1 s q x (fun y hy => h y (by simp [hy]))
      rw [turned1] at ih
      have e1 : (q + 256) / 256 = q / 256 + 1 := by omega
      have e2 : (q + 256) % 256 = q % 256 := by omega
      rw [turned1, e1, e2, List.set_cons_succ, List.flatten_cons, List.flatten_cons, List.set_append_right _ _ (by omega), hc, Nat.add_sub_cancel, ← ih]
      rfl

theorem turns_full (s : List (List UInt8)) (a : Int) (b : List UInt8) (h : ∀ c ∈ s, c.length = 256) : ∀ j, ∀ c ∈ turns s a b j, c.length = 256
  | 0, c, hc => h c hc
  | j + 1, c, hc => by
    rw [turns] at hc
    split at hc
    · rw [turned1] at hc
      rcases List.mem_or_eq_of_mem_set hc with hc | hc
      · exact turns_full s a b h j c hc
      · rw [hc, List.length_set]
        rename_i hin
        have hl : (a + (j : Int)).toNat / 256 < (turns s a b j).length := by rw [turns_length]; omega
        rw [List.getD_eq_getElem?_getD, List.getElem?_eq_getElem hl]
        exact turns_full s a b h j _ (List.getElem_mem hl)
    · exact turns_full s a b h j c hc

/-- Byte p behind a row of bytes was laid. -/
theorem turns_get (s : List (List UInt8)) (a : Int) (b : List UInt8) (h : ∀ c ∈ s, c.length = 256) (p : Nat) (hp : p < 256 * s.length) : ∀ j,
    (turns s a b j).flatten.getD p 0 = if a ≤ p ∧ (p : Int) < a + j then b.getD ((p : Int) - a).toNat 0 else s.flatten.getD p 0
  | 0 => by rw [turns, if_neg (by omega)]
  | j + 1 => by
    have ih := turns_get s a b h p hp j
    have hfl : (turns s a b j).flatten.length = 256 * s.length := by rw [flat_length _ (turns_full s a b h j), turns_length]
    rw [turns]
    by_cases hin : 0 ≤ a + (j : Int) ∧ a + (j : Int) < 256 * s.length
    · rw [if_pos hin, flat_turn1 _ _ _ (turns_full s a b h j)]
      by_cases hpe : (a + (j : Int)).toNat = p
      · have e : ((p : Int) - a).toNat = j := by omega
        rw [hpe, if_pos (by omega), e, List.getD_eq_getElem?_getD, List.getElem?_set_self (by omega)]
        rfl
      · rw [List.getD_eq_getElem?_getD, List.getElem?_set_ne hpe, ← List.getD_eq_getElem?_getD, ih]
        by_cases hc : a ≤ p ∧ (p : Int) < a + (j : Int)
        · rw [if_pos hc, if_pos (by omega)]
        · rw [if_neg hc, if_neg (by omega)]
    · rw [if_neg hin, ih]
      by_cases hc : a ≤ p ∧ (p : Int) < a + (j : Int)
      · rw [if_pos hc, if_pos (by omega)]
      · rw [if_neg hc, if_neg (by omega)]

theorem eq_of_getD {l r : List UInt8} (hl : l.length = r.length) (h : ∀ p, p < l.length → l.getD p 0 = r.getD p 0) : l = r := by
  refine List.ext_getElem hl fun p h1 h2 => ?_
  have := h p h1
  rw [List.getD_eq_getElem?_getD, List.getD_eq_getElem?_getD, List.getElem?_eq_getElem h1, List.getElem?_eq_getElem h2] at this
  exact this

/-- Nothing of it lies on the disk. -/
theorem tamper_none (m : Dsk) (h : m.Ok) (a : Int) (b : List UInt8) (hno : 256 * (m.safe.length : Int) ≤ a ∨ a ≤ -(b.length : Int)) : (m.tamper a b).safe.flatten = m.safe.flatten := by
  have hf := flat_length _ (turns_full m.safe a b h.full b.length)
  rw [turns_length] at hf
  refine eq_of_getD (by rw [Dsk.tamper, hf, flat_length _ h.full]) fun p hp => ?_
  rw [Dsk.tamper, hf] at hp
  rw [Dsk.tamper, turns_get _ _ _ h.full p hp, if_neg (by omega)]

theorem getD_take (l : List UInt8) (n p : Nat) (h : p < n) : (l.take n).getD p 0 = l.getD p 0 := by
  rw [List.getD_eq_getElem?_getD, List.getElem?_take, if_pos h, ← List.getD_eq_getElem?_getD]

theorem getD_drop (l : List UInt8) (n p : Nat) : (l.drop n).getD p 0 = l.getD (n + p) 0 := by
  rw [List.getD_eq_getElem?_getD, List.getElem?_drop, ← List.getD_eq_getElem?_getD]

theorem getD_app (l r : List UInt8) (p : Nat) : (l ++ r).getD p 0 = if p < l.length then l.getD p 0 else r.getD (p - l.length) 0 := by
  rw [List.getD_eq_getElem?_getD]
  split
  · rename_i h
    rw [List.getElem?_append_left h, ← List.getD_eq_getElem?_getD]
  · rename_i h
    rw [List.getElem?_append_right (by omega), ← List.getD_eq_getElem?_getD]

/-- What lies on the disk: from o on, of the bytes from k on, n. -/
theorem tamper_some (m : Dsk) (h : m.Ok) (a : Int) (b : List UInt8) (o k n : Nat) (ho : o = a.toNat) (hk : k = (-a).toNat) (hn : n = min (b.length - k) (256 * m.safe.length - o)) (hoN : o ≤ 256 * m.safe.length) (hkb : k ≤ b.length) :
    (m.tamper a b).safe.flatten = m.safe.flatten.take o ++ (b.drop k).take n ++ m.safe.flatten.drop (o + n) := by
  have hf := flat_length _ (turns_full m.safe a b h.full b.length)
  rw [turns_length] at hf
  have hm := flat_length _ h.full
  have l1 : (m.safe.flatten.take o).length = o := by rw [List.length_take, hm]; omega
  have l2 : ((b.drop k).take n).length = n := by rw [List.length_take, List.length_drop]; omega
  refine eq_of_getD ?_ fun p hp => ?_
  · rw [Dsk.tamper, hf, List.length_append, List.length_append, l1, l2, List.length_drop, hm]
    omega
  · rw [Dsk.tamper, hf] at hp
    rw [Dsk.tamper, turns_get _ _ _ h.full p hp, getD_app, List.length_append, l1, l2, getD_app, l1]
    by_cases h1 : p < o
    · rw [if_neg (by omega), if_pos (by omega), if_pos h1, getD_take _ _ _ h1]
    · by_cases h2 : p < o + n
      · rw [if_pos (by omega), if_pos h2, if_neg h1, getD_take _ _ _ (by omega), getD_drop]
        congr 1
        omega
      · rw [if_neg (by omega), if_neg h2, getD_drop]
        congr 1
        omega

theorem cut_full (b : List UInt8) (n : Nat) (h : 256 * n ≤ b.length) : ∀ c ∈ cut256 b n, c.length = 256 := by
  induction n with
  | zero => intro c hc; cases hc
  | succ n ih =>
    intro c hc
    rw [cut256] at hc
    rcases List.mem_append.1 hc with hc | hc
    · exact ih (by omega) c hc
    · simp only [List.mem_singleton] at hc
      rw [hc, List.length_take, List.length_drop]
      omega

theorem cut_flat (b : List UInt8) (n : Nat) : (cut256 b n).flatten = b.take (256 * n) := by
  induction n with
  | zero => simp [cut256]
  | succ n ih =>
    rw [cut256, List.flatten_append, ih, show 256 * (n + 1) = 256 * n + 256 by omega, List.take_add]
    simp

end Go.Proofs.Ytoeighongkchnaa.M
