/-
  BASE64 IN PLAIN MATHEMATICS, ON: groups of three as one number; reading on over whatever letters; what is left of a text without the signs that fill up. Conditions: none.
-/
import Derived.Test.YtmheaefpbebgfaaDoorB64Math
namespace Go.Proofs.YtmheaefpbebgfaaDoor
set_option linter.unusedVariables false
set_option maxRecDepth 100000

namespace M

/-- How a group of n bytes, as a number of 24 bits, is written. -/
def four (g n : Nat) : List UInt8 := [let64 (g / 262144 % 64), let64 (g / 4096 % 64), if n = 1 then 61 else let64 (g / 64 % 64), if n = 1 ∨ n = 2 then 61 else let64 (g % 64)]

theorem four_len (g n : Nat) : (four g n).length = 4 := rfl

/-- Group c of bytes, how many bytes it has, how it is written. -/
def grp (b : List UInt8) (c : Nat) : Nat := gb (b.drop (3 * c)) 4 / 256
def gn (b : List UInt8) (c : Nat) : Nat := min (b.length - 3 * c) 3
def fo (b : List UInt8) (c : Nat) : List UInt8 := four (grp b c) (gn b c)
def fours (b : List UInt8) (pre : List Nat) : List UInt8 := pre.flatMap (fo b)

theorem fours_snoc (b : List UInt8) (pre : List Nat) (x : Nat) : fours b (pre ++ [x]) = fours b pre ++ fo b x := by
  rw [fours, fours, List.flatMap_append]
  simp

theorem fours_len (b : List UInt8) : ∀ pre : List Nat, (fours b pre).length = 4 * pre.length
  | [] => rfl
  | x :: r => by
    have h := fours_len b r
    rw [fours] at h
    rw [fours, List.flatMap_cons, List.length_append, h, fo, four_len, List.length_cons]
    omega

theorem grp_lt (b : List UInt8) (c : Nat) : grp b c < 16777216 := by
  have h := gb_lt (b.drop (3 * c)) 4
  rw [grp]
  omega

theorem enc_three : ∀ d : List UInt8, d ≠ [] → enc64 (d.take 3) = four (gb d 4 / 256) (min d.length 3)
  | [], h => absurd rfl h
  | [a], _ => by
    have ha := a.toNat_lt
    have e : gb [a] 4 / 256 = a.toNat * 65536 := by simp [gb]; omega
    have e1 : a.toNat * 65536 / 262144 % 64 = a.toNat / 4 := by omega
    have e2 : a.toNat * 65536 / 4096 % 64 = a.toNat % 4 * 16 := by omega
    rw [e]
    show [_, _, _, _] = [_, _, _, _]
    rw [e1, e2]
    rfl
  | [a, b], _ => by
    have ha := a.toNat_lt
    have hb := b.toNat_lt
    have e : gb [a, b] 4 / 256 = a.toNat * 65536 + b.toNat * 256 := by simp [gb]; omega
    have e1 : (a.toNat * 65536 + b.toNat * 256) / 262144 % 64 = a.toNat / 4 := by omega
    have e2 : (a.toNat * 65536 + b.toNat * 256) / 4096 % 64 = a.toNat % 4 * 16 + b.toNat / 16 := by omega
    have e3 : (a.toNat * 65536 + b.toNat * 256) / 64 % 64 = b.toNat % 16 * 4 := by omega
    rw [e]
    show [_, _, _, _] = [_, _, _, _]
    rw [e1, e2, e3]
    rfl
  | a :: b :: c :: r, _ => by
    have ha := a.toNat_lt
    have hb := b.toNat_lt
    have hc := c.toNat_lt
    have e : gb (a :: b :: c :: r) 4 / 256 = a.toNat * 65536 + b.toNat * 256 + c.toNat := by
      have h := ((a :: b :: c :: r).getD 3 0).toNat_lt
      simp only [gb, List.getD_cons_zero, List.getD_cons_succ] at h ⊢
      omega
    have e1 : (a.toNat * 65536 + b.toNat * 256 + c.toNat) / 262144 % 64 = a.toNat / 4 := by omega
    have e2 : (a.toNat * 65536 + b.toNat * 256 + c.toNat) / 4096 % 64 = a.toNat % 4 * 16 + b.toNat / 16 := by omega
    have e3 : (a.toNat * 65536 + b.toNat * 256 + c.toNat) / 64 % 64 = b.toNat % 16 * 4 + c.toNat / 64 := by omega
    have e4 : (a.toNat * 65536 + b.toNat * 256 + c.toNat) % 64 = c.toNat % 64 := by omega
    have en : min (a :: b :: c :: r).length 3 = 3 := by simp
    rw [e, en, four, e1, e2, e3, e4, if_neg (by decide), if_neg (by decide)]
    rfl

theorem fours_take (b : List UInt8) : ∀ k, k ≤ (b.length + 2) / 3 → fours b (List.range k) = enc64 (b.take (3 * k))
  | 0, _ => by simp [fours, enc64]
  | k + 1, h => by
    have hl : 3 * k < b.length := by omega
    have hd : b.drop (3 * k) ≠ [] := by
      intro e
      have := congrArg List.length e
      rw [List.length_drop, List.length_nil] at this
      omega
    have e : b.take (3 * (k + 1)) = b.take (3 * k) ++ (b.drop (3 * k)).take 3 := by
      rw [show 3 * (k + 1) = 3 * k + 3 by omega, List.take_add]
    rw [List.range_succ, fours_snoc, fours_take b k (by omega), e, enc64_append _ _ (by rw [List.length_take]; omega), enc_three _ hd, fo, grp, gn, List.length_drop]

theorem fours_all (b : List UInt8) : fours b (List.range ((b.length + 2) / 3)) = enc64 b := by
  rw [fours_take b _ (Nat.le_refl _), List.take_of_length_le (by omega)]

/-- Reading on: what is no letter counts as the first one. -/
def valT (c : UInt8) : Nat := (val64 c).getD 0
def rdN (s : Rd) (x : Nat) : Rd := if 8 ≤ s.k + 6 then ⟨(s.v * 64 + x) % 2 ^ (s.k + 6 - 8), s.k + 6 - 8, s.o ++ [UInt8.ofNat ((s.v * 64 + x) / 2 ^ (s.k + 6 - 8))]⟩ else ⟨s.v * 64 + x, s.k + 6, s.o⟩
def rdT (s : Rd) (c : UInt8) : Rd := rdN s (valT c)
def rdAll (l : List UInt8) : Rd := l.foldl rdT ⟨0, 0, []⟩

theorem rdAll_snoc (l : List UInt8) (c : UInt8) : rdAll (l ++ [c]) = rdN (rdAll l) (valT c) := by
  rw [rdAll, List.foldl_append]
  rfl

theorem valT_lt (c : UInt8) : valT c < 64 := by
  rw [valT]
  cases h : val64 c with
  | none => simp
  | some k => exact (val_some h).1

/-- Of what was read, the bits that wait are few. -/
def RdOk (s : Rd) (n : Nat) : Prop := s.v < 2 ^ s.k ∧ s.k < 8 ∧ s.k % 2 = 0 ∧ s.o.length * 8 + s.k = 6 * n

theorem rdN_ok {s : Rd} {n x : Nat} (h : RdOk s n) (hx : x < 64) : RdOk (rdN s x) (n + 1) := by
  obtain ⟨h1, h2, h3, h4⟩ := h
  rw [rdN]
  split
  · rename_i h8
    refine ⟨Nat.mod_lt _ (Nat.pow_pos (by decide)), ?_, ?_, ?_⟩
    · show s.k + 6 - 8 < 8
      omega
    · show (s.k + 6 - 8) % 2 = 0
      omega
    · show (s.o ++ [_]).length * 8 + (s.k + 6 - 8) = _
      rw [List.length_append, List.length_singleton]
      omega
  · rename_i h8
    have hk : s.k = 0 := by omega
    refine ⟨?_, ?_, ?_, ?_⟩
    · show s.v * 64 + x < 2 ^ (s.k + 6)
      rw [hk] at h1 ⊢
      omega
    · show s.k + 6 < 8
      omega
    · show (s.k + 6) % 2 = 0
      omega
    · show s.o.length * 8 + (s.k + 6) = _
      omega

theorem rdAll_ok (l : List UInt8) : RdOk (rdAll l) l.length := by
  have h : ∀ (r : List UInt8) (s : Rd) (n : Nat), RdOk s n → RdOk (r.foldl rdT s) (n + r.length) := by
    intro r
    induction r with
    | nil => intro s n hs; exact hs
    | cons c r ih =>
      intro s n hs
      rw [List.foldl_cons, List.length_cons, show n + (r.length + 1) = (n + 1) + r.length by omega]
      exact ih _ _ (rdN_ok hs (valT_lt c))
  have := h l ⟨0, 0, []⟩ 0 ⟨by decide, by decide, rfl, rfl⟩
  rw [Nat.zero_add] at this
  exact this

theorem rdL_letters : ∀ (l r : List UInt8) (s : Rd), (∀ c, c ∈ l → c ≠ 61 ∧ val64 c ≠ none) → rdL (l ++ r) s = rdL r (l.foldl rdT s)
  | [], r, s, _ => rfl
  | c :: l, r, s, h => by
    obtain ⟨h1, h2⟩ := h c (by simp)
    have h3 : rdS s c = some (rdT s c) := by
      rw [rdS, rdT, valT]
      cases hv : val64 c with
      | none => exact absurd hv h2
      | some k => rfl
    rw [List.cons_append, rdL, if_neg h1, h3, List.foldl_cons]
    exact rdL_letters l r (rdT s c) fun c hc => h c (by simp [hc])

/-- A text without the signs at its end that fill up. -/
def trim64 (l : List UInt8) : List UInt8 := (l.reverse.dropWhile (· == 61)).reverse

theorem trim_pad (l : List UInt8) : trim64 (l ++ [61]) = trim64 l := by
  rw [trim64, List.reverse_append]
  rfl

theorem trim_end (l : List UInt8) (c : UInt8) (h : c ≠ 61) : trim64 (l ++ [c]) = l ++ [c] := by
  have h2 : (c == 61) = false := by simpa using h
  rw [trim64, List.reverse_append, List.reverse_singleton, List.singleton_append, List.dropWhile_cons, h2]
  simp

theorem trim_pads (l : List UInt8) : ∀ p, trim64 (l ++ List.replicate p 61) = trim64 l
  | 0 => by simp
  | p + 1 => by rw [List.replicate_succ', ← List.append_assoc, trim_pad, trim_pads l p]

theorem rdL_pads (s : Rd) : ∀ p, rdL (List.replicate p 61) s = some s
  | 0 => rfl
  | p + 1 => by rw [List.replicate_succ, rdL, if_pos rfl]

theorem text64_letters (b : List UInt8) (t : Nat) : ∀ c, c ∈ text64 b t → c ≠ 61 ∧ val64 c ≠ none := by
  intro c hc
  rw [text64] at hc
  obtain ⟨q, _, rfl⟩ := List.mem_map.1 hc
  have h := six64_lt b (6 * q) 6
  refine ⟨let64_pad _ h, ?_⟩
  rw [val_let h]
  exact fun e => by cases e

theorem trim_text (b : List UInt8) : ∀ t, trim64 (text64 b t) = text64 b t
  | 0 => rfl
  | t + 1 => by
    rw [text64_next]
    exact trim_end _ _ (let64_pad _ (six64_lt b (6 * t) 6))

/-- What was written is read again. -/
theorem read_enc (b : List UInt8) : (rdAll (trim64 (enc64 b))).o = b := by
  obtain ⟨v, k, h⟩ := rd_enc b []
  rw [← text_enc b] at h ⊢
  rw [trim_pads, trim_text]
  rw [rdL_letters _ _ _ (text64_letters b _), rdL_pads] at h
  injection h with h
  rw [rdAll, h]
  rfl

/-- The code's own reading. -/
theorem dec64_read (s : List UInt8) : dec64 s = if enc64 (rdAll (trim64 s)).o = s then some (rdAll (trim64 s)).o else none := by
  split
  · rename_i h
    exact dec64_some.2 h
  · rename_i h
    cases hd : dec64 s with
    | none => rfl
    | some b =>
      have e := dec64_some.1 hd
      subst e
      rw [read_enc] at h
      exact absurd rfl h

end M

end Go.Proofs.YtmheaefpbebgfaaDoor
