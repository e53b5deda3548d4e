/-
  SLICES OF INTS: the call's own or come in; one or more ints appended; made. Conditions: none.
  PLAIN MATHEMATICS: numbers as rows of digits of base 256, the least first. Nothing of the program. Conditions: as each says.
  PLAIN MATHEMATICS OF orlopref05: numbers as rows of digits of base 256, the least first. Conditions: as each says.
  CONTRACTS OF orlopref05.add, prime AND less: numbers as rows of digits. Conditions: digits below 256; sums of at most 100 digits.
  CONTRACTS OF orlopref05.less AND times: numbers as rows of digits. Conditions: digits below 256; lengths within what the code makes room for.
-/
import Derived.Test.YtdojalhaklkegaaDoorShaMem
import Derived.Deep.RegionLaw
import Derived.Test.YtdojalhaklkegaaDoorPtN
import Derived.Test.YtdojalhaklkegaaDoorPolyB
import Derived.Lib.Hide

namespace Go.Proofs.YtdojalhaklkegaaDoor
open Go.RowKit
set_option linter.unusedVariables false

/-- An int as a cell. -/
def ci (x : Nat) : Value := .int .i64 (x : Int)

def ic (l : List Nat) : List Value := l.map ci

theorem ic_length (l : List Nat) : (ic l).length = l.length := by simp [ic]

theorem ic_append (a b : List Nat) : ic (a ++ b) = ic a ++ ic b := by simp [ic]

theorem ic_get (l : List Nat) (i : Nat) (h : i < l.length) : (ic l)[i]? = some (.int .i64 ((l.getD i 0 : Nat) : Int)) := by
  simp [ic, ci, h]

theorem ic_set (s : List Nat) (i : Nat) (x : Nat) : (ic s).set i (ci x) = ic (s.set i x) := by
  rw [ic, ic, List.map_set]

theorem ic_oneCell (l : List Nat) : ∀ u ∈ ic l, u.oneCell' = true := by
  intro u hu
  obtain ⟨_, _, rfl⟩ := List.mem_map.1 hu
  rfl

theorem ic_zero (n : Nat) : List.replicate n (Value.int .i64 0) = ic (List.replicate n 0) := by simp [ic, ci]

/-- The value is a slice of the words ws. -/
def IsI (w : World) (v : Value) (ws : List Nat) : Prop :=
  ∃ ao cap, v = .slice ao ws.length cap ∧ ws.length ≤ cap ∧ cap ≤ maxLen ∧ (ws = [] ∨ ∃ b off, ao = some ⟨b, off, none⟩ ∧ ∀ i, i < ws.length → w.cell? ⟨b, off + i, none⟩ = some (.int .i64 ((ws.getD i 0 : Nat) : Int)))

/-- The value is a slice of the words ws, a row of the call's own. -/
def OwnI (w : World) (B : Nat) (v : Value) (ws : List Nat) : Prop := w.ownsRow B 3 1 v ws.length (ic ws)

/-- The call hands back the words ws in memory of its own; what was there stands. -/
def MakesI (w : World) (ws : List Nat) (e : Ending) (w' : World) : Prop := ∃ r, e = .returned r ∧ OwnI w' w.heap.size r ws ∧ Below w.heap.size w w'

theorem OwnI.isI {w : World} {B : Nat} {v : Value} {ws : List Nat} (h : OwnI w B v ws) : IsI w v ws := by
  rcases h.2 with ⟨rfl, hn⟩ | ⟨g, cap, cur, rfl, hb, hg, hn, hm, hs, ht⟩
  · have : ws = [] := List.eq_nil_of_length_eq_zero hn
    subst this
    exact ⟨none, 0, rfl, Nat.le_refl _, Nat.zero_le _, .inl rfl⟩
  · refine ⟨_, cap, rfl, hn, hm, .inr ⟨g, 0, rfl, fun i hi => ?_⟩⟩
    have h' : w.ownsRow B 3 1 (.slice (some ⟨g, 0, none⟩) ws.length cap) ws.length (ic ws) := ⟨h.1, .inr ⟨g, cap, cur, rfl, hb, hg, hn, hm, hs, ht⟩⟩
    rw [Nat.zero_add, h'.cellAt i (by omega)]
    exact ic_get ws i hi

theorem OwnI.below {w w' : World} {B : Nat} {v : Value} {ws : List Nat} (h : OwnI w B v ws) (k : Below w.heap.size w w') : OwnI w' B v ws := by
  refine ⟨h.1, ?_⟩
  rcases h.2 with hn | ⟨g, cap, cur, rfl, hb, hg, rest⟩
  · exact .inl hn
  · refine .inr ⟨g, cap, cur, rfl, hb, ?_, rest⟩
    rw [k.block g (Array.getElem?_eq_some_iff.1 hg).1]
    exact hg

theorem OwnI.mono {w : World} {B B' : Nat} {v : Value} {ws : List Nat} (h : OwnI w B v ws) (hb : B' ≤ B) : OwnI w B' v ws := by
  refine ⟨h.1, ?_⟩
  rcases h.2 with hn | ⟨g, cap, cur, rfl, hg, rest⟩
  · exact .inl hn
  · exact .inr ⟨g, cap, cur, rfl, Nat.le_trans hb hg, rest⟩

theorem IsI.below {w w' : World} {v : Value} {ws : List Nat} (h : IsI w v ws) (k : Below w.heap.size w w') : IsI w' v ws := by
  obtain ⟨ao, cap, rfl, h1, h2, h3⟩ := h
  refine ⟨ao, cap, rfl, h1, h2, ?_⟩
  rcases h3 with h | ⟨b, off, rfl, h⟩
  · exact .inl h
  · refine .inr ⟨b, off, rfl, fun i hi => ?_⟩
    have hc := h i hi
    rw [k.cell (by exact World.block_lt_of_cell? w _ hc)]
    exact hc

/-- A slice of at least one word: where it lies. -/
theorem IsI.at_ {w : World} {v : Value} {ws : List Nat} (h : IsI w v ws) (hne : 0 < ws.length) :
    ∃ b off cap, v = .slice (some ⟨b, off, none⟩) ws.length cap ∧ ∀ i, i < ws.length → w.cell? ⟨b, off + i, none⟩ = some (.int .i64 ((ws.getD i 0 : Nat) : Int)) := by
  obtain ⟨ao, cap, rfl, h1, h2, h3⟩ := h
  rcases h3 with h | ⟨b, off, rfl, h⟩
  · subst h; simp at hne
  · exact ⟨b, off, cap, rfl, h⟩

theorem ownI_nil (w : World) (B : Nat) : OwnI w B (.slice none 0 0) [] := World.ownsRow_nil _ _ _ _

theorem ownI_lit (w : World) (B : Nat) (cs : Array Value) (ws : List Nat) (hB : B ≤ w.heap.size) (e : cs.toList = ic ws) (hm : ws.length ≤ maxLen) :
    OwnI (w.alloc (.cells cs 3)) B (.slice (some ⟨w.heap.size, 0, none⟩) ws.length ws.length) ws := by
  have hsz : cs.size = ws.length := by rw [← Array.length_toList, e, ic_length]
  refine ⟨by rw [ic_length, Nat.mul_one], .inr ⟨w.heap.size, ws.length, cs, rfl, hB, heap_alloc_new w _, Nat.le_refl _, hm, by rw [hsz, Nat.mul_one], ?_⟩⟩
  rw [e, List.take_of_length_le (by rw [ic_length, Nat.mul_one]; exact Nat.le_refl _)]

theorem Tryd.info47 : (Tryd.prog.info? 3).map (fun i => (i.zero, i.size, i.bytes)) = some (some (.int .i64 0), 1, 8) := by kernel_rfl

end Go.Proofs.YtdojalhaklkegaaDoor

namespace Go.Proofs.YtdojalhaklkegaaDoor.M

/-- The number of the first k digits. -/
def gi (l : List Nat) : Nat → Nat
  | 0 => 0
  | k + 1 => gi l k + l.getD k 0 * 256 ^ k

/-- The first n digits of a number. -/
def dg (v : Nat) : Nat → List Nat
  | 0 => []
  | n + 1 => dg v n ++ [v / 256 ^ n % 256]

/-- All are digits. -/
def Dig (l : List Nat) : Prop := ∀ i, l.getD i 0 < 256

theorem dg_length (v n : Nat) : (dg v n).length = n := by
  induction n with
  | zero => rfl
  | succ n ih => simp [dg, ih]

theorem dg_get (v n k : Nat) (h : k < n) : (dg v n).getD k 0 = v / 256 ^ k % 256 := by
  induction n with
  | zero => omega
  | succ n ih =>
    by_cases hk : k < n
    · have := ih hk
      simp only [dg, List.getD_eq_getElem?_getD] at this ⊢
      rw [List.getElem?_append_left (by rw [dg_length]; exact hk)]
      exact this
    · have : k = n := by omega
      subst this
      simp [dg, List.getD_eq_getElem?_getD, dg_length]

theorem dg_past (v n k : Nat) (h : n ≤ k) : (dg v n).getD k 0 = 0 := by
  simp [List.getD_eq_getElem?_getD, List.getElem?_eq_none (show (dg v n).length ≤ k by rw [dg_length]; exact h)]

theorem dg_dig (v n : Nat) : Dig (dg v n) := by
  intro i
  by_cases h : i < n
  · rw [dg_get v n i h]; omega
  · rw [dg_past v n i (by omega)]; omega

/-- Two rows of one length, digit by digit. -/
theorem ext_getDN (a b : List Nat) (hl : a.length = b.length) (h : ∀ i, i < a.length → a.getD i 0 = b.getD i 0) : a = b := by
  apply List.ext_getElem hl
  intro i h1 h2
  have := h i h1
  simpa [h1, h2] using this

theorem dg_mod (v k : Nat) : ∀ n, n ≤ k → dg (v % 256 ^ k) n = dg v n := by
  intro n
  induction n with
  | zero => intro _; rfl
  | succ n ih =>
    intro h
    rw [dg, dg, ih (by omega)]
    have hp : 256 ^ k = 256 ^ n * 256 * 256 ^ (k - 1 - n) := by
      rw [← Nat.pow_succ, ← Nat.pow_add]
      congr 1
      omega
    have q : v % 256 ^ k / 256 ^ n % 256 = v / 256 ^ n % 256 := by
      rw [hp, Nat.mul_assoc, Nat.mod_mul_right_div_self, Nat.mod_mul_right_mod]
    rw [q]

theorem dg_congr (v w n : Nat) (h : v % 256 ^ n = w % 256 ^ n) : dg v n = dg w n := by
  rw [← dg_mod v n n (Nat.le_refl _), h, dg_mod w n n (Nat.le_refl _)]

theorem dg_add (v y n : Nat) : dg (v + y * 256 ^ n) n = dg v n := dg_congr _ _ _ (by rw [Nat.add_mul_mod_self_right])

theorem dg_take (v n k : Nat) (h : k ≤ n) : (dg v n).take k = dg v k := by
  apply ext_getDN
  · rw [List.length_take, dg_length, dg_length]; omega
  · intro i hi
    rw [List.length_take, dg_length] at hi
    rw [dg_get v k i (by omega), ← dg_get v n i (by omega)]
    simp [List.getD_eq_getElem?_getD, show i < k by omega]

theorem gi_dg (v n : Nat) : ∀ k, k ≤ n → gi (dg v n) k = v % 256 ^ k := by
  intro k
  induction k with
  | zero => intro _; simp [gi, Nat.mod_one]
  | succ k ih =>
    intro h
    rw [gi, ih (by omega), dg_get v n k (by omega), Nat.mod_pow_succ, Nat.mul_comm (256 ^ k)]

theorem gi_past (l : List Nat) (k : Nat) (h : l.length ≤ k) : ∀ j, gi l (k + j) = gi l k := by
  intro j
  induction j with
  | zero => rfl
  | succ j ih =>
    rw [← Nat.add_assoc, gi, ih]
    simp [List.getD_eq_getElem?_getD, List.getElem?_eq_none (show l.length ≤ k + j by omega)]

theorem gi_all (l : List Nat) (k : Nat) (h : l.length ≤ k) : gi l k = gi l l.length := by
  have := gi_past l l.length (Nat.le_refl _) (k - l.length)
  rwa [show l.length + (k - l.length) = k by omega] at this

theorem gi_dg_all (v n k : Nat) (h : n ≤ k) : gi (dg v n) k = v % 256 ^ n := by
  rw [gi_all _ _ (by rw [dg_length]; exact h), dg_length, gi_dg v n n (Nat.le_refl _)]

theorem gi_lt (l : List Nat) (h : Dig l) (k : Nat) : gi l k < 256 ^ k := by
  induction k with
  | zero => simp [gi]
  | succ k ih =>
    have h1 := h k
    have h2 : l.getD k 0 * 256 ^ k ≤ 255 * 256 ^ k := Nat.mul_le_mul_right _ (by omega)
    simp only [gi, Nat.pow_succ]
    omega

/-- One digit more of a sum, and what is carried. -/
theorem add_step (X y k : Nat) : dg (X + y * 256 ^ k) (k + 1) = dg X k ++ [(X / 256 ^ k + y) % 256] ∧ (X + y * 256 ^ k) / 256 ^ (k + 1) = (X / 256 ^ k + y) / 256 := by
  have e : (X + y * 256 ^ k) / 256 ^ k = X / 256 ^ k + y := Nat.add_mul_div_right _ _ (pow_pos k)
  refine ⟨by rw [dg, dg_add, e], ?_⟩
  rw [Nat.pow_succ, ← Nat.div_div_eq_div_mul, e]

theorem carry_le (X k c : Nat) (h : X < c * 256 ^ k) : X / 256 ^ k < c := Nat.div_lt_of_lt_mul (by rw [Nat.mul_comm]; exact h)

end Go.Proofs.YtdojalhaklkegaaDoor.M

set_option maxRecDepth 100000
namespace Go.Proofs.YtdojalhaklkegaaDoor.M

/-- The rows of a product, on their way: X0 is what lay there, ai the digit, i its place, k digits of b done. -/
def tY (X0 ai : Nat) (b : List Nat) (i k : Nat) : Nat := X0 % 256 ^ (i + k) + ai * gi b k * 256 ^ i
def tR (X0 ai : Nat) (b : List Nat) (i k : Nat) : List Nat := dg (tY X0 ai b i k) (i + k) ++ (dg X0 36).drop (i + k)
def tC (X0 ai : Nat) (b : List Nat) (i k : Nat) : Nat := tY X0 ai b i k / 256 ^ (i + k)

theorem tR_length (X0 ai : Nat) (b : List Nat) (i k : Nat) (h : i + k ≤ 36) : (tR X0 ai b i k).length = 36 := by
  rw [tR, List.length_append, dg_length, List.length_drop, dg_length]; omega

theorem tR_get (X0 ai : Nat) (b : List Nat) (i k : Nat) (h : i + k < 36) : (tR X0 ai b i k).getD (i + k) 0 = X0 / 256 ^ (i + k) % 256 := by
  rw [← dg_get X0 36 (i + k) h, tR, List.getD_eq_getElem?_getD, List.getElem?_append_right (by rw [dg_length]; omega), dg_length, Nat.sub_self, List.getElem?_drop, Nat.add_zero, List.getD_eq_getElem?_getD]

theorem tY_step (X0 ai : Nat) (b : List Nat) (i k : Nat) : tY X0 ai b i (k + 1) = tY X0 ai b i k + (X0 / 256 ^ (i + k) % 256 + ai * b.getD k 0) * 256 ^ (i + k) := by
  have e1 : X0 % 256 ^ (i + (k + 1)) = X0 % 256 ^ (i + k) + 256 ^ (i + k) * (X0 / 256 ^ (i + k) % 256) := by
    rw [← Nat.add_assoc, Nat.mod_pow_succ]
  have e2 : ai * (b.getD k 0 * 256 ^ k) * 256 ^ i = ai * b.getD k 0 * 256 ^ (i + k) := by
    rw [Nat.pow_add, Nat.mul_comm (256 ^ i), ← Nat.mul_assoc, ← Nat.mul_assoc]
  rw [tY, tY, e1, gi, Nat.mul_add, Nat.add_mul, e2, Nat.add_mul, Nat.mul_comm (256 ^ (i + k))]
  omega

theorem t_step (X0 ai : Nat) (b : List Nat) (i k : Nat) (h : i + k < 36) :
    (tR X0 ai b i k).set (i + k) ((X0 / 256 ^ (i + k) % 256 + tC X0 ai b i k + ai * b.getD k 0) % 256) = tR X0 ai b i (k + 1) ∧ tC X0 ai b i (k + 1) = (X0 / 256 ^ (i + k) % 256 + tC X0 ai b i k + ai * b.getD k 0) / 256 := by
  obtain ⟨h1, h2⟩ := add_step (tY X0 ai b i k) (X0 / 256 ^ (i + k) % 256 + ai * b.getD k 0) (i + k)
  have e : X0 / 256 ^ (i + k) % 256 + tC X0 ai b i k + ai * b.getD k 0 = tY X0 ai b i k / 256 ^ (i + k) + (X0 / 256 ^ (i + k) % 256 + ai * b.getD k 0) := by rw [tC]; omega
  refine ⟨?_, by rw [tC, tY_step, ← Nat.add_assoc i k 1, h2, e]⟩
  have hl : (dg (tY X0 ai b i k) (i + k)).length = i + k := dg_length _ _
  rw [tR, tR, tY_step, ← Nat.add_assoc i k 1, h1, e, List.set_append_right _ _ (by omega), hl, Nat.sub_self, List.append_assoc, List.drop_eq_getElem_cons (by rw [dg_length]; exact h), List.set_cons_zero, List.singleton_append]

theorem t_start (X0 ai : Nat) (b : List Nat) (i : Nat) (h : i ≤ 36) : tR X0 ai b i 0 = dg X0 36 ∧ tC X0 ai b i 0 = 0 := by
  have e : tY X0 ai b i 0 = X0 % 256 ^ i := by simp [tY, gi]
  refine ⟨?_, by rw [tC, e, Nat.add_zero, Nat.div_eq_of_lt (Nat.mod_lt _ (pow_pos i))]⟩
  rw [tR, e, Nat.add_zero, dg_mod X0 i i (Nat.le_refl _), ← dg_take X0 36 i h, List.take_append_drop]

theorem t_end (X0 ai : Nat) (b : List Nat) (i k : Nat) (hX : X0 < 256 ^ (i + b.length)) (hk : b.length ≤ k) (h : i + k ≤ 36) (hc : tC X0 ai b i k = 0) : tR X0 ai b i k = dg (X0 + ai * gi b b.length * 256 ^ i) 36 := by
  have hp : 256 ^ (i + b.length) ≤ 256 ^ (i + k) := Nat.pow_le_pow_right (by omega) (by omega)
  have e : tY X0 ai b i k = X0 + ai * gi b b.length * 256 ^ i := by rw [tY, Nat.mod_eq_of_lt (by omega), gi_all b k hk]
  have hY : tY X0 ai b i k < 256 ^ (i + k) := by
    rcases Nat.div_eq_zero_iff.1 hc with h | h
    · have := pow_pos (i + k); omega
    · exact h
  rw [← e]
  apply ext_getDN
  · rw [tR_length _ _ _ _ _ h, dg_length]
  · intro j hj
    rw [tR_length _ _ _ _ _ h] at hj
    by_cases hj2 : j < i + k
    · rw [tR, List.getD_eq_getElem?_getD, List.getElem?_append_left (by rw [dg_length]; exact hj2), ← List.getD_eq_getElem?_getD, dg_get _ _ _ hj2, dg_get _ _ _ hj]
    · have hpj : 256 ^ (i + k) ≤ 256 ^ j := Nat.pow_le_pow_right (by omega) (by omega)
      rw [tR, List.getD_eq_getElem?_getD, List.getElem?_append_right (by rw [dg_length]; omega), dg_length, List.getElem?_drop, show i + k + (j - (i + k)) = j by omega, ← List.getD_eq_getElem?_getD, dg_get _ _ _ hj, dg_get _ _ _ hj, Nat.div_eq_of_lt (by omega), Nat.div_eq_of_lt (by omega)]

theorem t_last (X0 ai : Nat) (b : List Nat) (i : Nat) (hX : X0 < 256 ^ (i + b.length)) (ha : ai < 256) (hb : Dig b) : tC X0 ai b i (b.length + 1) = 0 := by
  rw [tC]
  apply Nat.div_eq_of_lt
  have h1 := gi_lt b hb b.length
  have h2 : ai * gi b (b.length + 1) * 256 ^ i ≤ 255 * 256 ^ (i + b.length) := by
    rw [gi_all b (b.length + 1) (by omega), Nat.mul_assoc, Nat.pow_add, Nat.mul_comm (256 ^ i)]
    exact Nat.mul_le_mul (by omega) (Nat.mul_le_mul_right _ (by omega))
  have h3 := Nat.mod_le X0 (256 ^ (i + b.length) * 256)
  rw [tY, ← Nat.add_assoc, Nat.pow_succ]
  omega

theorem tC_lt (X0 ai : Nat) (b : List Nat) (i k : Nat) (ha : ai < 256) (hb : Dig b) : tC X0 ai b i k < 256 := by
  apply carry_le
  have h1 := gi_lt b hb k
  have h2 : ai * gi b k * 256 ^ i ≤ 255 * 256 ^ (i + k) := by
    rw [Nat.mul_assoc, Nat.pow_add, Nat.mul_comm (256 ^ i)]
    exact Nat.mul_le_mul (by omega) (Nat.mul_le_mul_right _ (by omega))
  have h3 := Nat.mod_lt X0 (pow_pos (i + k))
  rw [tY]
  omega

/-- One limb more of the left factor. -/
theorem gi_times (a b : List Nat) (i : Nat) : gi a (i + 1) * gi b b.length = gi a i * gi b b.length + a.getD i 0 * gi b b.length * 256 ^ i := by
  rw [gi, Nat.add_mul, Nat.mul_right_comm]

theorem gi_times_lt (a b : List Nat) (ha : Dig a) (hb : Dig b) (i : Nat) : gi a i * gi b b.length < 256 ^ (i + b.length) := by
  rw [Nat.pow_add]
  have h1 := gi_lt a ha i
  have h2 := gi_lt b hb b.length
  have h3 : gi a i * gi b b.length ≤ gi a i * 256 ^ b.length := Nat.mul_le_mul_left _ (by omega)
  exact Nat.lt_of_le_of_lt h3 ((Nat.mul_lt_mul_right (pow_pos _)).2 h1)

theorem two130 : (2 : Nat) ^ 130 = 256 ^ 16 * 4 := by decide

/-- What lies above 130 bits, digit by digit. -/
theorem high_get (A i : Nat) : A / 256 ^ (16 + i) % 256 / 4 + A / 256 ^ (17 + i) % 256 % 4 * 64 = A / 2 ^ 130 / 256 ^ i % 256 := by
  have e1 : A / 2 ^ 130 / 256 ^ i = A / 256 ^ (16 + i) / 4 := by
    rw [Nat.div_div_eq_div_mul, Nat.div_div_eq_div_mul, two130, Nat.pow_add, Nat.mul_right_comm]
  have e2 : A / 256 ^ (17 + i) = A / 256 ^ (16 + i) / 256 := by
    rw [Nat.div_div_eq_div_mul, ← Nat.pow_succ, show 17 + i = 16 + i + 1 by omega]
  rw [e1, e2]
  generalize A / 256 ^ (16 + i) = N
  omega

theorem low_row (A : Nat) : (dg A 36).take 16 ++ [A / 256 ^ 16 % 256 % 4] = dg (A % 2 ^ 130) 17 := by
  rw [dg_take A 36 16 (by omega)]
  show _ = dg (A % 2 ^ 130) 16 ++ [A % 2 ^ 130 / 256 ^ 16 % 256]
  have e1 : dg (A % 2 ^ 130) 16 = dg A 16 := dg_congr _ _ _ (by rw [two130, Nat.mod_mul_right_mod])
  have e2 : A % 2 ^ 130 / 256 ^ 16 % 256 = A / 256 ^ 16 % 256 % 4 := by
    rw [two130, Nat.mod_mul_right_div_self]
    omega
  rw [e1, e2]

/-- One round of rest. -/
def rd (A : Nat) : Nat := A % 2 ^ 130 + 5 * (A / 2 ^ 130)

theorem rd_mod (A : Nat) : rd A % P = A % P := by
  have e : A = rd A + A / 2 ^ 130 * P := by
    have := Nat.div_add_mod A (2 ^ 130)
    rw [rd, P]
    generalize hq : A / 2 ^ 130 = q at *
    generalize A % 2 ^ 130 = r at *
    omega
  conv => rhs; rw [e]
  rw [Nat.add_mul_mod_self_right]

theorem rd_lt (A c : Nat) (h : A < 2 ^ 130 * c) : rd A < 2 ^ 130 + 5 * c := by
  have h1 := Nat.div_lt_of_lt_mul h
  have h2 := Nat.mod_lt A (show 0 < 2 ^ 130 by decide)
  rw [rd]
  omega

end Go.Proofs.YtdojalhaklkegaaDoor.M

namespace Go.Proofs.YtdojalhaklkegaaDoor
open Go.RowKit
set_option linter.unusedVariables false

/-- The cells of a row that is filled from its head on. -/
def fillC (l : List Nat) (m : Nat) : List Value := ic l ++ List.replicate m (.int .i64 0)

theorem fillC_length (l : List Nat) (m : Nat) : (fillC l m).length = l.length + m := by simp [fillC, ic_length]

theorem IsI.cell {w w' : World} {v : Value} {l : List Nat} (h : IsI w v l) (k : Below w.heap.size w w') (i : Nat) (hi : i < l.length) : ∃ b o cap, v = .slice (some ⟨b, o, none⟩) l.length cap ∧ w'.cell? ⟨b, o + i, none⟩ = some (.int .i64 ((l.getD i 0 : Nat) : Int)) := by
  obtain ⟨b, o, cap, rfl, hc⟩ := h.at_ (by omega)
  have hx := hc i hi
  exact ⟨b, o, cap, rfl, by rw [k.cell (by exact World.block_lt_of_cell? w _ hx), hx]⟩

theorem getD_none (l : List Nat) (i : Nat) (h : ¬ i < l.length) : l.getD i 0 = 0 := by
  simp [List.getD_eq_getElem?_getD, List.getElem?_eq_none (show l.length ≤ i by omega)]

end Go.Proofs.YtdojalhaklkegaaDoor

namespace Go.Proofs.YtdojalhaklkegaaDoor
open Go.RowKit
set_option linter.unusedVariables false

namespace M

theorem less_step (A B j : Nat) (h : A / 256 ^ (j + 1) = B / 256 ^ (j + 1)) : (A / 256 ^ j % 256 = B / 256 ^ j % 256 → A / 256 ^ j = B / 256 ^ j) ∧ (A / 256 ^ j % 256 ≠ B / 256 ^ j % 256 → (A < B ↔ A / 256 ^ j % 256 < B / 256 ^ j % 256)) := by
  rw [Nat.pow_succ, ← Nat.div_div_eq_div_mul, ← Nat.div_div_eq_div_mul] at h
  refine ⟨fun e => by omega, fun e => ⟨fun hl => ?_, fun hl => ?_⟩⟩
  · have := Nat.div_le_div_right (c := 256 ^ j) (Nat.le_of_lt hl)
    omega
  · have h2 : A / 256 ^ j < B / 256 ^ j := by omega
    rcases Nat.lt_or_ge A B with h3 | h3
    · exact h3
    · have := Nat.div_le_div_right (c := 256 ^ j) h3
      omega

end M

theorem ret_b {a b : Bool} (h : a = b) : Ending.returned (.bool a) = .returned (.bool b) := by rw [h]

end Go.Proofs.YtdojalhaklkegaaDoor
