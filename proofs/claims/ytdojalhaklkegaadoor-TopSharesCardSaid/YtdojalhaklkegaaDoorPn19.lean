/-
  CONTRACT OF orlopref07.fold: a sum of places as a number below 2^256 that is as much by 2^255 - 19. Conditions: at most 63 places, not too great.
  CONTRACTS OF orlopref07.Add AND Sub. Conditions: the numbers are below 2^256; what is taken away is at most 2^255 - 19.
  CONTRACTS OF orlopref07.Mul AND Invert. Conditions: the numbers are below 2^256.
-/
import Derived.Test.YtdojalhaklkegaaDoorPn18
import Derived.Deep.RegionHeld
import Derived.Test.YtdojalhaklkegaaDoorPn10
import Derived.RegionTactic
import Derived.StillTailTactics

namespace Go.Proofs.YtdojalhaklkegaaDoor
open Go.RowKit
set_option linter.unusedVariables false

/-- The ints don't lie in block g. -/
def OffI (v : Value) (l : List Nat) (g : Nat) : Prop := ∀ b o n c, v = .slice (some ⟨b, o, none⟩) n c → 0 < l.length → b ≠ g

theorem IsI.far {w : World} {v : Value} {l : List Nat} {g : Nat} (h : IsI w v l) (ho : OffI v l g) (i : Nat) (u : Value) : IsI (w.setCell ⟨g, i, none⟩ u) v l := by
  obtain ⟨ao, cap, rfl, h1, h2, h3⟩ := h
  refine ⟨ao, cap, rfl, h1, h2, ?_⟩
  rcases h3 with h | ⟨b, o, rfl, h⟩
  · exact .inl h
  · refine .inr ⟨b, o, rfl, fun j hj => ?_⟩
    rw [World.cell?_setCell_far _ _ _ _ (show g ≠ b from fun e => ho b o _ _ rfl (by omega) e.symm)]
    exact h j hj

theorem IsI.shape {w : World} {v : Value} {l : List Nat} (h : IsI w v l) : ∃ ao cap, v = .slice ao l.length cap := by
  obtain ⟨ao, cap, rfl, _⟩ := h
  exact ⟨ao, cap, rfl⟩

theorem IsI.cellAt {w : World} {ao : Option Addr} {n cap : Nat} {l : List Nat} (h : IsI w (.slice ao n cap) l) (i : Nat) (hi : i < l.length) : ∃ b o, ao = some ⟨b, o, none⟩ ∧ w.cell? ⟨b, o + i, none⟩ = some (.int .i64 ((l.getD i 0 : Nat) : Int)) := by
  obtain ⟨ao', cap', e, _, _, h⟩ := h
  injection e with e1
  subst e1
  rcases h with rfl | ⟨b, o, rfl, hc⟩
  · simp at hi
  · exact ⟨b, o, rfl, hc i hi⟩

end Go.Proofs.YtdojalhaklkegaaDoor

namespace Go.Proofs.YtdojalhaklkegaaDoor
open Go.RowKit
set_option linter.unusedVariables false

namespace M

end M

end Go.Proofs.YtdojalhaklkegaaDoor

namespace Go.Proofs.YtdojalhaklkegaaDoor
open Go.RowKit
set_option linter.unusedVariables false

namespace M

theorem gi_set (l : List Nat) (p v : Nat) (hp : p < l.length) : ∀ n, p < n → gi (l.set p v) n + l.getD p 0 * 256 ^ p = gi l n + v * 256 ^ p := by
  intro n
  induction n with
  | zero => intro h; omega
  | succ n ih =>
    intro h
    by_cases e : p = n
    · subst e
      have e1 : gi (l.set p v) p = gi l p := gi_congr _ _ _ fun i hi => by
        simp only [List.getD_eq_getElem?_getD, List.getElem?_set]
        rw [if_neg (by omega)]
      have e2 : (l.set p v).getD p 0 = v := by simp [List.getD_eq_getElem?_getD, hp]
      rw [gi, gi, e1, e2]
      omega
    · have e2 : (l.set p v).getD n 0 = l.getD n 0 := by
        simp only [List.getD_eq_getElem?_getD, List.getElem?_set]
        rw [if_neg e]
      have := ih (by omega)
      rw [gi, gi, e2]
      omega

/-- A product's row on its way: i digits of x done, and of the next one k of y's. -/
structure Mu (x y i k : Nat) (l : List Nat) : Prop where
  len : l.length = 63
  sum : gi l 63 = x % 256 ^ i * y + x / 256 ^ i % 256 * (y % 256 ^ k) * 256 ^ i
  le : ∀ j, l.getD j 0 ≤ 65025 * (i + 1)
  low : ∀ j, k = 0 ∨ i + k ≤ j → l.getD j 0 ≤ 65025 * i

theorem Mu.start (x y : Nat) : Mu x y 0 0 (List.replicate 63 0) := by
  have h : ∀ j, (List.replicate 63 0).getD j 0 = 0 := fun j => by
    rw [List.getD_eq_getElem?_getD, List.getElem?_replicate]
    split <;> rfl
  refine ⟨List.length_replicate, ?_, fun j => by rw [h]; omega, fun j _ => by rw [h]; omega⟩
  rw [show gi (List.replicate 63 0) 63 = 0 by decide +kernel]
  simp [Nat.mod_one]

theorem Mu.step {x y i k : Nat} {l : List Nat} (h : Mu x y i k l) (hi : i < 32) (hk : k < 32) : Mu x y i (k + 1) (l.set (i + k) (l.getD (i + k) 0 + x / 256 ^ i % 256 * (y / 256 ^ k % 256))) := by
  have hX : x / 256 ^ i % 256 ≤ 255 := by have := Nat.mod_lt (x / 256 ^ i) (show 0 < 256 by decide); omega
  have hY : y / 256 ^ k % 256 ≤ 255 := by have := Nat.mod_lt (y / 256 ^ k) (show 0 < 256 by decide); omega
  have hXY : x / 256 ^ i % 256 * (y / 256 ^ k % 256) ≤ 255 * 255 := Nat.mul_le_mul hX hY
  have hlow := h.low (i + k) (.inr (Nat.le_refl _))
  have hg : ∀ j, (l.set (i + k) (l.getD (i + k) 0 + x / 256 ^ i % 256 * (y / 256 ^ k % 256))).getD j 0 = if i + k = j then l.getD (i + k) 0 + x / 256 ^ i % 256 * (y / 256 ^ k % 256) else l.getD j 0 := by
    intro j
    simp only [List.getD_eq_getElem?_getD, List.getElem?_set]
    by_cases e : i + k = j
    · rw [if_pos e, if_pos e, if_pos (by rw [h.len]; omega)]
      rfl
    · rw [if_neg e, if_neg e]
  refine ⟨by rw [List.length_set, h.len], ?_, fun j => ?_, fun j hj => ?_⟩
  · have h1 := gi_set l (i + k) (l.getD (i + k) 0 + x / 256 ^ i % 256 * (y / 256 ^ k % 256)) (by rw [h.len]; omega) 63 (by omega)
    rw [h.sum, Nat.add_mul] at h1
    rw [mod_next y k, Nat.mul_add, Nat.add_mul]
    have e : x / 256 ^ i % 256 * (y / 256 ^ k % 256 * 256 ^ k) * 256 ^ i = x / 256 ^ i % 256 * (y / 256 ^ k % 256) * 256 ^ (i + k) := by
      rw [Nat.pow_add, Nat.mul_comm (256 ^ i), ← Nat.mul_assoc, ← Nat.mul_assoc]
    rw [e]
    omega
  · rw [hg]
    split
    · omega
    · exact h.le j
  · rw [hg, if_neg (by omega)]
    exact h.low j (.inr (by omega))

theorem Mu.next {x y i : Nat} {l : List Nat} (h : Mu x y i 32 l) (hy : y < 256 ^ 32) (hi : i < 32) : Mu x y (i + 1) 0 l := by
  refine ⟨h.len, ?_, fun j => by have := h.le j; omega, fun j _ => h.le j⟩
  rw [h.sum, Nat.mod_eq_of_lt hy, Nat.pow_zero, Nat.mod_one, Nat.mul_zero, Nat.zero_mul, Nat.add_zero, mod_next x i, Nat.add_mul, Nat.mul_right_comm]

theorem Mu.done {x y : Nat} {l : List Nat} (h : Mu x y 32 0 l) (hx : x < 256 ^ 32) : gi l l.length = x * y ∧ FB l := by
  refine ⟨?_, .inl ⟨by rw [h.len]; exact Nat.le_refl _, fun j => ?_⟩⟩
  · rw [h.len, h.sum, Nat.mod_eq_of_lt hx, Nat.pow_zero, Nat.mod_one, Nat.mul_zero, Nat.zero_mul, Nat.add_zero]
  · by_cases hj : j < 63
    · have := h.low j (.inl rfl)
      omega
    · rw [List.getD_eq_getElem?_getD, List.getElem?_eq_none (by rw [h.len]; omega)]
      decide

end M

end Go.Proofs.YtdojalhaklkegaaDoor
