/-
  THE FIELD'S LAWS, BY REMAINDERS ALONE: plain mathematics. Conditions: the numbers are below the prime, where it says so.
-/
import Derived.Test.YteombilmndlhjaaFieldF
namespace Go.Proofs.Yteombilmndlhjaa
open Go.RowKit

theorem blk_all {w : World} {g : Nat} {t : TypeId} {bs : List UInt8} (h : Blk w g t (Lib.byteCells bs)) (hn : bs.length = 32) : IsB w (.slice (some ⟨g, 0, none⟩) 32 32) bs := by
  have := blk_at h hn 0 (by decide)
  simpa using this

namespace M

theorem told_none : told ([] : List UInt8) % Q = 0 := by decide +kernel

theorem le_zero32 : le 0 32 = List.replicate 32 (0 : UInt8) := by decide +kernel

/-- What is added again shows what was taken away. -/
theorem sub_unique {x a b : Nat} (hx : x < Q) (hb : b < Q) (h : (x + b) % Q = a % Q) : (a + (Q - b)) % Q = x := by
  have h1 : (a + (Q - b)) % Q = (a % Q + (Q - b)) % Q := by rw [Nat.mod_add_mod]
  rw [h1, ← h, Nat.mod_add_mod, show x + b + (Q - b) = x + Q by omega, Nat.add_mod_right, Nat.mod_eq_of_lt hx]

theorem squares {a b : Nat} (hb : b < Q) : (a * a % Q + (Q - b * b % Q)) % Q = (a + b) % Q * ((a + (Q - b)) % Q) % Q := by
  refine sub_unique (Nat.mod_lt _ Q_pos) (Nat.mod_lt _ Q_pos) ?_
  rw [Nat.mod_mod, ← Nat.mul_mod, ← Nat.add_mod]
  obtain ⟨c, hc⟩ : ∃ c, c = Q - b := ⟨_, rfl⟩
  rw [← hc]
  have hq : Q = b + c := by omega
  have e : (a + b) * (a + c) + b * b = a * a + (a + b) * Q := by
    rw [hq, Nat.add_mul, Nat.mul_add, Nat.mul_add, Nat.mul_add, Nat.add_mul, Nat.add_mul, Nat.mul_comm b a]
    omega
  rw [e, Nat.add_mul_mod_self_right]

theorem thrice (a : Nat) : ((a + a) % Q + a) % Q = a * 3 % Q := by
  rw [Nat.mod_add_mod, show a + a + a = a * 3 by omega]

theorem neg_neg {a : Nat} (ha : a < Q) : (0 + (Q - (0 + (Q - a)) % Q)) % Q = a := by
  refine sub_unique ha (Nat.mod_lt _ Q_pos) ?_
  rw [Nat.add_mod_mod, show a + (0 + (Q - a)) = Q by omega, Nat.mod_self, Nat.zero_mod]

theorem sub_self {a : Nat} (ha : a < Q) : (a + (Q - a)) % Q = 0 := by
  rw [show a + (Q - a) = Q by omega, Nat.mod_self]

theorem add_assocQ (a b c : Nat) : (a + (b + c) % Q) % Q = ((a + b) % Q + c) % Q := by rw [Nat.add_mod_mod, Nat.mod_add_mod, Nat.add_assoc]

theorem mul_assocQ (a b c : Nat) : a * (b * c % Q) % Q = a * b % Q * c % Q := by rw [Nat.mul_mod_mod, Nat.mod_mul_mod, Nat.mul_assoc]

theorem distQ (a b c : Nat) : (a * b % Q + a * c % Q) % Q = a * ((b + c) % Q) % Q := by rw [← Nat.add_mod, Nat.mul_mod_mod, Nat.mul_add]

theorem add_subQ {a b : Nat} (ha : a < Q) (hb : b < Q) : ((a + b) % Q + (Q - b)) % Q = a := sub_unique ha hb (Nat.mod_mod _ _).symm

end M

theorem slice32_at (g o : Nat) (w : World) :
    (Instr.sliceAt 31 (.pointer (some ⟨g, o, none⟩)) none none none).run Try.prog w = .ok (.slice (some ⟨g, o, none⟩) 32 32) w := by
  have hal : Try.prog.arrayLen 31 = 32 := by simp [Program.arrayLen, Try.underlying31]
  have hel : Try.prog.elem 31 = 5 := by simp [Program.elem, Try.underlying31]
  rw [run_sliceAt_array_all w 31 ⟨g, o, none⟩ (by rw [hal, hel]; exact Try.underlying31), hel, Try.sizeOf5]
  simp only [Result.andThen_ok, slicedAt, hal]
  rw [if_neg (by omega), Nat.zero_mul, Addr.add_lit, Nat.add_zero]

theorem blk_part {w : World} {g : Nat} {t : TypeId} {bs : List UInt8} (h : Blk w g t (Lib.byteCells bs)) (o : Nat) (ho : o + 32 ≤ bs.length) : IsB w (.slice (some ⟨g, o, none⟩) 32 32) ((bs.drop o).take 32) := by
  have hl : ((bs.drop o).take 32).length = 32 := by rw [List.length_take, List.length_drop]; omega
  refine ⟨_, 32, by rw [hl], by rw [hl]; exact Nat.le_refl _, by unfold maxLen; omega, .inr ⟨g, o, rfl, fun i hi => ?_⟩⟩
  rw [hl] at hi
  rw [h.cell, byteCells_getElem? _ _ (by omega)]
  simp [List.getD_eq_getElem?_getD, hi]

end Go.Proofs.Yteombilmndlhjaa
