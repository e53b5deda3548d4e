/-
  THE REFERENCE'S DISK IN MEMORY (RefAt): its struct's block, the row of safe blocks, the row of writes that wait; contracts of goes, Arm. Conditions: the disk lies so.
-/
import Derived.Test.YtoeighongkchnaaHeapKit
import Derived.Test.YtoeighongkchnaaDiskMath
namespace Go.Proofs.Ytoeighongkchnaa
open Go.RowKit
set_option linter.unusedVariables false

/-- Writes as cells: a number and a slice each. -/
def chgs : List (Nat × List UInt8) → List Value → List Value
  | c :: r, d :: s => .int .i64 (c.1 : Int) :: d :: chgs r s
  | _, _ => []

theorem chgs_length : ∀ (c : List (Nat × List UInt8)) (d : List Value), d.length = c.length → (chgs c d).length = c.length * 2
  | [], [], _ => rfl
  | c :: r, d :: s, h => by
    have := chgs_length r s (by simpa using h)
    simp only [chgs, List.length_cons, this]
    omega

theorem chgs_append : ∀ (c : List (Nat × List UInt8)) (d : List Value) (x : Nat × List UInt8) (y : Value), d.length = c.length → chgs (c ++ [x]) (d ++ [y]) = chgs c d ++ [.int .i64 (x.1 : Int), y]
  | [], [], _, _, _ => rfl
  | c :: r, d :: s, x, y, h => by
    have := chgs_append r s x y (by simpa using h)
    simp only [chgs, List.cons_append, this]

theorem chgs_get : ∀ (c : List (Nat × List UInt8)) (d : List Value) (j : Nat), d.length = c.length → j < c.length → (chgs c d)[2 * j]? = some (.int .i64 ((c.getD j (0, [])).1 : Int)) ∧ (chgs c d)[2 * j + 1]? = some (d.getD j undef)
  | c :: r, d :: s, 0, h, _ => ⟨rfl, rfl⟩
  | c :: r, d :: s, j + 1, h, hj => by
    have := chgs_get r s j (by simpa using h) (by simpa using hj)
    rw [show 2 * (j + 1) = 2 * j + 1 + 1 by omega, chgs, List.getElem?_cons_succ, List.getElem?_cons_succ, List.getElem?_cons_succ, List.getElem?_cons_succ]
    exact this

/-- The blocks of T but the struct's and the two rows'. -/
def RefS (T : Nat → Prop) (g : Nat) (sv wv : Value) (k : Nat) : Prop := T k ∧ k ≠ g ∧ sv.ownBlock ≠ some k ∧ wv.ownBlock ≠ some k

theorem Chg.one {T : Nat → Prop} {w w' : World} {g : Nat} (h : Chg (fun b => b = g) w w') (hg : T g) : Chg T w w' := h.mono fun k _ e => e ▸ hg

end Go.Proofs.Ytoeighongkchnaa
