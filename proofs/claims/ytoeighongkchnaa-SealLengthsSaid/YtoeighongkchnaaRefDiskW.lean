/-
  CONTRACTS OF THE REFERENCE'S Write. Conditions: the disk lies so; what is written lies out of it; fewer than a million writes wait.
-/
import Derived.Test.YtoeighongkchnaaRefDisk
import Derived.Test.YtoeighongkchnaaRowsKit
namespace Go.Proofs.Ytoeighongkchnaa
open Go.RowKit
set_option linter.unusedVariables false

theorem M.Ok_push {m : M.Dsk} (h : m.Ok) {i : Nat} {bs : List UInt8} (hi : i < m.safe.length) (hl : bs.length = 256) : ({ m with wait := m.wait ++ [(i, bs)] } : M.Dsk).Ok :=
  ⟨h.few, h.full, fun c hc => by
    rcases List.mem_append.1 hc with hc | hc
    · exact h.wat c hc
    · simp only [List.mem_singleton] at hc
      subst hc
      exact ⟨hi, hl⟩⟩

/-- Blocks of T, and new ones. -/
def Grown (T : Nat → Prop) (w w' : World) (k : Nat) : Prop := (T k ∨ w.heap.size ≤ k) ∧ k < w'.heap.size

theorem getD_snoc {α : Type} (l : List α) (x d : α) (i : Nat) (h : i < l.length + 1) : (l ++ [x]).getD i d = if i < l.length then l.getD i d else x := by
  by_cases hi : i < l.length
  · rw [if_pos hi, List.getD_eq_getElem?_getD, List.getElem?_append_left hi, ← List.getD_eq_getElem?_getD]
  · obtain rfl : i = l.length := by omega
    rw [if_neg hi, List.getD_eq_getElem?_getD, List.getElem?_append_right (Nat.le_refl _), Nat.sub_self]
    rfl

theorem ownShape {w : World} {B n size : Nat} {e : TypeId} {v : Value} {xs : List Value} (h : w.ownsRow B e size v n xs) : ∃ ao cap, v = .slice ao n cap := by
  rcases h.2 with ⟨rfl, rfl⟩ | ⟨g, cap, cur, rfl, _⟩
  · exact ⟨none, 0, rfl⟩
  · exact ⟨_, cap, rfl⟩

end Go.Proofs.Ytoeighongkchnaa
