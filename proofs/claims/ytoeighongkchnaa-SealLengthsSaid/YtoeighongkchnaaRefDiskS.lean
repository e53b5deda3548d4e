/-
  CONTRACTS OF THE REFERENCE'S DISK: what Write refuses, Arm, Sync. Conditions: the disk lies so.
-/
import Derived.Test.YtoeighongkchnaaRefDiskW
import Derived.StillTailTactics
namespace Go.Proofs.Ytoeighongkchnaa
open Go.RowKit
set_option linter.unusedVariables false

theorem getD_set8 {α : Type} (l : List α) (b i : Nat) (x d : α) (hb : b < l.length) : (l.set b x).getD i d = if i = b then x else l.getD i d := by
  by_cases h : i = b
  · subst h
    rw [if_pos rfl, List.getD_eq_getElem?_getD, List.getElem?_set_self hb]
    rfl
  · rw [if_neg h, List.getD_eq_getElem?_getD, List.getElem?_set_ne (fun e => h e.symm), ← List.getD_eq_getElem?_getD]

theorem M.laid_snoc (s : List (List UInt8)) (c : List (Nat × List UInt8)) (x : Nat × List UInt8) : M.laid s (c ++ [x]) = (M.laid s c).set x.1 x.2 := by
  induction c generalizing s with
  | nil => rfl
  | cons y c ih => exact ih _

theorem M.laid_length (s : List (List UInt8)) (c : List (Nat × List UInt8)) : (M.laid s c).length = s.length := by
  induction c generalizing s with
  | nil => rfl
  | cons y c ih => rw [M.laid, ih, List.length_set]

end Go.Proofs.Ytoeighongkchnaa
