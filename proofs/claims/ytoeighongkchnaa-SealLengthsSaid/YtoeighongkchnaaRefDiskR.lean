/-
  CONTRACTS OF THE REFERENCE'S Read, Image, Same. Conditions: the disk lies so.
-/
import Derived.Test.YtoeighongkchnaaRefDiskC
namespace Go.Proofs.Ytoeighongkchnaa
open Go.RowKit
set_option linter.unusedVariables false

theorem M.seen_snoc (i : Nat) (b : List UInt8) (c : List (Nat × List UInt8)) (x : Nat × List UInt8) : M.seen i b (c ++ [x]) = if x.1 = i then x.2 else M.seen i b c := by
  induction c generalizing b with
  | nil => rfl
  | cons y c ih => exact ih _

theorem M.seen_length (i : Nat) : ∀ (c : List (Nat × List UInt8)) (b : List UInt8), b.length = 256 → (∀ x ∈ c, x.2.length = 256) → (M.seen i b c).length = 256
  | [], b, h, _ => h
  | y :: c, b, h, hc => M.seen_length i c _ (by split; exact hc y (by simp); exact h) fun x hx => hc x (by simp [hx])

theorem not_nil_of {w : World} {v : Value} {bs : List UInt8} (h : IsB w v bs) (hl : bs.length = 256) : ∀ n c, v = .slice none n c → c = 0 := by
  intro n c e
  obtain ⟨ao, cap, e2, h1, h2, h3⟩ := h
  rcases h3 with h | ⟨b, off, h4, h⟩
  · rw [h] at hl; simp at hl
  · rw [h4] at e2; rw [e2] at e; cases e

theorem flat_take (l : List (List UInt8)) (j : Nat) (h : j < l.length) : (l.take (j + 1)).flatten = (l.take j).flatten ++ l.getD j [] := by
  rw [List.take_add_one, List.getElem?_eq_getElem h, List.flatten_append, List.getD_eq_getElem?_getD, List.getElem?_eq_getElem h]
  simp

theorem flat_length : ∀ (l : List (List UInt8)), (∀ b ∈ l, b.length = 256) → l.flatten.length = 256 * l.length
  | [], _ => rfl
  | b :: l, h => by
    rw [List.flatten_cons, List.length_append, flat_length l fun c hc => h c (by simp [hc]), h b (by simp), List.length_cons]
    omega

end Go.Proofs.Ytoeighongkchnaa
