/-
  CONTRACTS OF THE REFERENCE'S DISK: what Write refuses, Arm, Sync. Conditions: the disk lies so.
  CONTRACT OF THE REFERENCE'S Sync. Conditions: the disk lies so.
  CONTRACTS OF THE REFERENCE'S DISK: what Write and Sync refuse; Image, Same. Conditions: the disk lies so.
  CONTRACT OF THE REFERENCE'S Crash. Conditions: the disk lies so; the list of what is kept lies out of it.
  CONTRACTS OF THE REFERENCE'S Read, Image, Same. Conditions: the disk lies so.
-/
import Derived.Test.YtbgadfaiehkanaaGreatDoorPj10
import Derived.StillTailTactics
import Derived.Test.YtbgadfaiehkanaaGreatDoorPj3

namespace Go.Proofs.YtbgadfaiehkanaaGreatDoor
open Go.RowKit
set_option linter.unusedVariables false

theorem getD_set8 {α : Type} (l : List α) (b i : Nat) (x d : α) (hb : b < l.length) : (l.set b x).getD i d = if i = b then x else l.getD i d := by
  by_cases h : i = b
  · subst h
    rw [if_pos rfl, List.getD_eq_getElem?_getD, List.getElem?_set_self hb]
    rfl
  · rw [if_neg h, List.getD_eq_getElem?_getD, List.getElem?_set_ne (fun e => h e.symm), ← List.getD_eq_getElem?_getD]

theorem M.laid_snoc (s : List (List UInt8)) (c : List (Nat × List UInt8)) (x : Nat × List UInt8) : M.laid s (c ++ [x]) = (M.laid s c).set x.1 x.2 := by
  induction c generalizing s with
  | nil => rfl
  | cons y c ih => exact ih _

theorem M.laid_length (s : List (List UInt8)) (c : List (Nat × List UInt8)) : (M.laid s c).length = s.length := by
  induction c generalizing s with
  | nil => rfl
  | cons y c ih => rw [M.laid, ih, List.length_set]

end Go.Proofs.YtbgadfaiehkanaaGreatDoor

namespace Go.Proofs.YtbgadfaiehkanaaGreatDoor
open Go.RowKit
set_option linter.unusedVariables false

/-- The rows behind the first j writes that wait. -/
def laidV (rows : List Value) : List (Nat × List UInt8) → List Value → List Value
  | c :: r, d :: s => laidV (rows.set c.1 d) r s
  | _, _ => rows

theorem ownCells {w : World} {B n size cap : Nat} {e : TypeId} {ao : Option Addr} {xs : List Value} (h : w.ownsRow B e size (.slice ao n cap) n xs) (hn : 0 < n) :
    ∃ b, ao = some ⟨b, 0, none⟩ ∧ (n ≤ cap ∧ cap ≤ maxLen) ∧ (∀ k, k < xs.length → w.cell? ⟨b, k, none⟩ = xs[k]?) ∧ ∀ k, w.frozen? ⟨b, k, none⟩ = false := by
  rcases h.2 with ⟨_, h0⟩ | ⟨g, cap', cur, e1, hb, hg, hc, hm, hs, ht⟩
  · omega
  · injection e1 with e1 e2 e3
    subst e3
    refine ⟨g, e1, ⟨hc, hm⟩, fun k hk => ?_, fun k => frozen_of_row w g k _ e hg⟩
    rw [cell_of_row w g k cur e (0, 0) hg, ← ht, List.getElem?_take, if_pos (by have := h.1; omega)]
    simp

end Go.Proofs.YtbgadfaiehkanaaGreatDoor

namespace Go.Proofs.YtbgadfaiehkanaaGreatDoor
open Go.RowKit
set_option linter.unusedVariables false

end Go.Proofs.YtbgadfaiehkanaaGreatDoor

namespace Go.Proofs.YtbgadfaiehkanaaGreatDoor
open Go.RowKit
set_option linter.unusedVariables false

theorem M.kept_length (s : List (List UInt8)) (c : List (Nat × List UInt8)) (k : List Bool) (j : Nat) : (M.kept s c k j).length = s.length := by
  induction j with
  | zero => rfl
  | succ j ih =>
    rw [M.kept]
    split
    · rw [List.length_set, ih]
    · exact ih

end Go.Proofs.YtbgadfaiehkanaaGreatDoor

namespace Go.Proofs.YtbgadfaiehkanaaGreatDoor
open Go.RowKit
set_option linter.unusedVariables false

theorem M.seen_snoc (i : Nat) (b : List UInt8) (c : List (Nat × List UInt8)) (x : Nat × List UInt8) : M.seen i b (c ++ [x]) = if x.1 = i then x.2 else M.seen i b c := by
  induction c generalizing b with
  | nil => rfl
  | cons y c ih => exact ih _

theorem M.seen_length (i : Nat) : ∀ (c : List (Nat × List UInt8)) (b : List UInt8), b.length = 256 → (∀ x ∈ c, x.2.length = 256) → (M.seen i b c).length = 256
  | [], b, h, _ => h
  | y :: c, b, h, hc => M.seen_length i c _ (by split; exact hc y (by simp); exact h) fun x hx => hc x (by simp [hx])

theorem not_nil_of {w : World} {v : Value} {bs : List UInt8} (h : IsB w v bs) (hl : bs.length = 256) : ∀ n c, v = .slice none n c → c = 0 := by
  intro n c e
  obtain ⟨ao, cap, e2, h1, h2, h3⟩ := h
  rcases h3 with h | ⟨b, off, h4, h⟩
  · rw [h] at hl; simp at hl
  · rw [h4] at e2; rw [e2] at e; cases e

theorem flat_take (l : List (List UInt8)) (j : Nat) (h : j < l.length) : (l.take (j + 1)).flatten = (l.take j).flatten ++ l.getD j [] := by
  rw [List.take_add_one, List.getElem?_eq_getElem h, List.flatten_append, List.getD_eq_getElem?_getD, List.getElem?_eq_getElem h]
  simp

theorem flat_length : ∀ (l : List (List UInt8)), (∀ b ∈ l, b.length = 256) → l.flatten.length = 256 * l.length
  | [], _ => rfl
  | b :: l, h => by
    rw [List.flatten_cons, List.length_append, flat_length l fun c hc => h c (by simp [hc]), h b (by simp), List.length_cons]
    omega

end Go.Proofs.YtbgadfaiehkanaaGreatDoor
