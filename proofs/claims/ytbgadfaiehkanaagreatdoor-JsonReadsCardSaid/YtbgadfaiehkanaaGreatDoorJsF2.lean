/-
  THE LIBRARY'S ValidString IS THE DOCUMENT'S UTF-8. Conditions: the library's tables lie as laid.
-/
import Derived.Test.YtbgadfaiehkanaaGreatDoorPj25
import Derived.Test.YtbgadfaiehkanaaGreatDoorPj20
import Derived.Shelf.Unicode.ValidAny
namespace Go.Proofs.YtbgadfaiehkanaaGreatDoor
open Go.RowKit Go.Proofs Go.Shelf
set_option linter.unusedVariables false
set_option maxRecDepth 100000

theorem M.decL (c : UInt8) (r : List UInt8) : Lib.decodeL (c :: r) = if (M.rune (c :: r)).2 = 0 then (65533, 1) else M.rune (c :: r) := by
  rw [← M.dec_rune c r]
  unfold Lib.decodeL Lib.decodeGo
  rw [if_neg (by show ¬ (c :: r).length = 0; simp)]

theorem M.valid_go (n : Nat) : ∀ (s : List UInt8), s.length ≤ n → Lib.validGoD n s = M.utf s := by
  induction n with
  | zero =>
    intro s h
    rw [List.eq_nil_of_length_eq_zero (by omega : s.length = 0)]
    rfl
  | succ n ih =>
    intro s h
    cases s with
    | nil => rfl
    | cons c r =>
      rw [Lib.validGoD, if_neg (by simp), M.utf_step _ (by simp), M.decL]
      by_cases h0 : (M.rune (c :: r)).2 = 0
      · rw [if_pos h0, if_pos ⟨rfl, rfl⟩, h0]
        rfl
      · rw [if_neg h0]
        have hok := M.rune_ok c r (M.rune (c :: r)).1 (M.rune (c :: r)).2 (Prod.ext rfl rfl) h0
        have hlt := c.toNat_lt
        rw [if_neg (by rintro ⟨e1, e2⟩; rcases hok.low with ⟨h1, h2, _⟩ | ⟨_, h2, _⟩ <;> omega)]
        rw [ih _ (by rw [List.length_drop, List.length_cons]; rw [List.length_cons] at h; have := hok.one; omega)]
        rw [show ((M.rune (c :: r)).2 != 0) = true from by simp [h0], Bool.true_and]

theorem valid_any (s : List UInt8) (w : World) (hs : s.length ≤ 9223372036854775807) (hL : JLaid w) :
    Calls Tryz.prog 96 #[.string ⟨s.toArray⟩] w fun e w' => e = .returned (.bool (M.utf s)) ∧ Below w.heap.size w w' := by
  have := Any.utf8_ValidString lay_lays196 ⟨s.toArray⟩ w hs hL.tabs
  have e : Lib.validD (⟨s.toArray⟩ : ByteArray).data.toList = M.utf s := M.valid_go s.length s (Nat.le_refl _)
  rw [e] at this
  exact this

end Go.Proofs.YtbgadfaiehkanaaGreatDoor
