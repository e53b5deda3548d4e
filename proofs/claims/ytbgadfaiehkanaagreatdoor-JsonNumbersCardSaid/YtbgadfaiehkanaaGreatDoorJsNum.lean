/-
  A WHOLE NUMBER'S TEXT IS READ AS ITSELF. Conditions: the number is one of JSON's.
-/
import Derived.Test.YtbgadfaiehkanaaGreatDoorJsI2
import Derived.Lib.ItoaLen
namespace Go.Proofs.YtbgadfaiehkanaaGreatDoor
open Go.RowKit Go.Proofs Go.Shelf
set_option linter.unusedVariables false
set_option maxRecDepth 100000

theorem itoa_shape (v : Int) : ∃ c r, Lib.itoa v = c :: r ∧ (M.isD c = true ∨ c = 45) := by
  unfold Lib.itoa
  split
  · exact ⟨45, _, rfl, .inr rfl⟩
  · obtain ⟨h1, _, h3, _⟩ := M.dec_facts v.toNat
    cases h : Lib.decDigits v.toNat with
    | nil => exact absurd h h3
    | cons c r => exact ⟨c, r, rfl, .inl (h1 c (by rw [h]; exact List.mem_cons_self ..))⟩

theorem itoa_val (d : Nat) (v : Int) (h1 : v ≤ 9007199254740991) (h2 : -9007199254740991 ≤ v) : M.val2 (d + 1) (Lib.itoa v) = .ok (M.vNum v) [] := by
  obtain ⟨c, r, hs, hc⟩ := itoa_shape v
  have hn := M.num_itoa v h1 h2 [] (fun c h => by cases h)
  rw [List.append_nil] at hn
  have ne : ∀ k : UInt8, M.isD k = false → k ≠ 45 → c ≠ k := by
    rintro k h3 h4 rfl
    rcases hc with h | h
    · rw [h] at h3; cases h3
    · exact h4 h
  have hb : M.blk (Lib.itoa v) = Lib.itoa v := by
    rw [hs]
    unfold M.blk
    rw [List.dropWhile_cons, if_neg]
    unfold M.isBl
    simp only [Bool.or_eq_true, beq_iff_eq]
    rintro (((h | h) | h) | h)
    · exact ne 9 (by decide) (by decide) h
    · exact ne 10 (by decide) (by decide) h
    · exact ne 13 (by decide) (by decide) h
    · exact ne 32 (by decide) (by decide) h
  have np : ∀ (k : UInt8) (t : List UInt8), M.isD k = false → k ≠ 45 → ¬ (k :: t) <+: Lib.itoa v := by
    rintro k t h3 h4 ⟨u, h⟩
    rw [hs] at h
    injection h with h _
    exact ne k h3 h4 h.symm
  show M.bare (M.val2 d) (M.blk (Lib.itoa v)) = _
  rw [hb, M.bare_n (np _ _ (by decide) (by decide)) (np _ _ (by decide) (by decide)) (np _ _ (by decide) (by decide)) (np _ _ (by decide) (by decide)) (np _ _ (by decide) (by decide)) (np _ _ (by decide) (by decide))]
  unfold M.num2
  rw [hn]
  rfl

theorem itoa_len (v : Int) (h1 : v ≤ 9007199254740991) (h2 : -9007199254740991 ≤ v) : (Lib.itoa v).length ≤ 21 := by
  have := Lib.itoa_length_le v (by omega) (by omega)
  omega

theorem parse_num (v : Int) (h1 : v ≤ 9007199254740991) (h2 : -9007199254740991 ≤ v) : M.parse (Lib.itoa v) = .ok (M.vNum v) [] := by
  rw [← M.parse2_eq]
  unfold M.parse2
  rw [if_neg (by have := itoa_len v h1 h2; omega), itoa_val 15 v h1 h2]
  rfl

theorem parse_none : M.parse [] = .err 8 := by kernel_rfl

theorem num_may (d : Nat) (v : Int) (h1 : v ≤ 9007199254740991) (h2 : -9007199254740991 ≤ v) : M.MayP (d + 1) (M.vNum v) :=
  ⟨⟨by show (0 : Int) ≤ 2; decide, by show (2 : Int) ≤ 5; decide, fun _ => rfl, fun h => absurd rfl h, fun _ => rfl, fun _ => rfl, fun _ => rfl, h1, h2⟩, rfl, (fun x hx => by cases hx), (fun x hx => by cases hx), List.Pairwise.nil⟩
theorem num_fit (d : Nat) (v : Int) : M.Fit (d + 1) (M.vNum v) := M.fit_leaf d 2 false v [] (by decide)
theorem num_wz (d : Nat) (v : Int) (h1 : v ≤ 9007199254740991) (h2 : -9007199254740991 ≤ v) : M.wz (d + 1) (M.vNum v) ≤ 100 := by
  have := itoa_len v h1 h2
  show 8 + (Lib.itoa v).length + 6 * 0 + 0 + 0 ≤ 100
  omega
theorem num_wr (d : Nat) (v : Int) : M.wr (d + 1) (M.vNum v) = Lib.itoa v := rfl

end Go.Proofs.YtbgadfaiehkanaaGreatDoor
