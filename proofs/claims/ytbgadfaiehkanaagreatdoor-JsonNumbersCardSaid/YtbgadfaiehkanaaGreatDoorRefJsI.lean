/-
  CONTRACT OF orlopref15.text. Conditions: rows of up to 2^40 bytes.
-/
import Derived.Test.YtbgadfaiehkanaaGreatDoorRefJsH
namespace Go.Proofs.YtbgadfaiehkanaaGreatDoor
open Go.RowKit
set_option linter.unusedVariables false
set_option maxRecDepth 100000

/-- A text's bytes, or none. -/
def M.tS : Option (List UInt8 × List UInt8) → List UInt8
  | none => []
  | some p => p.1
/-- The place behind it, of so many bytes, or -1. -/
def M.tP (n : Nat) : Option (List UInt8 × List UInt8) → Int
  | none => -1
  | some p => ((n - p.2.length : Nat) : Int)

theorem M.tP_drop (b o : List UInt8) (j : Nat) (h : j ≤ b.length) : M.tP b.length (some (o, b.drop j)) = (j : Int) := by
  show ((b.length - (b.drop j).length : Nat) : Int) = (j : Int)
  rw [List.length_drop]
  congr 1
  omega

theorem M.esc_some {s : List UInt8} {v : Nat} {r2 : List UInt8} (h : M.esc s = some (v, r2)) : v ≤ 1114111 ∧ ∃ k, 1 ≤ k ∧ k ≤ s.length ∧ r2 = s.drop k := by
  cases s with
  | nil => cases h
  | cons c r =>
    have one : ∀ x : Nat, x < 256 → some (x, r) = some (v, r2) → v ≤ 1114111 ∧ ∃ k, 1 ≤ k ∧ k ≤ (c :: r).length ∧ r2 = (c :: r).drop k := by
      intro x hx e
      injection e with e
      injection e with e1 e2
      exact ⟨by omega, 1, Nat.le_refl 1, by rw [List.length_cons]; omega, e2.symm⟩
    unfold M.esc at h
    dsimp only at h
    by_cases e0 : c = 34 ∨ c = 92 ∨ c = 47
    · rw [if_pos e0] at h; exact one _ c.toNat_lt h
    rw [if_neg e0] at h
    by_cases e98 : c = 98
    · rw [if_pos e98] at h; exact one 8 (by decide) h
    rw [if_neg e98] at h
    by_cases e102 : c = 102
    · rw [if_pos e102] at h; exact one 12 (by decide) h
    rw [if_neg e102] at h
    by_cases e110 : c = 110
    · rw [if_pos e110] at h; exact one 10 (by decide) h
    rw [if_neg e110] at h
    by_cases e114 : c = 114
    · rw [if_pos e114] at h; exact one 13 (by decide) h
    rw [if_neg e114] at h
    by_cases e116 : c = 116
    · rw [if_pos e116] at h; exact one 9 (by decide) h
    rw [if_neg e116] at h
    by_cases e117 : c = 117
    · rw [if_pos e117] at h
      cases hx : M.hex4 r with
      | none => rw [hx] at h; cases h
      | some x =>
        rw [hx] at h
        dsimp only at h
        have h4 := M.hex4_some hx
        by_cases a1 : 56320 ≤ x ∧ x < 57344
        · rw [if_pos a1] at h; cases h
        rw [if_neg a1] at h
        by_cases a2 : x < 55296 ∨ 57344 ≤ x
        · rw [if_pos a2] at h
          injection h with h
          injection h with e1 e2
          exact ⟨by omega, 5, by decide, by rw [List.length_cons]; omega, e2.symm⟩
        rw [if_neg a2] at h
        by_cases a3 : [92, 117] <+: r.drop 4
        · rw [if_pos a3] at h
          cases hy : M.hex4 (r.drop 6) with
          | none => rw [hy] at h; cases h
          | some y =>
            rw [hy] at h
            dsimp only at h
            have h5 := M.hex4_some hy
            rw [List.length_drop] at h5
            by_cases a4 : 56320 ≤ y ∧ y < 57344
            · rw [if_pos a4] at h
              injection h with h
              injection h with e1 e2
              exact ⟨by omega, 11, by decide, by rw [List.length_cons]; omega, e2.symm⟩
            · rw [if_neg a4] at h; cases h
        · rw [if_neg a3] at h; cases h
    · rw [if_neg e117] at h; cases h

theorem M.txt_same (f : Nat) : ∀ (g : Nat) (s o : List UInt8), s.length < f → s.length < g → M.txt f s o = M.txt g s o := by
  induction f with
  | zero => intro g s o h1; omega
  | succ f ih =>
    intro g s o h1 h2
    cases g with
    | zero => omega
    | succ g =>
      cases s with
      | nil => rfl
      | cons c r =>
        rw [List.length_cons] at h1 h2
        unfold M.txt
        dsimp only
        split
        · rfl
        split
        · rfl
        split
        · cases he : M.esc r with
          | none => rfl
          | some p =>
            obtain ⟨v, r2⟩ := p
            obtain ⟨_, k, k1, k2, rfl⟩ := M.esc_some he
            dsimp only
            exact ih g _ _ (by rw [List.length_drop]; omega) (by rw [List.length_drop]; omega)
        split
        · rfl
        · exact ih g _ _ (by rw [List.length_drop, List.length_cons]; omega) (by rw [List.length_drop, List.length_cons]; omega)

/-- A text's rest, with fuel enough. -/
def M.txtU (s o : List UInt8) : Option (List UInt8 × List UInt8) := M.txt (s.length + 1) s o

theorem M.txtU_nil (o : List UInt8) : M.txtU [] o = none := rfl
theorem M.txtU_end (r o : List UInt8) : M.txtU (34 :: r) o = some (o, r) := by
  unfold M.txtU M.txt
  dsimp only
  rw [if_pos rfl]
theorem M.txtU_low (c : UInt8) (r o : List UInt8) (h0 : c ≠ 34) (h : c.toNat < 32) : M.txtU (c :: r) o = none := by
  unfold M.txtU M.txt
  dsimp only
  rw [if_neg h0, if_pos h]
theorem M.txtU_esc (r o : List UInt8) : M.txtU (92 :: r) o = match M.esc r with
    | none => none
    | some (v, r2) => M.txtU r2 (o ++ M.rbytes v) := by
  unfold M.txtU
  rw [M.txt]
  rw [if_neg (by decide), if_neg (by decide), if_pos rfl]
  cases he : M.esc r with
  | none => rfl
  | some p =>
    obtain ⟨v, r2⟩ := p
    obtain ⟨_, k, k1, k2, rfl⟩ := M.esc_some he
    dsimp only
    exact M.txt_same _ _ _ _ (by rw [List.length_drop, List.length_cons]; omega) (Nat.lt_succ_self _)
theorem M.txtU_bad (c : UInt8) (r o : List UInt8) (h0 : c ≠ 34) (h1 : ¬ c.toNat < 32) (h2 : c ≠ 92) (h3 : (M.rune (c :: r)).2 = 0) : M.txtU (c :: r) o = none := by
  unfold M.txtU
  rw [M.txt]
  rw [if_neg h0, if_neg h1, if_neg h2, if_pos h3]
theorem M.txtU_rune (c : UInt8) (r o : List UInt8) (h0 : c ≠ 34) (h1 : ¬ c.toNat < 32) (h2 : c ≠ 92) (h3 : (M.rune (c :: r)).2 ≠ 0) :
    M.txtU (c :: r) o = M.txtU ((c :: r).drop (M.rune (c :: r)).2) (o ++ (c :: r).take (M.rune (c :: r)).2) := by
  unfold M.txtU
  rw [M.txt]
  rw [if_neg h0, if_neg h1, if_neg h2, if_neg h3]
  exact M.txt_same _ _ _ _ (by rw [List.length_drop, List.length_cons]; omega) (Nat.lt_succ_self _)
theorem M.text_34 (r : List UInt8) : M.text (34 :: r) = M.txtU r [] := by
  unfold M.text M.txtU
  dsimp only
  rw [if_pos rfl]
theorem M.text_no (c : UInt8) (r : List UInt8) (h : c ≠ 34) : M.text (c :: r) = none := by
  unfold M.text
  dsimp only
  rw [if_neg h]

theorem M.rbytes_le (v : Nat) : (M.rbytes v).length ≤ 4 := by
  unfold M.rbytes
  split
  · exact Nat.succ_le_succ (Nat.zero_le 3)
  split
  · exact Nat.le_succ_of_le (Nat.le_succ 2)
  split
  · exact Nat.le_succ 3
  · exact Nat.le_refl 4

end Go.Proofs.YtbgadfaiehkanaaGreatDoor
