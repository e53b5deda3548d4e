/-
  CONTRACTS OF THE REFERENCE'S Load. Conditions: what is handed in is bytes.
-/
import Derived.Test.YtoeighongkchnaaRefDiskN
namespace Go.Proofs.Ytoeighongkchnaa
open Go.RowKit
set_option linter.unusedVariables false

namespace M
/-- The first j blocks of bytes, the others 0. -/
def part (b : List UInt8) (n j : Nat) : Dsk := ⟨cut256 b j ++ List.replicate (n - j) zero256, [], 0, false⟩

theorem cut_length (b : List UInt8) (j : Nat) : (cut256 b j).length = j := by
  induction j with
  | zero => rfl
  | succ j ih => rw [cut256, List.length_append, ih]; rfl

theorem part_len (b : List UInt8) (n j : Nat) (h : j ≤ n) : (part b n j).safe.length = n := by
  rw [part]
  simp only [List.length_append, cut_length, List.length_replicate]
  omega

theorem part_zero (b : List UInt8) (n : Nat) : part b n 0 = zdsk n := rfl

theorem part_all (b : List UInt8) (n : Nat) (h : n = b.length / 256) : part b n n = dload b := by
  rw [part, dload, Nat.sub_self, ← h]
  simp

theorem part_next (b : List UInt8) (n j : Nat) (h : j < n) : ({ part b n j with safe := (part b n j).safe.set j ((b.drop (256 * j)).take 256) } : Dsk) = part b n (j + 1) := by
  obtain ⟨k, hk⟩ : ∃ k, n - j = k + 1 := ⟨n - j - 1, by omega⟩
  rw [part, part, hk, show n - (j + 1) = k by omega, List.replicate_succ, List.set_append_right _ _ (by rw [cut_length]; exact Nat.le_refl _), cut_length, Nat.sub_self, List.set_cons_zero, cut256, List.append_assoc]
  rfl
end M

theorem IsB.mid {w : World} {b off n cap : Nat} {bs : List UInt8} (h : IsB w (.slice (some ⟨b, off, none⟩) n cap) bs) (i k c : Nat) (hi : i + k ≤ bs.length) (hk : k ≤ c) (hc : c ≤ maxLen) : IsB w (.slice (some ⟨b, off + i, none⟩) k c) ((bs.drop i).take k) := by
  obtain ⟨ao, cap', e, h1, h2, h3⟩ := h
  injection e with e1 e2 e3
  subst e1
  have hl : ((bs.drop i).take k).length = k := by rw [List.length_take, List.length_drop]; omega
  refine ⟨_, c, by rw [hl], by omega, hc, ?_⟩
  rcases h3 with h | ⟨b', off', e, h⟩
  · left
    rw [h]
    simp
  · injection e with e
    injection e with e4 e5
    subst e4 e5
    refine .inr ⟨b, off + i, rfl, fun m hm => ?_⟩
    rw [hl] at hm
    rw [Nat.add_assoc, h (i + m) (by omega)]
    simp [List.getD_eq_getElem?_getD, hm]

end Go.Proofs.Ytoeighongkchnaa
