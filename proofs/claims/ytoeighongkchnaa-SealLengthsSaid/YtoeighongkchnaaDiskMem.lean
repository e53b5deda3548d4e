/-
  THE CODE'S DISK IN MEMORY (DkAt): its struct's block, the row of safe bytes, the row of writes that wait; how it lasts, and what becomes of it. Conditions: none.
-/
import Derived.Test.YtoeighongkchnaaDiskFlat
import Derived.Test.YtoeighongkchnaaDiskFace
namespace Go.Proofs.Ytoeighongkchnaa
open Go.RowKit
set_option linter.unusedVariables false

/-- An owned row's block. -/
theorem Own.blk9 {w : World} {B : Nat} {v : Value} {bs : List UInt8} (h : Own w B v bs) (hne : 0 < bs.length) : ∃ g cap cur, v = .slice (some ⟨g, 0, none⟩) bs.length cap ∧ B ≤ g ∧ Blk w g 5 cur ∧ bs.length ≤ cap ∧ cap ≤ maxLen ∧ cur.length = cap ∧ cur.take bs.length = Lib.byteCells bs := by
  rcases h.2 with ⟨_, hn⟩ | ⟨g, cap, cur, rfl, hb, hg, hn, hm, hs, ht⟩
  · omega
  · rw [Nat.mul_one] at hs ht
    exact ⟨g, cap, cur.toList, rfl, hb, by simpa [Blk] using hg, hn, hm, by rw [Array.length_toList, hs], ht⟩

theorem Own.of_blk9 {w : World} {B g cap : Nat} {bs : List UInt8} {cur : List Value} (hB : B ≤ g) (hg : Blk w g 5 cur) (hn : bs.length ≤ cap) (hm : cap ≤ maxLen) (hs : cur.length = cap) (ht : cur.take bs.length = Lib.byteCells bs) :
    Own w B (.slice (some ⟨g, 0, none⟩) bs.length cap) bs :=
  ⟨by rw [byteCells_length, Nat.mul_one], .inr ⟨g, cap, cur.toArray, rfl, hB, hg, hn, hm, by rw [List.size_toArray, hs, Nat.mul_one], by rw [Nat.mul_one]; exact ht⟩⟩

/-- Cells laid into an owned row. -/
theorem splice_row {cur : List Value} {bs xs : List UInt8} {o : Nat} (ht : cur.take bs.length = Lib.byteCells bs) (ho : o + xs.length ≤ bs.length) (hc : bs.length ≤ cur.length) :
    (splice cur o (Lib.byteCells xs)).take bs.length = Lib.byteCells (bs.take o ++ xs ++ bs.drop (o + xs.length)) := by
  have e1 : cur.take o = Lib.byteCells (bs.take o) := by
    have := congrArg (List.take o) ht
    rw [List.take_take, Nat.min_eq_left (by omega)] at this
    rw [this]
    simp [Lib.byteCells, List.map_take]
  have e2 : (cur.drop (o + xs.length)).take (bs.length - (o + xs.length)) = Lib.byteCells (bs.drop (o + xs.length)) := by
    have := congrArg (List.drop (o + xs.length)) ht
    rw [List.drop_take] at this
    rw [this]
    simp [Lib.byteCells, List.map_drop]
  rw [splice, byteCells_length, byteCells_append, byteCells_append, ← e1, ← e2]
  rw [List.take_append, List.take_append]
  have l1 : (cur.take o).length = o := by rw [List.length_take]; omega
  rw [l1, byteCells_length, List.take_of_length_le (by omega), List.take_of_length_le (l := Lib.byteCells xs) (by rw [byteCells_length]; omega), List.append_assoc, Nat.sub_sub]

end Go.Proofs.Ytoeighongkchnaa
