/-
  CONTRACT OF THE REFERENCE'S Sync. Conditions: the disk lies so.
-/
import Derived.Test.YtoeighongkchnaaRefDiskS
namespace Go.Proofs.Ytoeighongkchnaa
open Go.RowKit
set_option linter.unusedVariables false

/-- The rows behind the first j writes that wait. -/
def laidV (rows : List Value) : List (Nat × List UInt8) → List Value → List Value
  | c :: r, d :: s => laidV (rows.set c.1 d) r s
  | _, _ => rows

theorem ownCells {w : World} {B n size cap : Nat} {e : TypeId} {ao : Option Addr} {xs : List Value} (h : w.ownsRow B e size (.slice ao n cap) n xs) (hn : 0 < n) :
    ∃ b, ao = some ⟨b, 0, none⟩ ∧ (n ≤ cap ∧ cap ≤ maxLen) ∧ (∀ k, k < xs.length → w.cell? ⟨b, k, none⟩ = xs[k]?) ∧ ∀ k, w.frozen? ⟨b, k, none⟩ = false := by
  rcases h.2 with ⟨_, h0⟩ | ⟨g, cap', cur, e1, hb, hg, hc, hm, hs, ht⟩
  · omega
  · injection e1 with e1 e2 e3
    subst e3
    refine ⟨g, e1, ⟨hc, hm⟩, fun k hk => ?_, fun k => frozen_of_row w g k _ e hg⟩
    rw [cell_of_row w g k cur e (0, 0) hg, ← ht, List.getElem?_take, if_pos (by have := h.1; omega)]
    simp

end Go.Proofs.Ytoeighongkchnaa
