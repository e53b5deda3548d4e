/-
  CONTRACT OF orloplaw09.Full: bytes filled up to a block. Conditions: at most 1000 bytes; what is nil has no spare room.
-/
import Derived.Test.YtoeighongkchnaaRefDiskL
namespace Go.Proofs.Ytoeighongkchnaa
open Go.RowKit
set_option linter.unusedVariables false

namespace M
/-- What a block is filled up with. -/
def fillx (b : List UInt8) : UInt8 := if b.length = 0 then 0 else b.getD (b.length - 1) 0
def full (b : List UInt8) : List UInt8 := (b ++ List.replicate (256 - b.length) (fillx b)).take 256
theorem full_length (b : List UInt8) : (full b).length = 256 := by
  rw [full]
  simp only [List.length_take, List.length_append, List.length_replicate]
  omega
end M

/-- How long a slice is. -/
def lenOf9 : Value → Nat
  | .slice _ n _ => n
  | _ => 0

theorem Own.short {w : World} {B n cap : Nat} {ao : Option Addr} {bs : List UInt8} (h : Own w B (.slice ao bs.length cap) bs) (k : Nat) (hk : k ≤ bs.length) (h0 : 0 < bs.length) : Own w B (.slice ao k cap) (bs.take k) := by
  have hl : (bs.take k).length = k := by rw [List.length_take]; omega
  rcases h.2 with ⟨_, hn⟩ | ⟨g, cap', cur, e, hb, hg, hn, hm, hs, ht⟩
  · omega
  · injection e with e1 e2 e3
    subst e1 e3
    refine ⟨by rw [byteCells_length, hl, Nat.mul_one], .inr ⟨g, cap, cur, by rw [hl], hb, hg, by rw [hl]; omega, hm, hs, ?_⟩⟩
    rw [hl, Nat.mul_one]
    rw [Nat.mul_one] at ht
    have := congrArg (List.take k) ht
    rw [List.take_take, Nat.min_eq_left hk] at this
    rw [this]
    simp [Lib.byteCells, List.map_take]

end Go.Proofs.Ytoeighongkchnaa
