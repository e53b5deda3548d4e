/-
  CONTRACTS OF THE REFERENCE'S Load. Conditions: what is handed in is bytes.
  THE REFERENCE'S DISK AS ONE THING (RefDk: what lies where is hidden), and its calls as one contract each, every case in it. Conditions: each contract's.
  CONTRACT OF orloplaw09.Full: bytes filled up to a block. Conditions: at most 1000 bytes; what is nil has no spare room.
-/
import Derived.Test.YtdojalhaklkegaaDoorPn43
import Derived.Test.YtdojalhaklkegaaDoorPn42

namespace Go.Proofs.YtdojalhaklkegaaDoor
open Go.RowKit
set_option linter.unusedVariables false

namespace M

end M

end Go.Proofs.YtdojalhaklkegaaDoor

namespace Go.Proofs.YtdojalhaklkegaaDoor
open Go.RowKit
set_option linter.unusedVariables false

end Go.Proofs.YtdojalhaklkegaaDoor

namespace Go.Proofs.YtdojalhaklkegaaDoor
open Go.RowKit
set_option linter.unusedVariables false

theorem Own.short {w : World} {B n cap : Nat} {ao : Option Addr} {bs : List UInt8} (h : Own w B (.slice ao bs.length cap) bs) (k : Nat) (hk : k ≤ bs.length) (h0 : 0 < bs.length) : Own w B (.slice ao k cap) (bs.take k) := by
  have hl : (bs.take k).length = k := by rw [List.length_take]; omega
  rcases h.2 with ⟨_, hn⟩ | ⟨g, cap', cur, e, hb, hg, hn, hm, hs, ht⟩
  · omega
  · injection e with e1 e2 e3
    subst e1 e3
    refine ⟨by rw [byteCells_length, hl, Nat.mul_one], .inr ⟨g, cap, cur, by rw [hl], hb, hg, by rw [hl]; omega, hm, hs, ?_⟩⟩
    rw [hl, Nat.mul_one]
    rw [Nat.mul_one] at ht
    have := congrArg (List.take k) ht
    rw [List.take_take, Nat.min_eq_left hk] at this
    rw [this]
    simp [Lib.byteCells, List.map_take]

end Go.Proofs.YtdojalhaklkegaaDoor
