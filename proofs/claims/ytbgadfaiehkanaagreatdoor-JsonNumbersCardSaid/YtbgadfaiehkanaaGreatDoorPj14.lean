/-
  CONTRACTS OF package disk's small functions: New, what Load refuses, Blocks, Down, Waiting, Image, Arm, has, act. Conditions: the disk lies so.
  CONTRACTS OF (*disk.Disk).place AND lay: where a block's safe bytes lie, and a write laid there. Conditions: the disk lies so; the block is there; the bytes are a block's.
  CONTRACTS OF (*disk.Disk).Write: what it refuses, and a write that waits. Conditions: the disk lies so; what is written lies out of it; fewer than a million writes wait.
  CONTRACTS OF (*disk.Disk).Sync AND Crash. Conditions: the disk lies so.
  CONTRACT OF (*disk.Disk).Tamper. Conditions: the disk lies so; the bytes lie out of it, fewer than 2^40.
-/
import Derived.Test.YtbgadfaiehkanaaGreatDoorPj13

namespace Go.Proofs.YtbgadfaiehkanaaGreatDoor
open Go.RowKit
set_option linter.unusedVariables false
set_option maxRecDepth 100000

end Go.Proofs.YtbgadfaiehkanaaGreatDoor

namespace Go.Proofs.YtbgadfaiehkanaaGreatDoor
open Go.RowKit
set_option linter.unusedVariables false

end Go.Proofs.YtbgadfaiehkanaaGreatDoor

namespace Go.Proofs.YtbgadfaiehkanaaGreatDoor
open Go.RowKit
set_option linter.unusedVariables false

end Go.Proofs.YtbgadfaiehkanaaGreatDoor

namespace Go.Proofs.YtbgadfaiehkanaaGreatDoor
open Go.RowKit
set_option linter.unusedVariables false

end Go.Proofs.YtbgadfaiehkanaaGreatDoor

namespace Go.Proofs.YtbgadfaiehkanaaGreatDoor
open Go.RowKit
set_option linter.unusedVariables false

/-- 'b[m:]', whatever b's address is. -/
theorem from9 (ao : Option Addr) (n cap m : Nat) (hm : m ≤ n) (W : World) : (Instr.slice 22 (.slice ao n cap) (some (.int .i64 (m : Int))) none none).run Tryz.prog W = .ok (.slice (if cap = m then ao else ao.map (·.add m)) (n - m) (cap - m)) W := by
  have hel : Tryz.prog.elem 22 = 5 := by simp [Program.elem, Tryz.underlying22]
  rw [run_slice_l W 22 ao n cap (by rw [hel]; exact Tryz.underlying22) .i64 (m : Int) (by omega) (by omega), hel, Tryz.sizeOf5]
  simp only [Result.andThen_ok, sliced, Int.toNat_natCast, Nat.mul_one]

end Go.Proofs.YtbgadfaiehkanaaGreatDoor
