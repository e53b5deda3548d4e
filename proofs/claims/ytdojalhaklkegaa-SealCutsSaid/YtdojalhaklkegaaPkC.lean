/-
  CONTRACTS OF package disk's small functions: New, what Load refuses, Blocks, Down, Waiting, Image, Arm, has, act. Conditions: the disk lies so.
  CONTRACTS OF (*disk.Disk).place AND lay: where a block's safe bytes lie, and a write laid there. Conditions: the disk lies so; the block is there; the bytes are a block's.
  CONTRACTS OF (*disk.Disk).Write: what it refuses, and a write that waits. Conditions: the disk lies so; what is written lies out of it; fewer than a million writes wait.
  CONTRACTS OF (*disk.Disk).Sync AND Crash. Conditions: the disk lies so.
  CONTRACT OF (*disk.Disk).Tamper. Conditions: the disk lies so; the bytes lie out of it, fewer than 2^40.
  CONTRACTS OF slices.Backward OVER A SLICE OF WRITES, AND OF WHAT IT HANDS BACK: a loop's body is called with each write and its place, the last one first. Conditions: what lies below where the loop begins stays.
  CONTRACTS OF (*disk.Disk).seen AND Read: a block's bytes as seen. Conditions: the disk lies so; fewer than a million writes wait.
  PACKAGE disk BY ITS CALLS (CodeDk: the code's disk as one thing), each case in one contract; for later layers' seats, which may lack some of the calls. Conditions: each contract's.
  orloplaw09.awake, under DiskOk: it returns true. Conditions: DiskOk (proved of the code elsewhere).
-/
import Derived.Test.YtdojalhaklkegaaDiskA
import Derived.RangeFuncNested
import Derived.RangeFuncBound
import Derived.RangeFuncLeaves
import Derived.RangeFuncBox
import Derived.Shelf.Abstract
import Derived.Shelf.RegionOpen
import Derived.WalkKit
import Derived.OwnWalkIn
import Derived.TacticsInMore
import Derived.LoopNIn
import Derived.LoopIn
import Derived.Test.YtdojalhaklkegaaPkB

namespace Go.Proofs.Ytdojalhaklkegaa
open Go.RowKit
set_option linter.unusedVariables false
set_option maxRecDepth 100000

end Go.Proofs.Ytdojalhaklkegaa

namespace Go.Proofs.Ytdojalhaklkegaa
open Go.RowKit
set_option linter.unusedVariables false

end Go.Proofs.Ytdojalhaklkegaa

namespace Go.Proofs.Ytdojalhaklkegaa
open Go.RowKit
set_option linter.unusedVariables false

end Go.Proofs.Ytdojalhaklkegaa

namespace Go.Proofs.Ytdojalhaklkegaa
open Go.RowKit
set_option linter.unusedVariables false

end Go.Proofs.Ytdojalhaklkegaa

namespace Go.Proofs.Ytdojalhaklkegaa
open Go.RowKit
set_option linter.unusedVariables false

/-- 'b[m:]', whatever b's address is. -/
theorem from9 (ao : Option Addr) (n cap m : Nat) (hm : m ≤ n) (W : World) : (Instr.slice 22 (.slice ao n cap) (some (.int .i64 (m : Int))) none none).run Try.prog W = .ok (.slice (if cap = m then ao else ao.map (·.add m)) (n - m) (cap - m)) W := by
  have hel : Try.prog.elem 22 = 5 := by simp [Program.elem, Try.underlying22]
  rw [run_slice_l W 22 ao n cap (by rw [hel]; exact Try.underlying22) .i64 (m : Int) (by omega) (by omega), hel, Try.sizeOf5]
  simp only [Result.andThen_ok, sliced, Int.toNat_natCast, Nat.mul_one]

end Go.Proofs.Ytdojalhaklkegaa

namespace Go.Proofs.Ytdojalhaklkegaa
open Go.RowKit Go.Shelf
set_option linter.unusedVariables false

attribute [local go_sem] Oper.semAt_some

/-- The first k of q places, the last one first. -/
def M.down (q k : Nat) : List Nat := (List.range k).map fun j => q - 1 - j

theorem M.down_succ (q k : Nat) : M.down q (k + 1) = M.down q k ++ [q - 1 - k] := by simp [M.down, List.range_succ]

theorem M.down_length (q k : Nat) : (M.down q k).length = k := by simp [M.down]

end Go.Proofs.Ytdojalhaklkegaa

namespace Go.Proofs.Ytdojalhaklkegaa
open Go.RowKit Go.Shelf
set_option linter.unusedVariables false

attribute [local go_sem] Oper.semAt_some

namespace M
theorem take_snoc (c : List (Nat × List UInt8)) (k : Nat) (h : k < c.length) : c.take (k + 1) = c.take k ++ [c.getD k (0, [])] := by
  rw [List.take_add_one, List.getElem?_eq_getElem h, List.getD_eq_getElem?_getD, List.getElem?_eq_getElem h]
  rfl

theorem seen_none (i : Nat) (b : List UInt8) (c : List (Nat × List UInt8)) (h : ∀ j, j < c.length → (c.getD j (0, [])).1 ≠ i) : seen i b c = b := by
  have : ∀ k, k ≤ c.length → seen i b (c.take k) = b := by
    intro k
    induction k with
    | zero => intro _; rfl
    | succ k ih =>
      intro hk
      rw [take_snoc c k hk, seen_snoc, if_neg (h k hk)]
      exact ih (by omega)
  have := this c.length (Nat.le_refl _)
  rwa [List.take_length] at this

theorem seen_at (i : Nat) (b : List UInt8) (c : List (Nat × List UInt8)) (y : Nat) (hy : y < c.length) (he : (c.getD y (0, [])).1 = i) (h : ∀ j, y < j → j < c.length → (c.getD j (0, [])).1 ≠ i) : seen i b c = (c.getD y (0, [])).2 := by
  have : ∀ t, y + 1 + t ≤ c.length → seen i b (c.take (y + 1 + t)) = (c.getD y (0, [])).2 := by
    intro t
    induction t with
    | zero => intro _; rw [Nat.add_zero, take_snoc c y hy, seen_snoc, if_pos he]
    | succ t ih =>
      intro ht
      rw [← Nat.add_assoc, take_snoc c (y + 1 + t) (by omega), seen_snoc, if_neg (h _ (by omega) (by omega))]
      exact ih (by omega)
  have := this (c.length - (y + 1)) (by omega)
  rwa [show y + 1 + (c.length - (y + 1)) = c.length by omega, List.take_length] at this

theorem mem_down (q k j : Nat) : j ∈ down q k ↔ ∃ t, t < k ∧ j = q - 1 - t := by
  simp only [down, List.mem_map, List.mem_range]
  exact ⟨fun ⟨t, h, e⟩ => ⟨t, h, e.symm⟩, fun ⟨t, h, e⟩ => ⟨t, h, e.symm⟩⟩
end M

/-- The parts of a slice. -/
def sA : Value → Option Addr
  | .slice a _ _ => a
  | _ => none
def sC : Value → Nat
  | .slice _ _ c => c
  | _ => 0

theorem blk_box9 (B g : Nat) (t : TypeId) (cs : List Value) : OwnFrom B (fun (_ : List Nat) W => Blk W g t cs) := fun s W W' row hs hg hr => hs.grown hg (by
  intro e
  obtain ⟨_, o, ho, hc⟩ := hr g e.symm
  rw [show W.heap[g]? = _ from hs] at ho
  cases ho
  cases hc)

theorem keeps_below9 {W W' : World} (k : Below W.heap.size W W') (B : Nat) : KeepsFrom B W W' := ⟨k.size, fun i o _ hi _ => (k.block i (Array.getElem?_eq_some_iff.1 hi).1).trans hi⟩

end Go.Proofs.Ytdojalhaklkegaa

namespace Go.Proofs.Ytdojalhaklkegaa
open Go.RowKit
set_option linter.unusedVariables false
set_option maxRecDepth 100000

end Go.Proofs.Ytdojalhaklkegaa

namespace Go.Proofs.Ytdojalhaklkegaa
open Go.RowKit
set_option linter.unusedVariables false

theorem isZ_two (w : World) (t : TypeId) (a b : Bool) : IsZ (w.alloc (.cells #[.bool a, .bool b] t)) (.slice (some ⟨w.heap.size, 0, none⟩) 2 2) [a, b] := by
  refine ⟨_, 2, rfl, Nat.le_refl _, by unfold maxLen; omega, .inr ⟨w.heap.size, 0, rfl, fun i hi => ?_⟩⟩
  match i, hi with
  | 0, _ => simp
  | 1, _ => simp

end Go.Proofs.Ytdojalhaklkegaa
