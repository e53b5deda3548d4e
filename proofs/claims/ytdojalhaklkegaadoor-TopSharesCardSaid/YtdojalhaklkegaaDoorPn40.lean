/-
  CONTRACTS OF slices.Grow (of nil) AND slices.Concat: rows of bytes one behind the other, in memory of their own; for []byte and for seal.head. Conditions: up to 2^46 bytes; what is nil has no spare room.
  PLAIN MATHEMATICS OF LAYER 9: what a disk is, and what each call makes of it. Nothing of the program. Conditions: none.
  THE REFERENCE'S DISK IN MEMORY (RefAt): its struct's block, the row of safe blocks, the row of writes that wait; contracts of goes, Arm. Conditions: the disk lies so.
-/
import Derived.Test.YtdojalhaklkegaaDoorPn13
import Derived.Test.YtdojalhaklkegaaDoorPn5
import Derived.Test.YtdojalhaklkegaaDoorPn39
import Derived.Test.YtdojalhaklkegaaDoorPn2
import Derived.Lib.Hide
import Derived.Test.YtdojalhaklkegaaDoorPn1
import Derived.Test.YtdojalhaklkegaaDoorPn38

namespace Go.Proofs.YtdojalhaklkegaaDoor
open Go.RowKit
set_option linter.unusedVariables false
set_option maxRecDepth 100000

end Go.Proofs.YtdojalhaklkegaaDoor

namespace Go.Proofs.YtdojalhaklkegaaDoor.M
set_option linter.unusedVariables false

/-- A disk: its safe blocks, the writes that wait, how many acts till the power goes (0: none), whether it is gone. -/
structure Dsk where
  safe : List (List UInt8)
  wait : List (Nat × List UInt8)
  left : Nat
  down : Bool

/-- An act begins: does the power go in it? -/
def Dsk.goes (d : Dsk) : Dsk × Bool :=
  if d.left = 0 then (d, false) else if d.left = 1 then ({ d with left := 0, down := true }, true) else ({ d with left := d.left - 1 }, d.down)

def Dsk.write (d : Dsk) (i : Nat) (b : List UInt8) : Dsk := (({ d with wait := d.wait ++ [(i, b)] } : Dsk).goes).1
def Dsk.wrote (d : Dsk) : Bool := d.goes.2

/-- The blocks with a row of writes laid on them. -/
def laid (s : List (List UInt8)) : List (Nat × List UInt8) → List (List UInt8)
  | [] => s
  | c :: r => laid (s.set c.1 c.2) r

/-- .. the first j of them, those that are kept. -/
def kept (s : List (List UInt8)) (c : List (Nat × List UInt8)) (k : List Bool) : Nat → List (List UInt8)
  | 0 => s
  | j + 1 => if k.getD j false = true then (kept s c k j).set (c.getD j (0, [])).1 (c.getD j (0, [])).2 else kept s c k j

/-- The last write of a block, or else it. -/
def seen (i : Nat) (b : List UInt8) : List (Nat × List UInt8) → List UInt8
  | [] => b
  | c :: r => seen i (if c.1 = i then c.2 else b) r

def Dsk.read (d : Dsk) (i : Nat) : List UInt8 := seen i (d.safe.getD i []) d.wait
def Dsk.synced (d : Dsk) : Dsk := { d with safe := laid d.safe d.wait, wait := [] }
def Dsk.arm (d : Dsk) (n : Int) : Dsk := { d with left := n.toNat }
def Dsk.crash (d : Dsk) (k : List Bool) : Dsk := ⟨kept d.safe d.wait k d.wait.length, [], 0, false⟩

end Go.Proofs.YtdojalhaklkegaaDoor.M

namespace Go.Proofs.YtdojalhaklkegaaDoor
open Go.RowKit
set_option linter.unusedVariables false

theorem Chg.one {T : Nat → Prop} {w w' : World} {g : Nat} (h : Chg (fun b => b = g) w w') (hg : T g) : Chg T w w' := h.mono fun k _ e => e ▸ hg

end Go.Proofs.YtdojalhaklkegaaDoor
