/-
  PLAIN MATHEMATICS OF LAYER 9: what a disk is, and what each call makes of it. Nothing of the program. Conditions: none.
-/
import Derived.Test.YtoeighongkchnaaMath
namespace Go.Proofs.Ytoeighongkchnaa.M
set_option linter.unusedVariables false

/-- A disk: its safe blocks, the writes that wait, how many acts till the power goes (0: none), whether it is gone. -/
structure Dsk where
  safe : List (List UInt8)
  wait : List (Nat × List UInt8)
  left : Nat
  down : Bool

/-- All blocks have 256 bytes, and each write is of one of them. -/
structure Dsk.Ok (d : Dsk) : Prop where
  few : d.safe.length ≤ 2176
  full : ∀ b ∈ d.safe, b.length = 256
  wat : ∀ c ∈ d.wait, c.1 < d.safe.length ∧ c.2.length = 256

def zero256 : List UInt8 := List.replicate 256 0

/-- A new disk of n blocks. -/
def dnew (n : Nat) : Dsk := ⟨List.replicate (min n 2176) zero256, [], 0, false⟩

/-- A row of bytes cut into n blocks. -/
def cut256 (b : List UInt8) : Nat → List (List UInt8)
  | 0 => []
  | n + 1 => cut256 b n ++ [(b.drop (256 * n)).take 256]

def dload (b : List UInt8) : Dsk := ⟨cut256 b (b.length / 256), [], 0, false⟩

/-- An act begins: does the power go in it? -/
def Dsk.goes (d : Dsk) : Dsk × Bool :=
  if d.left = 0 then (d, false) else if d.left = 1 then ({ d with left := 0, down := true }, true) else ({ d with left := d.left - 1 }, d.down)

def Dsk.write (d : Dsk) (i : Nat) (b : List UInt8) : Dsk := (({ d with wait := d.wait ++ [(i, b)] } : Dsk).goes).1
def Dsk.wrote (d : Dsk) : Bool := d.goes.2

/-- The blocks with a row of writes laid on them. -/
def laid (s : List (List UInt8)) : List (Nat × List UInt8) → List (List UInt8)
  | [] => s
  | c :: r => laid (s.set c.1 c.2) r

/-- .. the first j of them, those that are kept. -/
def kept (s : List (List UInt8)) (c : List (Nat × List UInt8)) (k : List Bool) : Nat → List (List UInt8)
  | 0 => s
  | j + 1 => if k.getD j false = true then (kept s c k j).set (c.getD j (0, [])).1 (c.getD j (0, [])).2 else kept s c k j

/-- The last write of a block, or else it. -/
def seen (i : Nat) (b : List UInt8) : List (Nat × List UInt8) → List UInt8
  | [] => b
  | c :: r => seen i (if c.1 = i then c.2 else b) r

def Dsk.read (d : Dsk) (i : Nat) : List UInt8 := seen i (d.safe.getD i []) d.wait
def Dsk.synced (d : Dsk) : Dsk := { d with safe := laid d.safe d.wait, wait := [] }
def Dsk.arm (d : Dsk) (n : Int) : Dsk := { d with left := n.toNat }
def Dsk.crash (d : Dsk) (k : List Bool) : Dsk := ⟨kept d.safe d.wait k d.wait.length, [], 0, false⟩

/-- The byte at a place turned. -/
def turned1 (s : List (List UInt8)) (p : Nat) (x : UInt8) : List (List UInt8) := s.set (p / 256) ((s.getD (p / 256) []).set (p % 256) x)

/-- The first j bytes of b laid at the place at on, as far as there are places. -/
def turns (s : List (List UInt8)) (at_ : Int) (b : List UInt8) : Nat → List (List UInt8)
  | 0 => s
  | j + 1 => if 0 ≤ at_ + j ∧ at_ + j < 256 * s.length then turned1 (turns s at_ b j) (at_ + j).toNat (b.getD j 0) else turns s at_ b j

def Dsk.tamper (d : Dsk) (at_ : Int) (b : List UInt8) : Dsk := { d with safe := turns d.safe at_ b b.length }
def Dsk.image (d : Dsk) : List UInt8 := d.safe.flatten

end Go.Proofs.Ytoeighongkchnaa.M
