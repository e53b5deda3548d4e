/-
  THE STEPS OF A SCRIPT AS THEY LIE (orloplaw09.Do: a kind, a place, bytes, bools), AND orloplaw09.small. Conditions: none.
  THE FACE OF THE CODE'S DISK (DiskOk): what each of its calls does, in the words of M.Dsk, over a predicate Dk T w g m that hides what lies where. Nothing of it is proved here: DiskIs proves it of the code. Conditions: none.
  THE CODE'S DISK IN MEMORY (DkAt): its struct's block, the row of safe bytes, the row of writes that wait; how it lasts, and what becomes of it. Conditions: none.
-/
import Derived.Test.YtdojalhaklkegaaDoorPn44
import Derived.Test.YtdojalhaklkegaaDoorPn43

namespace Go.Proofs.YtdojalhaklkegaaDoor
open Go.RowKit
set_option linter.unusedVariables false

namespace M
/-- A step of a script. -/
structure Step where
  kind : Int
  at_ : Int
  bytes : List UInt8
  keep : List Bool
def Step.none : Step := ⟨0, 0, [], []⟩
instance : Inhabited Step := ⟨Step.none⟩
def Step.small (a : Step) : Bool := decide (a.bytes.length ≤ 1000) && decide (a.keep.length ≤ 1000)
/-- Are the first 60 steps small enough? -/
def small (l : List Step) : Bool := (l.take 60).all Step.small
end M

/-- A step lies at the cells from off on. -/
def StepAt (w : World) (b off : Nat) (a : M.Step) : Prop := ∃ bo bc ko kc, w.cell? ⟨b, off, none⟩ = some (.int .i64 a.kind) ∧ w.cell? ⟨b, off + 1, none⟩ = some (.int .i64 a.at_) ∧
  w.cell? ⟨b, off + 2, none⟩ = some (.slice bo a.bytes.length bc) ∧ w.cell? ⟨b, off + 3, none⟩ = some (.slice ko a.keep.length kc) ∧
  IsB w (.slice bo a.bytes.length bc) a.bytes ∧ (bo = none → bc = 0) ∧ IsZ w (.slice ko a.keep.length kc) a.keep ∧ (Lit.int .i64 a.kind).wf = true ∧ (Lit.int .i64 a.at_).wf = true

/-- The value is a slice of the steps l. -/
def IsSteps (w : World) (v : Value) (l : List M.Step) : Prop := ∃ ao cap, v = .slice ao l.length cap ∧ l.length ≤ cap ∧ cap ≤ maxLen ∧
  (l = [] ∨ ∃ b off, ao = some ⟨b, off, none⟩ ∧ ∀ i, i < l.length → StepAt w b (off + i * 4) (l.getD i M.Step.none))

theorem IsSteps.shape {w : World} {v : Value} {l : List M.Step} (h : IsSteps w v l) : ∃ ao cap, v = .slice ao l.length cap := by
  obtain ⟨ao, cap, rfl, _⟩ := h
  exact ⟨ao, cap, rfl⟩

end Go.Proofs.YtdojalhaklkegaaDoor

namespace Go.Proofs.YtdojalhaklkegaaDoor
open Go.RowKit
set_option linter.unusedVariables false

end Go.Proofs.YtdojalhaklkegaaDoor

namespace Go.Proofs.YtdojalhaklkegaaDoor
open Go.RowKit
set_option linter.unusedVariables false

end Go.Proofs.YtdojalhaklkegaaDoor
