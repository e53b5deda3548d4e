/-
  THE STEPS OF A SCRIPT AS THEY LIE (orloplaw09.Do: a kind, a place, bytes, bools), AND orloplaw09.small. Conditions: none.
-/
import Derived.Test.YtoeighongkchnaaDiskFull
namespace Go.Proofs.Ytoeighongkchnaa
open Go.RowKit
set_option linter.unusedVariables false

namespace M
/-- A step of a script. -/
structure Step where
  kind : Int
  at_ : Int
  bytes : List UInt8
  keep : List Bool
def Step.none : Step := ⟨0, 0, [], []⟩
instance : Inhabited Step := ⟨Step.none⟩
def Step.small (a : Step) : Bool := decide (a.bytes.length ≤ 1000) && decide (a.keep.length ≤ 1000)
/-- Are the first 60 steps small enough? -/
def small (l : List Step) : Bool := (l.take 60).all Step.small
end M

/-- A step lies at the cells from off on. -/
def StepAt (w : World) (b off : Nat) (a : M.Step) : Prop := ∃ bo bc ko kc, w.cell? ⟨b, off, none⟩ = some (.int .i64 a.kind) ∧ w.cell? ⟨b, off + 1, none⟩ = some (.int .i64 a.at_) ∧
  w.cell? ⟨b, off + 2, none⟩ = some (.slice bo a.bytes.length bc) ∧ w.cell? ⟨b, off + 3, none⟩ = some (.slice ko a.keep.length kc) ∧
  IsB w (.slice bo a.bytes.length bc) a.bytes ∧ (bo = none → bc = 0) ∧ IsZ w (.slice ko a.keep.length kc) a.keep ∧ (Lit.int .i64 a.kind).wf = true ∧ (Lit.int .i64 a.at_).wf = true

/-- The value is a slice of the steps l. -/
def IsSteps (w : World) (v : Value) (l : List M.Step) : Prop := ∃ ao cap, v = .slice ao l.length cap ∧ l.length ≤ cap ∧ cap ≤ maxLen ∧
  (l = [] ∨ ∃ b off, ao = some ⟨b, off, none⟩ ∧ ∀ i, i < l.length → StepAt w b (off + i * 4) (l.getD i M.Step.none))

theorem IsSteps.shape {w : World} {v : Value} {l : List M.Step} (h : IsSteps w v l) : ∃ ao cap, v = .slice ao l.length cap := by
  obtain ⟨ao, cap, rfl, _⟩ := h
  exact ⟨ao, cap, rfl⟩

/-- What lay below B stays, where only blocks from B on, and new ones, have turned. -/
theorem IsB.chgB {B : Nat} {F : Nat → Prop} {w w' : World} {v : Value} {bs : List UInt8} (h : IsB w v bs) (k : Chg F w w') (hF : ∀ b, b < w.heap.size → ¬ F b) : IsB w' v bs := by
  by_cases hn : bs = []
  · subst hn
    obtain ⟨ao, cap, rfl, h1, h2, h3⟩ := h
    exact ⟨ao, cap, rfl, h1, h2, .inl rfl⟩
  · exact h.chg k (fun b off sp e => hF _ (h.there hn b off sp e))

/-- The number that a value is. -/
def numOf : Value → Nat
  | .int _ n => n.toNat
  | _ => 0

theorem small_step (l : List M.Step) (k : Nat) (hk : k < l.length) (h6 : k < 60) : (l.take (k + 1)).all M.Step.small = ((l.take k).all M.Step.small && (l.getD k M.Step.none).small) := by
  rw [List.take_add_one, List.all_append]
  congr 1
  rw [List.getElem?_eq_getElem hk, List.getD_eq_getElem?_getD, List.getElem?_eq_getElem hk]
  simp

theorem small_no (l : List M.Step) (k : Nat) (hk : k < l.length) (h6 : k < 60) (h : (l.getD k M.Step.none).small = false) : M.small l = false := by
  rw [M.small, List.all_eq_false]
  refine ⟨l.getD k M.Step.none, ?_, by rw [h]; simp⟩
  rw [List.getD_eq_getElem?_getD, List.getElem?_eq_getElem hk]
  exact List.mem_take_iff_getElem.2 ⟨k, by omega, rfl⟩

end Go.Proofs.Ytoeighongkchnaa
