/-
  'string(b)' OF BYTES. Conditions: none.
  REGIONS THAT DRAW THEIR ORDER, WHOSE LAST STORES TURN WHAT WAS READ: a predicate of worlds is kept behind each operation but those of a list (stores that wait for all that read); what reads may still be taken first. Nothing of the program. Conditions: as each says.
  ROWS OF ANYTHING THAT ARE OWNED: 'append' onto one as a step of a region that draws, whatever the elements' type; slices of bytes and structs as elements. Conditions: as each says.
-/
import Derived.Test.YtdojalhaklkegaaDoorPn1
import Derived.Laws.BytesArg
import Derived.Test.YtdojalhaklkegaaDoorPn10
import Derived.Test.YtdojalhaklkegaaDoorPn38

namespace Go.Proofs.YtdojalhaklkegaaDoor
open Go.RowKit
set_option linter.unusedVariables false

theorem str_of (bs : List UInt8) : strOfNums (bs.map fun c => (c.toNat : Int)) = ⟨bs.toArray⟩ := by
  rw [strOfNums]
  congr 2
  rw [List.map_map]
  conv => rhs; rw [← List.map_id bs]
  apply List.map_congr_left
  intro c _
  simp

theorem str_run {w : World} {v : Value} {bs : List UInt8} (h : IsB w v bs) (hn : bs ≠ []) : (convert 24 9 v).run Tryd.prog w = .ok (.string ⟨bs.toArray⟩) w := by
  obtain ⟨ao, cap, rfl, h1, h2, h3⟩ := h
  obtain ⟨b, off, rfl, hc⟩ := h3.resolve_left hn
  have := run_convert_bytes_arg (P := Tryd.prog) (w := w) 24 5 Tryd.underlying24 Tryd.underlying5 b off bs.length cap (bs.map fun c => (c.toNat : Int)) (by simp) (fun i hi => by
    rw [hc i hi]
    simp [List.getD_eq_getElem?_getD, hi]) 9 Tryd.underlying9
  rw [str_of] at this
  exact this

/-- 'string(b)'. -/
theorem str_any {w : World} {v : Value} {bs : List UInt8} (h : IsB w v bs) : (convert 24 9 v).run Tryd.prog w = .ok (.string ⟨bs.toArray⟩) w := by
  by_cases hn : bs = []
  · subst hn
    obtain ⟨ao, cap, rfl, h1, h2, h3⟩ := h
    rw [run_convert_bytes_string w 24 9 5 ao _ cap Tryd.underlying24 Tryd.underlying5 Tryd.underlying9]
    cases ao <;> simp [Conv.bytesToString, loadCells] <;> rfl
  · exact str_run h hn

end Go.Proofs.YtdojalhaklkegaaDoor

namespace Go.Proofs.YtdojalhaklkegaaDoor
open Go Go.RowKit
set_option linter.unusedVariables false

section
variable {P : Program} {ops : Array Oper} {Q : Exit → Act → World → Prop} {md : Region.Mode} {S : World → Prop} {Z : List Nat}

/-- Whatever order is picked; S holds behind each operation that is none of Z. -/
def anyT (P : Program) (md : Region.Mode) (ops : Array Oper) (Q : Exit → Act → World → Prop) (S : World → Prop) (Z : List Nat) : Nat → Array Bool → Act → World → Prop
  | 0, listed, a, w => Region.ready md ops listed = [] ∧ Q .normal a w
  | f + 1, listed, a, w =>
    (Region.ready md ops listed = [] → Q .normal a w) ∧
    ∀ i ∈ Region.ready md ops listed, wpOp P ops Q i (fun a' w' => (i ∈ Z ∨ S w') ∧ anyT P md ops Q S Z f (listed.setIfInBounds i true) a' w') a w

/-- Those that may come up now. -/
def ReadyT (P : Program) (md : Region.Mode) (ops : Array Oper) (Q : Exit → Act → World → Prop) (S : World → Prop) (Z : List Nat) (f : Nat) (listed : Array Bool) (a : Act) (w : World) (rs : List Nat) : Prop :=
  ∀ i ∈ rs, wpOp P ops Q i (fun a' w' => (i ∈ Z ∨ S w') ∧ anyT P md ops Q S Z f (listed.setIfInBounds i true) a' w') a w

theorem ReadyT.nil {f : Nat} {listed : Array Bool} {a : Act} {w : World} : ReadyT P md ops Q S Z f listed a w [] := fun _ h => by cases h

theorem ReadyT.cons {f : Nat} {listed : Array Bool} {a : Act} {w : World} {i : Nat} {o : Oper} {rs : List Nat} (ho : ops[i]? = some o)
    (h : ∀ K' : Act → World → Prop, Shut (∀ a w, (i ∈ Z ∨ S w) → anyT P md ops Q S Z f (listed.setIfInBounds i true) a w → K' a w) → if Region.wanted o (yielded ops a.tmps) = true then Oper.wp P o a w K' Q else K' (a.put o.dst undef) w)
    (hs : ReadyT P md ops Q S Z f listed a w rs) : ReadyT P md ops Q S Z f listed a w (i :: rs) := fun j hj => by
  rcases List.mem_cons.1 hj with rfl | hj
  · exact wpOp_step ho fun K' hK => h K' fun a w hS hW => hK a w ⟨hS, hW⟩
  · exact hs j hj

end

end Go.Proofs.YtdojalhaklkegaaDoor

namespace Go.Proofs.YtdojalhaklkegaaDoor
open Go.RowKit
set_option linter.unusedVariables false

end Go.Proofs.YtdojalhaklkegaaDoor
