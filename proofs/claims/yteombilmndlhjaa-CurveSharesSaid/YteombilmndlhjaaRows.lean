/-
  No cell of these rows narrows 'for every input' (looked for: loops, veiled, ifaces, maps, wideKeys, modest, calm, conditions, laid).
  DERIVED. THE GIVEN ROWS OF THIS SEAT. 4 by the template 'for every input the law returns true; each argument reads behind the call as it read before'; 0 by the template 'total and deterministic' (their statements: YteombilmndlhjaaTotals.lean).
  GIVEN WITH THE SEED: the statements are not yours to turn. If you find one false, say at which input.
  Laid BY PROGRAM, IN A SANDBOX (cutbox-rows.mjs): the forced cells as the released guide's own fill.sh prints them over the translation 7dd830025bceef45… (all of the seat's roots in one cut). By AI agents, Wed Nov 11 2026. No macro, syntax, notation, axiom, sorry.
-/
import Derived.Test.YteombilmndlhjaaChecked
import GoSem.Claim
import GoSem.ClaimJoined
import GoSem.ClaimMapViews
import Derived.JoinedTies
import Derived.KernelRfl
namespace Go.Proofs.Yteombilmndlhjaa
/- THE CELL 'sum', in the pinned program and in every row, IS THE sha256 OF THE DUMP (.gsa) THAT YteombilmndlhjaaProg.lean LOADS. Nothing in Lean hashes anything: it is a label: what it is worth is what the hold of that sum in a sandbox is worth. -/
noncomputable def Try.pinned : Pinned := { name := "yteombilmndlhjaa", sum := "7dd830025bceef45970518f2d0f13f118b659eb0387b549a846c7c54cfbbc4a0", checked := Try.checked }
namespace Rows
def none {H : Type} : Left H := { results := [], args := [] }

/-- 'orloplaw08.CurveShares': WHATEVER THE INPUT: true; the input reads as it did. -/
def curveSharesSpec : ChangeSpec := { name := "curveShares", fn := fun _ => fun
  | [d1, d2] => { results := [.lit (.bool true)], args := [d1, d2] }
  | _ => none }
def curveSharesRow : OpenClaim := { program := "yteombilmndlhjaa", sum := "7dd830025bceef45970518f2d0f13f118b659eb0387b549a846c7c54cfbbc4a0", func := "orlop/orloplaw08.CurveShares", spec := "curveShares", inPlace := ["math/bits.Add64"], apart := false }
def CurveSharesSaid : Prop := curveSharesRow.holds Try.pinned (OpenSpec.ofChange curveSharesSpec)

/-- ITS FALSE NEIGHBOUR: 'it returns false'. Refute it at one input. -/
def curveSharesWrong : ChangeSpec := { name := "curveShares", fn := fun _ => fun
  | [d1, d2] => { results := [.lit (.bool false)], args := [d1, d2] }
  | _ => none }
def CurveSharesWrongFalsely : Prop := curveSharesRow.holds Try.pinned (OpenSpec.ofChange curveSharesWrong)

/-- 'orloplaw08.CurvePoints': WHATEVER THE INPUT: true; the input reads as it did. -/
def curvePointsSpec : ChangeSpec := { name := "curvePoints", fn := fun _ => fun
  | [d] => { results := [.lit (.bool true)], args := [d] }
  | _ => none }
def curvePointsRow : OpenClaim := { program := "yteombilmndlhjaa", sum := "7dd830025bceef45970518f2d0f13f118b659eb0387b549a846c7c54cfbbc4a0", func := "orlop/orloplaw08.CurvePoints", spec := "curvePoints", inPlace := ["math/bits.Add64"], apart := false }
def CurvePointsSaid : Prop := curvePointsRow.holds Try.pinned (OpenSpec.ofChange curvePointsSpec)

/-- ITS FALSE NEIGHBOUR: 'it returns false'. Refute it at one input. -/
def curvePointsWrong : ChangeSpec := { name := "curvePoints", fn := fun _ => fun
  | [d] => { results := [.lit (.bool false)], args := [d] }
  | _ => none }
def CurvePointsWrongFalsely : Prop := curvePointsRow.holds Try.pinned (OpenSpec.ofChange curvePointsWrong)

/-- 'orloplaw08.CurveLoose': WHATEVER THE INPUT: true; the input reads as it did. -/
def curveLooseSpec : ChangeSpec := { name := "curveLoose", fn := fun _ => fun
  | [d1, d2, d3] => { results := [.lit (.bool true)], args := [d1, d2, d3] }
  | _ => none }
def curveLooseRow : OpenClaim := { program := "yteombilmndlhjaa", sum := "7dd830025bceef45970518f2d0f13f118b659eb0387b549a846c7c54cfbbc4a0", func := "orlop/orloplaw08.CurveLoose", spec := "curveLoose", inPlace := ["math/bits.Add64"], apart := false }
def CurveLooseSaid : Prop := curveLooseRow.holds Try.pinned (OpenSpec.ofChange curveLooseSpec)

/-- ITS FALSE NEIGHBOUR: 'it returns false'. Refute it at one input. -/
def curveLooseWrong : ChangeSpec := { name := "curveLoose", fn := fun _ => fun
  | [d1, d2, d3] => { results := [.lit (.bool false)], args := [d1, d2, d3] }
  | _ => none }
def CurveLooseWrongFalsely : Prop := curveLooseRow.holds Try.pinned (OpenSpec.ofChange curveLooseWrong)

/-- 'orloplaw08.CurveClamped': WHATEVER THE INPUT: true; the input reads as it did. -/
def curveClampedSpec : ChangeSpec := { name := "curveClamped", fn := fun _ => fun
  | [d1, d2] => { results := [.lit (.bool true)], args := [d1, d2] }
  | _ => none }
def curveClampedRow : OpenClaim := { program := "yteombilmndlhjaa", sum := "7dd830025bceef45970518f2d0f13f118b659eb0387b549a846c7c54cfbbc4a0", func := "orlop/orloplaw08.CurveClamped", spec := "curveClamped", inPlace := ["math/bits.Add64"], apart := false }
def CurveClampedSaid : Prop := curveClampedRow.holds Try.pinned (OpenSpec.ofChange curveClampedSpec)

/-- ITS FALSE NEIGHBOUR: 'it returns false'. Refute it at one input. -/
def curveClampedWrong : ChangeSpec := { name := "curveClamped", fn := fun _ => fun
  | [d1, d2] => { results := [.lit (.bool false)], args := [d1, d2] }
  | _ => none }
def CurveClampedWrongFalsely : Prop := curveClampedRow.holds Try.pinned (OpenSpec.ofChange curveClampedWrong)

/- THE SECOND FORM. 'bulk': how many values and letters a reading holds, each counted each time it is reached (what is shared counts as often as it is met; a slice's spare places count too). A statement '..UptoSaid' is the law's where the arguments, and the package variables that the reading takes, are together of bulk at most 1048576: NARROWER than '..Said'. Prove '..Said' where nothing that the law and all that it calls make is longer than what came in: it says more and counts as full. Else prove '..UptoSaid'. A law counts once. -/
mutual
def uptoBulk {H : Type} : DataW H → Nat
  | .lit (.string bytes) => bytes.length + 1
  | .lit _ => 1
  | .nil => 1
  | .ptr d => uptoBulk d + 1
  | .slice elems spare => uptoBulkAll elems + uptoBulkAll spare + 1
  | .agg parts => uptoBulkAll parts + 1
  | .iface _ d => uptoBulk d + 1
  | .map entries => uptoBulkEntries entries + 1
  | .held _ => 1
def uptoBulkAll {H : Type} : List (DataW H) → Nat
  | [] => 0
  | d :: r => uptoBulk d + uptoBulkAll r
def uptoBulkEntries {H : Type} : List (Lit × DataW H) → Nat
  | [] => 0
  | x :: r => uptoBulkEntry x + uptoBulkEntries r
def uptoBulkEntry {H : Type} : Lit × DataW H → Nat
  | (.string bytes, d) => bytes.length + uptoBulk d + 1
  | (_, d) => uptoBulk d + 1
 end
def uptoSmall : (H : Type) → List (DataW H) → Bool := fun _ ds => decide (uptoBulkAll ds ≤ 1048576)
def OpenSpec.upto (s : _root_.Go.ChangeSpec) : _root_.Go.OpenSpec := { _root_.Go.OpenSpec.ofChange s with cond := some uptoSmall }

/-- 'orloplaw08.CurveShares', WHERE WHAT IT READS IS OF BULK AT MOST 1048576: true; the input reads as it did. -/
def curveSharesUptoRow : OpenClaim := { program := "yteombilmndlhjaa", sum := "7dd830025bceef45970518f2d0f13f118b659eb0387b549a846c7c54cfbbc4a0", func := "orlop/orloplaw08.CurveShares", spec := "curveShares", inPlace := ["math/bits.Add64"], apart := false, narrowed := true }
def CurveSharesUptoSaid : Prop := curveSharesUptoRow.holds Try.pinned (OpenSpec.upto curveSharesSpec)

/-- 'orloplaw08.CurvePoints', WHERE WHAT IT READS IS OF BULK AT MOST 1048576: true; the input reads as it did. -/
def curvePointsUptoRow : OpenClaim := { program := "yteombilmndlhjaa", sum := "7dd830025bceef45970518f2d0f13f118b659eb0387b549a846c7c54cfbbc4a0", func := "orlop/orloplaw08.CurvePoints", spec := "curvePoints", inPlace := ["math/bits.Add64"], apart := false, narrowed := true }
def CurvePointsUptoSaid : Prop := curvePointsUptoRow.holds Try.pinned (OpenSpec.upto curvePointsSpec)

/-- 'orloplaw08.CurveLoose', WHERE WHAT IT READS IS OF BULK AT MOST 1048576: true; the input reads as it did. -/
def curveLooseUptoRow : OpenClaim := { program := "yteombilmndlhjaa", sum := "7dd830025bceef45970518f2d0f13f118b659eb0387b549a846c7c54cfbbc4a0", func := "orlop/orloplaw08.CurveLoose", spec := "curveLoose", inPlace := ["math/bits.Add64"], apart := false, narrowed := true }
def CurveLooseUptoSaid : Prop := curveLooseUptoRow.holds Try.pinned (OpenSpec.upto curveLooseSpec)

/-- 'orloplaw08.CurveClamped', WHERE WHAT IT READS IS OF BULK AT MOST 1048576: true; the input reads as it did. -/
def curveClampedUptoRow : OpenClaim := { program := "yteombilmndlhjaa", sum := "7dd830025bceef45970518f2d0f13f118b659eb0387b549a846c7c54cfbbc4a0", func := "orlop/orloplaw08.CurveClamped", spec := "curveClamped", inPlace := ["math/bits.Add64"], apart := false, narrowed := true }
def CurveClampedUptoSaid : Prop := curveClampedUptoRow.holds Try.pinned (OpenSpec.upto curveClampedSpec)

end Rows
end Go.Proofs.Yteombilmndlhjaa
