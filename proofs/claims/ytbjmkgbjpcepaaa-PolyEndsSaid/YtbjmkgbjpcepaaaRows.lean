/-
  No cell of these rows narrows 'for every input' (looked for: loops, veiled, ifaces, maps, wideKeys, modest, calm, conditions, laid).
  DERIVED. THE GIVEN ROWS OF THIS SEAT. 4 by the template 'for every input the law returns true; each argument reads behind the call as it read before'; 0 by the template 'total and deterministic' (their statements: YtbjmkgbjpcepaaaTotals.lean).
  GIVEN WITH THE SEED: the statements are not yours to turn. If you find one false, say at which input.
  Laid BY PROGRAM, IN A SANDBOX (cutbox-rows.mjs): the forced cells as the released guide's own fill.sh prints them over the translation 0376d96b22359324… (all of the seat's roots in one cut). By AI agents, Wed Nov 11 2026. No macro, syntax, notation, axiom, sorry.
-/
import Derived.Test.YtbjmkgbjpcepaaaChecked
import GoSem.Claim
import GoSem.ClaimJoined
import GoSem.ClaimMapViews
import Derived.JoinedTies
import Derived.KernelRfl
namespace Go.Proofs.Ytbjmkgbjpcepaaa
/- THE CELL 'sum', in the pinned program and in every row, IS THE sha256 OF THE DUMP (.gsa) THAT YtbjmkgbjpcepaaaProg.lean LOADS. Nothing in Lean hashes anything: it is a label: what it is worth is what the hold of that sum in a sandbox is worth. -/
noncomputable def Try.pinned : Pinned := { name := "ytbjmkgbjpcepaaa", sum := "0376d96b223593248b19a57466eeb72a278709ee72f1bf9deacc77070e49e98d", checked := Try.checked }
namespace Rows
def none {H : Type} : Left H := { results := [], args := [] }

/-- 'orloplaw05.PolyTags': WHATEVER THE INPUT: true; the input reads as it did. -/
def polyTagsSpec : ChangeSpec := { name := "polyTags", fn := fun _ => fun
  | [d1, d2] => { results := [.lit (.bool true)], args := [d1, d2] }
  | _ => none }
def polyTagsRow : OpenClaim := { program := "ytbjmkgbjpcepaaa", sum := "0376d96b223593248b19a57466eeb72a278709ee72f1bf9deacc77070e49e98d", func := "orlop/orloplaw05.PolyTags", spec := "polyTags", inPlace := ["math/bits.Add64"], unfollowed := true, recurses := true, apart := false }
def PolyTagsSaid : Prop := polyTagsRow.holds Try.pinned (OpenSpec.ofChange polyTagsSpec)

/-- ITS FALSE NEIGHBOUR: 'it returns false'. Refute it at one input. -/
def polyTagsWrong : ChangeSpec := { name := "polyTags", fn := fun _ => fun
  | [d1, d2] => { results := [.lit (.bool false)], args := [d1, d2] }
  | _ => none }
def PolyTagsWrongFalsely : Prop := polyTagsRow.holds Try.pinned (OpenSpec.ofChange polyTagsWrong)

/-- 'orloplaw05.PolyEnds': WHATEVER THE INPUT: true; the input reads as it did. -/
def polyEndsSpec : ChangeSpec := { name := "polyEnds", fn := fun _ => fun
  | [d1, d2, d3] => { results := [.lit (.bool true)], args := [d1, d2, d3] }
  | _ => none }
def polyEndsRow : OpenClaim := { program := "ytbjmkgbjpcepaaa", sum := "0376d96b223593248b19a57466eeb72a278709ee72f1bf9deacc77070e49e98d", func := "orlop/orloplaw05.PolyEnds", spec := "polyEnds", inPlace := ["math/bits.Add64"], unfollowed := true, recurses := true, apart := false }
def PolyEndsSaid : Prop := polyEndsRow.holds Try.pinned (OpenSpec.ofChange polyEndsSpec)

/-- ITS FALSE NEIGHBOUR: 'it returns false'. Refute it at one input. -/
def polyEndsWrong : ChangeSpec := { name := "polyEnds", fn := fun _ => fun
  | [d1, d2, d3] => { results := [.lit (.bool false)], args := [d1, d2, d3] }
  | _ => none }
def PolyEndsWrongFalsely : Prop := polyEndsRow.holds Try.pinned (OpenSpec.ofChange polyEndsWrong)

/-- 'orloplaw05.PolyPlain': WHATEVER THE INPUT: true; the input reads as it did. -/
def polyPlainSpec : ChangeSpec := { name := "polyPlain", fn := fun _ => fun
  | [d1, d2, d3] => { results := [.lit (.bool true)], args := [d1, d2, d3] }
  | _ => none }
def polyPlainRow : OpenClaim := { program := "ytbjmkgbjpcepaaa", sum := "0376d96b223593248b19a57466eeb72a278709ee72f1bf9deacc77070e49e98d", func := "orlop/orloplaw05.PolyPlain", spec := "polyPlain", inPlace := ["math/bits.Add64"], unfollowed := true, recurses := true, apart := false }
def PolyPlainSaid : Prop := polyPlainRow.holds Try.pinned (OpenSpec.ofChange polyPlainSpec)

/-- ITS FALSE NEIGHBOUR: 'it returns false'. Refute it at one input. -/
def polyPlainWrong : ChangeSpec := { name := "polyPlain", fn := fun _ => fun
  | [d1, d2, d3] => { results := [.lit (.bool false)], args := [d1, d2, d3] }
  | _ => none }
def PolyPlainWrongFalsely : Prop := polyPlainRow.holds Try.pinned (OpenSpec.ofChange polyPlainWrong)

/-- 'orloplaw05.PolyLoose': WHATEVER THE INPUT: true; the input reads as it did. -/
def polyLooseSpec : ChangeSpec := { name := "polyLoose", fn := fun _ => fun
  | [d1, d2, d3] => { results := [.lit (.bool true)], args := [d1, d2, d3] }
  | _ => none }
def polyLooseRow : OpenClaim := { program := "ytbjmkgbjpcepaaa", sum := "0376d96b223593248b19a57466eeb72a278709ee72f1bf9deacc77070e49e98d", func := "orlop/orloplaw05.PolyLoose", spec := "polyLoose", inPlace := ["math/bits.Add64"], unfollowed := true, recurses := true, apart := false }
def PolyLooseSaid : Prop := polyLooseRow.holds Try.pinned (OpenSpec.ofChange polyLooseSpec)

/-- ITS FALSE NEIGHBOUR: 'it returns false'. Refute it at one input. -/
def polyLooseWrong : ChangeSpec := { name := "polyLoose", fn := fun _ => fun
  | [d1, d2, d3] => { results := [.lit (.bool false)], args := [d1, d2, d3] }
  | _ => none }
def PolyLooseWrongFalsely : Prop := polyLooseRow.holds Try.pinned (OpenSpec.ofChange polyLooseWrong)

/- THE SECOND FORM. 'bulk': how many values and letters a reading holds, each counted each time it is reached (what is shared counts as often as it is met; a slice's spare places count too). A statement '..UptoSaid' is the law's where the arguments, and the package variables that the reading takes, are together of bulk at most 1048576: NARROWER than '..Said'. Prove '..Said' where nothing that the law and all that it calls make is longer than what came in: it says more and counts as full. Else prove '..UptoSaid'. A law counts once. -/
mutual
def uptoBulk {H : Type} : DataW H → Nat
  | .lit (.string bytes) => bytes.length + 1
  | .lit _ => 1
  | .nil => 1
  | .ptr d => uptoBulk d + 1
  | .slice elems spare => uptoBulkAll elems + uptoBulkAll spare + 1
  | .agg parts => uptoBulkAll parts + 1
  | .iface _ d => uptoBulk d + 1
  | .map entries => uptoBulkEntries entries + 1
  | .held _ => 1
def uptoBulkAll {H : Type} : List (DataW H) → Nat
  | [] => 0
  | d :: r => uptoBulk d + uptoBulkAll r
def uptoBulkEntries {H : Type} : List (Lit × DataW H) → Nat
  | [] => 0
  | x :: r => uptoBulkEntry x + uptoBulkEntries r
def uptoBulkEntry {H : Type} : Lit × DataW H → Nat
  | (.string bytes, d) => bytes.length + uptoBulk d + 1
  | (_, d) => uptoBulk d + 1
 end
def uptoSmall : (H : Type) → List (DataW H) → Bool := fun _ ds => decide (uptoBulkAll ds ≤ 1048576)
def OpenSpec.upto (s : _root_.Go.ChangeSpec) : _root_.Go.OpenSpec := { _root_.Go.OpenSpec.ofChange s with cond := some uptoSmall }

/-- 'orloplaw05.PolyTags', WHERE WHAT IT READS IS OF BULK AT MOST 1048576: true; the input reads as it did. -/
def polyTagsUptoRow : OpenClaim := { program := "ytbjmkgbjpcepaaa", sum := "0376d96b223593248b19a57466eeb72a278709ee72f1bf9deacc77070e49e98d", func := "orlop/orloplaw05.PolyTags", spec := "polyTags", inPlace := ["math/bits.Add64"], unfollowed := true, recurses := true, apart := false, narrowed := true }
def PolyTagsUptoSaid : Prop := polyTagsUptoRow.holds Try.pinned (OpenSpec.upto polyTagsSpec)

/-- 'orloplaw05.PolyEnds', WHERE WHAT IT READS IS OF BULK AT MOST 1048576: true; the input reads as it did. -/
def polyEndsUptoRow : OpenClaim := { program := "ytbjmkgbjpcepaaa", sum := "0376d96b223593248b19a57466eeb72a278709ee72f1bf9deacc77070e49e98d", func := "orlop/orloplaw05.PolyEnds", spec := "polyEnds", inPlace := ["math/bits.Add64"], unfollowed := true, recurses := true, apart := false, narrowed := true }
def PolyEndsUptoSaid : Prop := polyEndsUptoRow.holds Try.pinned (OpenSpec.upto polyEndsSpec)

/-- 'orloplaw05.PolyPlain', WHERE WHAT IT READS IS OF BULK AT MOST 1048576: true; the input reads as it did. -/
def polyPlainUptoRow : OpenClaim := { program := "ytbjmkgbjpcepaaa", sum := "0376d96b223593248b19a57466eeb72a278709ee72f1bf9deacc77070e49e98d", func := "orlop/orloplaw05.PolyPlain", spec := "polyPlain", inPlace := ["math/bits.Add64"], unfollowed := true, recurses := true, apart := false, narrowed := true }
def PolyPlainUptoSaid : Prop := polyPlainUptoRow.holds Try.pinned (OpenSpec.upto polyPlainSpec)

/-- 'orloplaw05.PolyLoose', WHERE WHAT IT READS IS OF BULK AT MOST 1048576: true; the input reads as it did. -/
def polyLooseUptoRow : OpenClaim := { program := "ytbjmkgbjpcepaaa", sum := "0376d96b223593248b19a57466eeb72a278709ee72f1bf9deacc77070e49e98d", func := "orlop/orloplaw05.PolyLoose", spec := "polyLoose", inPlace := ["math/bits.Add64"], unfollowed := true, recurses := true, apart := false, narrowed := true }
def PolyLooseUptoSaid : Prop := polyLooseUptoRow.holds Try.pinned (OpenSpec.upto polyLooseSpec)

end Rows
end Go.Proofs.Ytbjmkgbjpcepaaa
