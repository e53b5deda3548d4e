/-
  NARROWER THAN 'FOR EVERY INPUT', by the rows' own cells (each row's printed sentence says how): ChachaBlocks: laid · ChachaTexts: laid · ChachaParts: laid · ChachaStream: laid.
  DERIVED. THE GIVEN ROWS OF THIS SEAT. 4 by the template 'for every input the law returns true; each argument reads behind the call as it read before'; 0 by the template 'total and deterministic' (their statements: YtaechnhnhfgloaaDoorTotals.lean).
  GIVEN WITH THE SEED: the statements are not yours to turn. If you find one false, say at which input.
  Laid BY PROGRAM, IN A SANDBOX (cutbox-rows.mjs): the forced cells as the released guide's own fill.sh prints them over the translation 428e64795d4c258f… (all of the seat's roots in one cut). By AI agents, Wed Nov 11 2026. No macro, syntax, notation, axiom, sorry.
-/
import Derived.Test.YtaechnhnhfgloaaDoorChecked
import GoSem.Claim
import GoSem.ClaimJoined
import GoSem.ClaimMapViews
import Derived.JoinedTies
import Derived.KernelRfl
namespace Go.Proofs.YtaechnhnhfgloaaDoor
/- THE CELL 'sum', in the pinned program and in every row, IS THE sha256 OF THE DUMP (.gsa) THAT YtaechnhnhfgloaaDoorProg.lean LOADS. Nothing in Lean hashes anything: it is a label: what it is worth is what the hold of that sum in a sandbox is worth. -/
noncomputable def Tryd.pinned : Pinned := { name := "ytaechnhnhfgloaadoor", sum := "428e64795d4c258f5d89d709306aad431acdbfb4572894a0253f538c5539548f", checked := Tryd.checked }
namespace Rows
def none {H : Type} : Left H := { results := [], args := [] }

/- WHAT THE LISTED PACKAGE-LEVEL VARIABLES READ AS WHEN THE CALL BEGINS. Each datum BY PROGRAM (the guide's laid-datum.mjs) off the statement by which the dump's own 'gosem.cut.vars' lays the variable. In a bare row this is a premise. The card (YtaechnhnhfgloaaDoorCards.lean) ties it to the program's text. -/
def laid_orlop_chacha_places {H : Type} : DataW H := .agg [.agg [.lit (.int .i64 0), .lit (.int .i64 4), .lit (.int .i64 8), .lit (.int .i64 12)], .agg [.lit (.int .i64 1), .lit (.int .i64 5), .lit (.int .i64 9), .lit (.int .i64 13)], .agg [.lit (.int .i64 2), .lit (.int .i64 6), .lit (.int .i64 10), .lit (.int .i64 14)], .agg [.lit (.int .i64 3), .lit (.int .i64 7), .lit (.int .i64 11), .lit (.int .i64 15)], .agg [.lit (.int .i64 0), .lit (.int .i64 5), .lit (.int .i64 10), .lit (.int .i64 15)], .agg [.lit (.int .i64 1), .lit (.int .i64 6), .lit (.int .i64 11), .lit (.int .i64 12)], .agg [.lit (.int .i64 2), .lit (.int .i64 7), .lit (.int .i64 8), .lit (.int .i64 13)], .agg [.lit (.int .i64 3), .lit (.int .i64 4), .lit (.int .i64 9), .lit (.int .i64 14)]]

/-- 'orloplaw04.ChachaBlocks': WHATEVER THE INPUT: true; the input reads as it did. -/
def chachaBlocksSpec : ChangeSpec := { name := "chachaBlocks", fn := fun _ => fun
  | [d1, d2, d3] => { results := [.lit (.bool true)], args := [d1, d2, d3] }
  | _ => none }
def chachaBlocksRow : OpenClaim := { program := "ytaechnhnhfgloaadoor", sum := "428e64795d4c258f5d89d709306aad431acdbfb4572894a0253f538c5539548f", func := "orlop/orloplaw04.ChachaBlocks", spec := "chachaBlocks", named := ["orlop/chacha.places"], apart := false, laid := [("orlop/chacha.places", laid_orlop_chacha_places)] }
def ChachaBlocksSaid : Prop := chachaBlocksRow.holds Tryd.pinned (OpenSpec.ofChange chachaBlocksSpec)

/-- ITS FALSE NEIGHBOUR: 'it returns false'. Refute it at one input. -/
def chachaBlocksWrong : ChangeSpec := { name := "chachaBlocks", fn := fun _ => fun
  | [d1, d2, d3] => { results := [.lit (.bool false)], args := [d1, d2, d3] }
  | _ => none }
def ChachaBlocksWrongFalsely : Prop := chachaBlocksRow.holds Tryd.pinned (OpenSpec.ofChange chachaBlocksWrong)

/-- 'orloplaw04.ChachaTexts': WHATEVER THE INPUT: true; the input reads as it did. -/
def chachaTextsSpec : ChangeSpec := { name := "chachaTexts", fn := fun _ => fun
  | [d] => { results := [.lit (.bool true)], args := [d] }
  | _ => none }
def chachaTextsRow : OpenClaim := { program := "ytaechnhnhfgloaadoor", sum := "428e64795d4c258f5d89d709306aad431acdbfb4572894a0253f538c5539548f", func := "orlop/orloplaw04.ChachaTexts", spec := "chachaTexts", unfollowed := true, recurses := true, named := ["orlop/chacha.places"], apart := false, laid := [("orlop/chacha.places", laid_orlop_chacha_places)] }
def ChachaTextsSaid : Prop := chachaTextsRow.holds Tryd.pinned (OpenSpec.ofChange chachaTextsSpec)

/-- ITS FALSE NEIGHBOUR: 'it returns false'. Refute it at one input. -/
def chachaTextsWrong : ChangeSpec := { name := "chachaTexts", fn := fun _ => fun
  | [d] => { results := [.lit (.bool false)], args := [d] }
  | _ => none }
def ChachaTextsWrongFalsely : Prop := chachaTextsRow.holds Tryd.pinned (OpenSpec.ofChange chachaTextsWrong)

/-- 'orloplaw04.ChachaParts': WHATEVER THE INPUT: true; the input reads as it did. -/
def chachaPartsSpec : ChangeSpec := { name := "chachaParts", fn := fun _ => fun
  | [d1, d2] => { results := [.lit (.bool true)], args := [d1, d2] }
  | _ => none }
def chachaPartsRow : OpenClaim := { program := "ytaechnhnhfgloaadoor", sum := "428e64795d4c258f5d89d709306aad431acdbfb4572894a0253f538c5539548f", func := "orlop/orloplaw04.ChachaParts", spec := "chachaParts", unfollowed := true, recurses := true, named := ["orlop/chacha.places"], apart := false, laid := [("orlop/chacha.places", laid_orlop_chacha_places)] }
def ChachaPartsSaid : Prop := chachaPartsRow.holds Tryd.pinned (OpenSpec.ofChange chachaPartsSpec)

/-- ITS FALSE NEIGHBOUR: 'it returns false'. Refute it at one input. -/
def chachaPartsWrong : ChangeSpec := { name := "chachaParts", fn := fun _ => fun
  | [d1, d2] => { results := [.lit (.bool false)], args := [d1, d2] }
  | _ => none }
def ChachaPartsWrongFalsely : Prop := chachaPartsRow.holds Tryd.pinned (OpenSpec.ofChange chachaPartsWrong)

/-- 'orloplaw04.ChachaStream': WHATEVER THE INPUT: true; the input reads as it did. -/
def chachaStreamSpec : ChangeSpec := { name := "chachaStream", fn := fun _ => fun
  | [d1, d2] => { results := [.lit (.bool true)], args := [d1, d2] }
  | _ => none }
def chachaStreamRow : OpenClaim := { program := "ytaechnhnhfgloaadoor", sum := "428e64795d4c258f5d89d709306aad431acdbfb4572894a0253f538c5539548f", func := "orlop/orloplaw04.ChachaStream", spec := "chachaStream", unfollowed := true, recurses := true, named := ["orlop/chacha.places"], apart := false, laid := [("orlop/chacha.places", laid_orlop_chacha_places)] }
def ChachaStreamSaid : Prop := chachaStreamRow.holds Tryd.pinned (OpenSpec.ofChange chachaStreamSpec)

/-- ITS FALSE NEIGHBOUR: 'it returns false'. Refute it at one input. -/
def chachaStreamWrong : ChangeSpec := { name := "chachaStream", fn := fun _ => fun
  | [d1, d2] => { results := [.lit (.bool false)], args := [d1, d2] }
  | _ => none }
def ChachaStreamWrongFalsely : Prop := chachaStreamRow.holds Tryd.pinned (OpenSpec.ofChange chachaStreamWrong)

/- THE SECOND FORM. 'bulk': how many values and letters a reading holds, each counted each time it is reached (what is shared counts as often as it is met; a slice's spare places count too). A statement '..UptoSaid' is the law's where the arguments, and the package variables that the reading takes, are together of bulk at most 1048576: NARROWER than '..Said'. Prove '..Said' where nothing that the law and all that it calls make is longer than what came in: it says more and counts as full. Else prove '..UptoSaid'. A law counts once. -/
mutual
def uptoBulk {H : Type} : DataW H → Nat
  | .lit (.string bytes) => bytes.length + 1
  | .lit _ => 1
  | .nil => 1
  | .ptr d => uptoBulk d + 1
  | .slice elems spare => uptoBulkAll elems + uptoBulkAll spare + 1
  | .agg parts => uptoBulkAll parts + 1
  | .iface _ d => uptoBulk d + 1
  | .map entries => uptoBulkEntries entries + 1
  | .held _ => 1
def uptoBulkAll {H : Type} : List (DataW H) → Nat
  | [] => 0
  | d :: r => uptoBulk d + uptoBulkAll r
def uptoBulkEntries {H : Type} : List (Lit × DataW H) → Nat
  | [] => 0
  | x :: r => uptoBulkEntry x + uptoBulkEntries r
def uptoBulkEntry {H : Type} : Lit × DataW H → Nat
  | (.string bytes, d) => bytes.length + uptoBulk d + 1
  | (_, d) => uptoBulk d + 1
 end
def uptoSmall : (H : Type) → List (DataW H) → Bool := fun _ ds => decide (uptoBulkAll ds ≤ 1048576)
def OpenSpec.upto (s : _root_.Go.ChangeSpec) : _root_.Go.OpenSpec := { _root_.Go.OpenSpec.ofChange s with cond := some uptoSmall }

/-- 'orloplaw04.ChachaBlocks', WHERE WHAT IT READS IS OF BULK AT MOST 1048576: true; the input reads as it did. -/
def chachaBlocksUptoRow : OpenClaim := { program := "ytaechnhnhfgloaadoor", sum := "428e64795d4c258f5d89d709306aad431acdbfb4572894a0253f538c5539548f", func := "orlop/orloplaw04.ChachaBlocks", spec := "chachaBlocks", named := ["orlop/chacha.places"], apart := false, laid := [("orlop/chacha.places", laid_orlop_chacha_places)], narrowed := true }
def ChachaBlocksUptoSaid : Prop := chachaBlocksUptoRow.holds Tryd.pinned (OpenSpec.upto chachaBlocksSpec)

/-- 'orloplaw04.ChachaTexts', WHERE WHAT IT READS IS OF BULK AT MOST 1048576: true; the input reads as it did. -/
def chachaTextsUptoRow : OpenClaim := { program := "ytaechnhnhfgloaadoor", sum := "428e64795d4c258f5d89d709306aad431acdbfb4572894a0253f538c5539548f", func := "orlop/orloplaw04.ChachaTexts", spec := "chachaTexts", unfollowed := true, recurses := true, named := ["orlop/chacha.places"], apart := false, laid := [("orlop/chacha.places", laid_orlop_chacha_places)], narrowed := true }
def ChachaTextsUptoSaid : Prop := chachaTextsUptoRow.holds Tryd.pinned (OpenSpec.upto chachaTextsSpec)

/-- 'orloplaw04.ChachaParts', WHERE WHAT IT READS IS OF BULK AT MOST 1048576: true; the input reads as it did. -/
def chachaPartsUptoRow : OpenClaim := { program := "ytaechnhnhfgloaadoor", sum := "428e64795d4c258f5d89d709306aad431acdbfb4572894a0253f538c5539548f", func := "orlop/orloplaw04.ChachaParts", spec := "chachaParts", unfollowed := true, recurses := true, named := ["orlop/chacha.places"], apart := false, laid := [("orlop/chacha.places", laid_orlop_chacha_places)], narrowed := true }
def ChachaPartsUptoSaid : Prop := chachaPartsUptoRow.holds Tryd.pinned (OpenSpec.upto chachaPartsSpec)

/-- 'orloplaw04.ChachaStream', WHERE WHAT IT READS IS OF BULK AT MOST 1048576: true; the input reads as it did. -/
def chachaStreamUptoRow : OpenClaim := { program := "ytaechnhnhfgloaadoor", sum := "428e64795d4c258f5d89d709306aad431acdbfb4572894a0253f538c5539548f", func := "orlop/orloplaw04.ChachaStream", spec := "chachaStream", unfollowed := true, recurses := true, named := ["orlop/chacha.places"], apart := false, laid := [("orlop/chacha.places", laid_orlop_chacha_places)], narrowed := true }
def ChachaStreamUptoSaid : Prop := chachaStreamUptoRow.holds Tryd.pinned (OpenSpec.upto chachaStreamSpec)

end Rows
end Go.Proofs.YtaechnhnhfgloaaDoor
