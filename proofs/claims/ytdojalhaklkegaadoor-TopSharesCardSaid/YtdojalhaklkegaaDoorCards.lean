/-
  DERIVED. GIVEN WITH THE SEED: THE CARDS: each row of YtdojalhaklkegaaDoorRows.lean that lists a variable, with what it lists TIED to the program's text (the seventh form; the later family's looks); each row that meets fmt, with fmt's text TOLD by the authors' own Lean function (tested against real Go, not proved from fmt's source: count such statements apart). THE CARD IS WHAT COUNTS. Prove the row's statement (the work); the ties are given (YtdojalhaklkegaaDoorTie.lean); close each card by the builder's one call (the guide's Derived/Test/ToyasCard.lean, 'card_holds'). Laid BY PROGRAM, IN A SANDBOX (cutbox-door.mjs). By AI agents, Wed Nov 11 2026. No macro, syntax, notation, axiom, sorry.
-/
import Derived.Test.YtdojalhaklkegaaDoorRows
import GoSem.ClaimSeven
namespace Go.Proofs.YtdojalhaklkegaaDoor
namespace Rows

/-- THE TIED CARD OF 'orloptop.TopBoxes'. -/
def topBoxesCard : Claim7 := { stood := { row := topBoxesRow, standIns := [], harness := (true, "930180c1441a5b917a65951d0dabe2eaa7976299fb8c1f4b0a99ab564b278eaf"), looks := false }, kinds := [], alts := [], laidByText := true, laidKinds := [.data], laidTests := true, laidLooks := .later }
def TopBoxesCardSaid : Prop := Claim7.holds Tryd.pinned (.plain (OpenSpec.ofChange topBoxesSpec)) topBoxesCard

/-- THE TIED CARD OF 'orloptop.TopShares'. -/
def topSharesCard : Claim7 := { stood := { row := topSharesRow, standIns := [], harness := (true, "930180c1441a5b917a65951d0dabe2eaa7976299fb8c1f4b0a99ab564b278eaf"), looks := false }, kinds := [], alts := [], laidByText := true, laidKinds := [.data, .data, .data], laidTests := true, laidLooks := .later }
def TopSharesCardSaid : Prop := Claim7.holds Tryd.pinned (.plain (OpenSpec.ofChange topSharesSpec)) topSharesCard

/-- THE TIED CARD OF 'orloptop.TopStreams'. -/
def topStreamsCard : Claim7 := { stood := { row := topStreamsRow, standIns := [], harness := (true, "930180c1441a5b917a65951d0dabe2eaa7976299fb8c1f4b0a99ab564b278eaf"), looks := false }, kinds := [], alts := [], laidByText := true, laidKinds := [.data], laidTests := true, laidLooks := .later }
def TopStreamsCardSaid : Prop := Claim7.holds Tryd.pinned (.plain (OpenSpec.ofChange topStreamsSpec)) topStreamsCard

/-- THE TIED CARD OF 'orloptop.TopKeys'. -/
def topKeysCard : Claim7 := { stood := { row := topKeysRow, standIns := [], harness := (true, "930180c1441a5b917a65951d0dabe2eaa7976299fb8c1f4b0a99ab564b278eaf"), looks := false }, kinds := [], alts := [], laidByText := true, laidKinds := [.data, .data, .data], laidTests := true, laidLooks := .later }
def TopKeysCardSaid : Prop := Claim7.holds Tryd.pinned (.plain (OpenSpec.ofChange topKeysSpec)) topKeysCard

/-- THE TIED CARD OF 'orloplaw18.WrapBack'. -/
def wrapBackCard : Claim7 := { stood := { row := wrapBackRow, standIns := [], harness := (true, "930180c1441a5b917a65951d0dabe2eaa7976299fb8c1f4b0a99ab564b278eaf"), looks := false }, kinds := [], alts := [], laidByText := true, laidKinds := [.data, .data], laidTests := true, laidLooks := .later }
def WrapBackCardSaid : Prop := Claim7.holds Tryd.pinned (.plain (OpenSpec.ofChange wrapBackSpec)) wrapBackCard

/-- THE TIED CARD OF 'orloplaw18.WrapSame'. -/
def wrapSameCard : Claim7 := { stood := { row := wrapSameRow, standIns := [], harness := (true, "930180c1441a5b917a65951d0dabe2eaa7976299fb8c1f4b0a99ab564b278eaf"), looks := false }, kinds := [], alts := [], laidByText := true, laidKinds := [.data, .data], laidTests := true, laidLooks := .later }
def WrapSameCardSaid : Prop := Claim7.holds Tryd.pinned (.plain (OpenSpec.ofChange wrapSameSpec)) wrapSameCard

/-- THE SECOND FORM's CARD OF 'orloptop.TopBoxes'. -/
def topBoxesUptoCard : Claim7 := { stood := { row := topBoxesUptoRow, standIns := [], harness := (true, "930180c1441a5b917a65951d0dabe2eaa7976299fb8c1f4b0a99ab564b278eaf"), looks := false }, kinds := [], alts := [], laidByText := true, laidKinds := [.data], laidTests := true, laidLooks := .later }
def TopBoxesUptoCardSaid : Prop := Claim7.holds Tryd.pinned (.plain (OpenSpec.upto topBoxesSpec)) topBoxesUptoCard

/-- THE SECOND FORM's CARD OF 'orloptop.TopShares'. -/
def topSharesUptoCard : Claim7 := { stood := { row := topSharesUptoRow, standIns := [], harness := (true, "930180c1441a5b917a65951d0dabe2eaa7976299fb8c1f4b0a99ab564b278eaf"), looks := false }, kinds := [], alts := [], laidByText := true, laidKinds := [.data, .data, .data], laidTests := true, laidLooks := .later }
def TopSharesUptoCardSaid : Prop := Claim7.holds Tryd.pinned (.plain (OpenSpec.upto topSharesSpec)) topSharesUptoCard

/-- THE SECOND FORM's CARD OF 'orloptop.TopStreams'. -/
def topStreamsUptoCard : Claim7 := { stood := { row := topStreamsUptoRow, standIns := [], harness := (true, "930180c1441a5b917a65951d0dabe2eaa7976299fb8c1f4b0a99ab564b278eaf"), looks := false }, kinds := [], alts := [], laidByText := true, laidKinds := [.data], laidTests := true, laidLooks := .later }
def TopStreamsUptoCardSaid : Prop := Claim7.holds Tryd.pinned (.plain (OpenSpec.upto topStreamsSpec)) topStreamsUptoCard

/-- THE SECOND FORM's CARD OF 'orloptop.TopKeys'. -/
def topKeysUptoCard : Claim7 := { stood := { row := topKeysUptoRow, standIns := [], harness := (true, "930180c1441a5b917a65951d0dabe2eaa7976299fb8c1f4b0a99ab564b278eaf"), looks := false }, kinds := [], alts := [], laidByText := true, laidKinds := [.data, .data, .data], laidTests := true, laidLooks := .later }
def TopKeysUptoCardSaid : Prop := Claim7.holds Tryd.pinned (.plain (OpenSpec.upto topKeysSpec)) topKeysUptoCard

/-- THE SECOND FORM's CARD OF 'orloplaw18.WrapBack'. -/
def wrapBackUptoCard : Claim7 := { stood := { row := wrapBackUptoRow, standIns := [], harness := (true, "930180c1441a5b917a65951d0dabe2eaa7976299fb8c1f4b0a99ab564b278eaf"), looks := false }, kinds := [], alts := [], laidByText := true, laidKinds := [.data, .data], laidTests := true, laidLooks := .later }
def WrapBackUptoCardSaid : Prop := Claim7.holds Tryd.pinned (.plain (OpenSpec.upto wrapBackSpec)) wrapBackUptoCard

/-- THE SECOND FORM's CARD OF 'orloplaw18.WrapSame'. -/
def wrapSameUptoCard : Claim7 := { stood := { row := wrapSameUptoRow, standIns := [], harness := (true, "930180c1441a5b917a65951d0dabe2eaa7976299fb8c1f4b0a99ab564b278eaf"), looks := false }, kinds := [], alts := [], laidByText := true, laidKinds := [.data, .data], laidTests := true, laidLooks := .later }
def WrapSameUptoCardSaid : Prop := Claim7.holds Tryd.pinned (.plain (OpenSpec.upto wrapSameSpec)) wrapSameUptoCard
end Rows
end Go.Proofs.YtdojalhaklkegaaDoor
