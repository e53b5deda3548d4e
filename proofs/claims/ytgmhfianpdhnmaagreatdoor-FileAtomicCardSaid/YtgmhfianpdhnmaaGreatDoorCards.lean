/-
  DERIVED. GIVEN WITH THE SEED: THE CARDS: each row of YtgmhfianpdhnmaaGreatDoorRows.lean that lists a variable, with what it lists TIED to the program's text (the seventh form; the later family's looks); each row that meets fmt, with fmt's text TOLD by the authors' own Lean function (tested against real Go, not proved from fmt's source: count such statements apart). THE CARD IS WHAT COUNTS. Prove the row's statement (the work); the ties are given (YtgmhfianpdhnmaaGreatDoorTie.lean); close each card by the builder's one call (the guide's Derived/Test/ToyasCard.lean, 'card_holds'). Laid BY PROGRAM, IN A SANDBOX (cutbox-door.mjs). By AI agents, Wed Nov 11 2026. No macro, syntax, notation, axiom, sorry.
-/
import Derived.Test.YtgmhfianpdhnmaaGreatDoorRows
import GoSem.ClaimSeven
namespace Go.Proofs.YtgmhfianpdhnmaaGreatDoor
namespace Rows

/-- THE TIED CARD OF 'orloplaw11.FilePlays'. -/
def filePlaysCard : Claim7 := { stood := { row := filePlaysRow, standIns := [], harness := (true, "c56298efc0d68f05f7191310a0ec523d3f0c19b93e64a05a84045249c311885c"), looks := true }, kinds := [], alts := [], laidByText := true, laidKinds := [.data, .data], laidTests := true, laidLooks := .later }
def FilePlaysCardSaid : Prop := Claim7.holds Tryz.pinned (.plain (OpenSpec.ofChange filePlaysSpec)) filePlaysCard

/-- THE TIED CARD OF 'orloplaw11.FileAtomic'. -/
def fileAtomicCard : Claim7 := { stood := { row := fileAtomicRow, standIns := [], harness := (true, "c56298efc0d68f05f7191310a0ec523d3f0c19b93e64a05a84045249c311885c"), looks := true }, kinds := [], alts := [], laidByText := true, laidKinds := [.data, .data], laidTests := true, laidLooks := .later }
def FileAtomicCardSaid : Prop := Claim7.holds Tryz.pinned (.plain (OpenSpec.ofChange fileAtomicSpec)) fileAtomicCard

/-- THE TIED CARD OF 'orloplaw11.FileErases'. -/
def fileErasesCard : Claim7 := { stood := { row := fileErasesRow, standIns := [], harness := (true, "c56298efc0d68f05f7191310a0ec523d3f0c19b93e64a05a84045249c311885c"), looks := true }, kinds := [], alts := [], laidByText := true, laidKinds := [.data, .data], laidTests := true, laidLooks := .later }
def FileErasesCardSaid : Prop := Claim7.holds Tryz.pinned (.plain (OpenSpec.ofChange fileErasesSpec)) fileErasesCard

/-- THE TIED CARD OF 'orloplaw11.FileOpens'. -/
def fileOpensCard : Claim7 := { stood := { row := fileOpensRow, standIns := [], harness := (true, "c56298efc0d68f05f7191310a0ec523d3f0c19b93e64a05a84045249c311885c"), looks := true }, kinds := [], alts := [], laidByText := true, laidKinds := [.data, .data], laidTests := true, laidLooks := .later }
def FileOpensCardSaid : Prop := Claim7.holds Tryz.pinned (.plain (OpenSpec.ofChange fileOpensSpec)) fileOpensCard

/-- THE TIED CARD OF 'orloplaw11.FileOne'. -/
def fileOneCard : Claim7 := { stood := { row := fileOneRow, standIns := [], harness := (true, "c56298efc0d68f05f7191310a0ec523d3f0c19b93e64a05a84045249c311885c"), looks := true }, kinds := [], alts := [], laidByText := true, laidKinds := [.data, .data], laidTests := true, laidLooks := .later }
def FileOneCardSaid : Prop := Claim7.holds Tryz.pinned (.plain (OpenSpec.ofChange fileOneSpec)) fileOneCard

/-- THE SECOND FORM's CARD OF 'orloplaw11.FilePlays'. -/
def filePlaysUptoCard : Claim7 := { stood := { row := filePlaysUptoRow, standIns := [], harness := (true, "c56298efc0d68f05f7191310a0ec523d3f0c19b93e64a05a84045249c311885c"), looks := true }, kinds := [], alts := [], laidByText := true, laidKinds := [.data, .data], laidTests := true, laidLooks := .later }
def FilePlaysUptoCardSaid : Prop := Claim7.holds Tryz.pinned (.plain (OpenSpec.upto filePlaysSpec)) filePlaysUptoCard

/-- THE SECOND FORM's CARD OF 'orloplaw11.FileAtomic'. -/
def fileAtomicUptoCard : Claim7 := { stood := { row := fileAtomicUptoRow, standIns := [], harness := (true, "c56298efc0d68f05f7191310a0ec523d3f0c19b93e64a05a84045249c311885c"), looks := true }, kinds := [], alts := [], laidByText := true, laidKinds := [.data, .data], laidTests := true, laidLooks := .later }
def FileAtomicUptoCardSaid : Prop := Claim7.holds Tryz.pinned (.plain (OpenSpec.upto fileAtomicSpec)) fileAtomicUptoCard

/-- THE SECOND FORM's CARD OF 'orloplaw11.FileErases'. -/
def fileErasesUptoCard : Claim7 := { stood := { row := fileErasesUptoRow, standIns := [], harness := (true, "c56298efc0d68f05f7191310a0ec523d3f0c19b93e64a05a84045249c311885c"), looks := true }, kinds := [], alts := [], laidByText := true, laidKinds := [.data, .data], laidTests := true, laidLooks := .later }
def FileErasesUptoCardSaid : Prop := Claim7.holds Tryz.pinned (.plain (OpenSpec.upto fileErasesSpec)) fileErasesUptoCard

/-- THE SECOND FORM's CARD OF 'orloplaw11.FileOpens'. -/
def fileOpensUptoCard : Claim7 := { stood := { row := fileOpensUptoRow, standIns := [], harness := (true, "c56298efc0d68f05f7191310a0ec523d3f0c19b93e64a05a84045249c311885c"), looks := true }, kinds := [], alts := [], laidByText := true, laidKinds := [.data, .data], laidTests := true, laidLooks := .later }
def FileOpensUptoCardSaid : Prop := Claim7.holds Tryz.pinned (.plain (OpenSpec.upto fileOpensSpec)) fileOpensUptoCard

/-- THE SECOND FORM's CARD OF 'orloplaw11.FileOne'. -/
def fileOneUptoCard : Claim7 := { stood := { row := fileOneUptoRow, standIns := [], harness := (true, "c56298efc0d68f05f7191310a0ec523d3f0c19b93e64a05a84045249c311885c"), looks := true }, kinds := [], alts := [], laidByText := true, laidKinds := [.data, .data], laidTests := true, laidLooks := .later }
def FileOneUptoCardSaid : Prop := Claim7.holds Tryz.pinned (.plain (OpenSpec.upto fileOneSpec)) fileOneUptoCard
end Rows
end Go.Proofs.YtgmhfianpdhnmaaGreatDoor
