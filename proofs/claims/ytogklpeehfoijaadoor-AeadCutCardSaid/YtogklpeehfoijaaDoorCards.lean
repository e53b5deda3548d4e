/-
  DERIVED. GIVEN WITH THE SEED: THE CARDS: each row of YtogklpeehfoijaaDoorRows.lean that lists a variable, with what it lists TIED to the program's text (the seventh form; the later family's looks); each row that meets fmt, with fmt's text TOLD by the authors' own Lean function (tested against real Go, not proved from fmt's source: count such statements apart). THE CARD IS WHAT COUNTS. Prove the row's statement (the work); the ties are given (YtogklpeehfoijaaDoorTie.lean); close each card by the builder's one call (the guide's Derived/Test/ToyasCard.lean, 'card_holds'). Laid BY PROGRAM, IN A SANDBOX (cutbox-door.mjs). By AI agents, Wed Nov 11 2026. No macro, syntax, notation, axiom, sorry.
-/
import Derived.Test.YtogklpeehfoijaaDoorRows
import GoSem.ClaimSeven
namespace Go.Proofs.YtogklpeehfoijaaDoor
namespace Rows

/-- THE TIED CARD OF 'orloplaw06.AeadSeals'. -/
def aeadSealsCard : Claim7 := { stood := { row := aeadSealsRow, standIns := [], harness := (true, "45a2b1f5b73039d76995244e70f2221c1d1423af360e4a5d73e6269df09a8951"), looks := false }, kinds := [], alts := [], laidByText := true, laidKinds := [.data], laidTests := true, laidLooks := .later }
def AeadSealsCardSaid : Prop := Claim7.holds Tryd.pinned (.plain (OpenSpec.ofChange aeadSealsSpec)) aeadSealsCard

/-- THE TIED CARD OF 'orloplaw06.AeadOpens'. -/
def aeadOpensCard : Claim7 := { stood := { row := aeadOpensRow, standIns := [], harness := (true, "45a2b1f5b73039d76995244e70f2221c1d1423af360e4a5d73e6269df09a8951"), looks := false }, kinds := [], alts := [], laidByText := true, laidKinds := [.data], laidTests := true, laidLooks := .later }
def AeadOpensCardSaid : Prop := Claim7.holds Tryd.pinned (.plain (OpenSpec.ofChange aeadOpensSpec)) aeadOpensCard

/-- THE TIED CARD OF 'orloplaw06.AeadCut'. -/
def aeadCutCard : Claim7 := { stood := { row := aeadCutRow, standIns := [], harness := (true, "45a2b1f5b73039d76995244e70f2221c1d1423af360e4a5d73e6269df09a8951"), looks := false }, kinds := [], alts := [], laidByText := true, laidKinds := [.data], laidTests := true, laidLooks := .later }
def AeadCutCardSaid : Prop := Claim7.holds Tryd.pinned (.plain (OpenSpec.ofChange aeadCutSpec)) aeadCutCard

/-- THE TIED CARD OF 'orloplaw06.AeadHides'. -/
def aeadHidesCard : Claim7 := { stood := { row := aeadHidesRow, standIns := [], harness := (true, "45a2b1f5b73039d76995244e70f2221c1d1423af360e4a5d73e6269df09a8951"), looks := false }, kinds := [], alts := [], laidByText := true, laidKinds := [.data], laidTests := true, laidLooks := .later }
def AeadHidesCardSaid : Prop := Claim7.holds Tryd.pinned (.plain (OpenSpec.ofChange aeadHidesSpec)) aeadHidesCard

/-- THE SECOND FORM's CARD OF 'orloplaw06.AeadSeals'. -/
def aeadSealsUptoCard : Claim7 := { stood := { row := aeadSealsUptoRow, standIns := [], harness := (true, "45a2b1f5b73039d76995244e70f2221c1d1423af360e4a5d73e6269df09a8951"), looks := false }, kinds := [], alts := [], laidByText := true, laidKinds := [.data], laidTests := true, laidLooks := .later }
def AeadSealsUptoCardSaid : Prop := Claim7.holds Tryd.pinned (.plain (OpenSpec.upto aeadSealsSpec)) aeadSealsUptoCard

/-- THE SECOND FORM's CARD OF 'orloplaw06.AeadOpens'. -/
def aeadOpensUptoCard : Claim7 := { stood := { row := aeadOpensUptoRow, standIns := [], harness := (true, "45a2b1f5b73039d76995244e70f2221c1d1423af360e4a5d73e6269df09a8951"), looks := false }, kinds := [], alts := [], laidByText := true, laidKinds := [.data], laidTests := true, laidLooks := .later }
def AeadOpensUptoCardSaid : Prop := Claim7.holds Tryd.pinned (.plain (OpenSpec.upto aeadOpensSpec)) aeadOpensUptoCard

/-- THE SECOND FORM's CARD OF 'orloplaw06.AeadCut'. -/
def aeadCutUptoCard : Claim7 := { stood := { row := aeadCutUptoRow, standIns := [], harness := (true, "45a2b1f5b73039d76995244e70f2221c1d1423af360e4a5d73e6269df09a8951"), looks := false }, kinds := [], alts := [], laidByText := true, laidKinds := [.data], laidTests := true, laidLooks := .later }
def AeadCutUptoCardSaid : Prop := Claim7.holds Tryd.pinned (.plain (OpenSpec.upto aeadCutSpec)) aeadCutUptoCard

/-- THE SECOND FORM's CARD OF 'orloplaw06.AeadHides'. -/
def aeadHidesUptoCard : Claim7 := { stood := { row := aeadHidesUptoRow, standIns := [], harness := (true, "45a2b1f5b73039d76995244e70f2221c1d1423af360e4a5d73e6269df09a8951"), looks := false }, kinds := [], alts := [], laidByText := true, laidKinds := [.data], laidTests := true, laidLooks := .later }
def AeadHidesUptoCardSaid : Prop := Claim7.holds Tryd.pinned (.plain (OpenSpec.upto aeadHidesSpec)) aeadHidesUptoCard
end Rows
end Go.Proofs.YtogklpeehfoijaaDoor
