/-
  DERIVED. GIVEN WITH THE SEED: THE CARDS: each row of YtmheaefpbebgfaaDoorRows.lean that lists a variable, with what it lists TIED to the program's text (the seventh form; the later family's looks); each row that meets fmt, with fmt's text TOLD by the authors' own Lean function (tested against real Go, not proved from fmt's source: count such statements apart). THE CARD IS WHAT COUNTS. Prove the row's statement (the work); the ties are given (YtmheaefpbebgfaaDoorTie.lean); close each card by the builder's one call (the guide's Derived/Test/ToyasCard.lean, 'card_holds'). Laid BY PROGRAM, IN A SANDBOX (cutbox-door.mjs). By AI agents, Wed Nov 11 2026. No macro, syntax, notation, axiom, sorry.
-/
import Derived.Test.YtmheaefpbebgfaaDoorRows
import GoSem.ClaimSeven
namespace Go.Proofs.YtmheaefpbebgfaaDoor
namespace Rows

/-- THE TIED CARD OF 'orloplaw14.B64Texts'. -/
def b64TextsCard : Claim7 := { stood := { row := b64TextsRow, standIns := [], harness := (true, "e4bacbda6d362d83b6922599e66be1108ff7943bafb6d8e193adb31a7e87993a"), looks := false }, kinds := [], alts := [], laidByText := true, laidKinds := [.data, .pinned], laidTests := true, laidLooks := .later }
def B64TextsCardSaid : Prop := Claim7.holds Tryd.pinned (.plain (OpenSpec.ofChange b64TextsSpec)) b64TextsCard

/-- THE TIED CARD OF 'orloplaw14.B64Reads'. -/
def b64ReadsCard : Claim7 := { stood := { row := b64ReadsRow, standIns := [], harness := (true, "e4bacbda6d362d83b6922599e66be1108ff7943bafb6d8e193adb31a7e87993a"), looks := false }, kinds := [], alts := [], laidByText := true, laidKinds := [.data, .pinned], laidTests := true, laidLooks := .later }
def B64ReadsCardSaid : Prop := Claim7.holds Tryd.pinned (.plain (OpenSpec.ofChange b64ReadsSpec)) b64ReadsCard

/-- THE TIED CARD OF 'orloplaw14.B64Joins'. -/
def b64JoinsCard : Claim7 := { stood := { row := b64JoinsRow, standIns := [], harness := (true, "e4bacbda6d362d83b6922599e66be1108ff7943bafb6d8e193adb31a7e87993a"), looks := false }, kinds := [], alts := [], laidByText := true, laidKinds := [.data, .pinned], laidTests := true, laidLooks := .later }
def B64JoinsCardSaid : Prop := Claim7.holds Tryd.pinned (.plain (OpenSpec.ofChange b64JoinsSpec)) b64JoinsCard

/-- THE TIED CARD OF 'orloplaw14.B64Turned'. -/
def b64TurnedCard : Claim7 := { stood := { row := b64TurnedRow, standIns := [], harness := (true, "e4bacbda6d362d83b6922599e66be1108ff7943bafb6d8e193adb31a7e87993a"), looks := false }, kinds := [], alts := [], laidByText := true, laidKinds := [.data, .pinned], laidTests := true, laidLooks := .later }
def B64TurnedCardSaid : Prop := Claim7.holds Tryd.pinned (.plain (OpenSpec.ofChange b64TurnedSpec)) b64TurnedCard

/-- THE SECOND FORM's CARD OF 'orloplaw14.B64Texts'. -/
def b64TextsUptoCard : Claim7 := { stood := { row := b64TextsUptoRow, standIns := [], harness := (true, "e4bacbda6d362d83b6922599e66be1108ff7943bafb6d8e193adb31a7e87993a"), looks := false }, kinds := [], alts := [], laidByText := true, laidKinds := [.data, .pinned], laidTests := true, laidLooks := .later }
def B64TextsUptoCardSaid : Prop := Claim7.holds Tryd.pinned (.plain (OpenSpec.upto b64TextsSpec)) b64TextsUptoCard

/-- THE SECOND FORM's CARD OF 'orloplaw14.B64Reads'. -/
def b64ReadsUptoCard : Claim7 := { stood := { row := b64ReadsUptoRow, standIns := [], harness := (true, "e4bacbda6d362d83b6922599e66be1108ff7943bafb6d8e193adb31a7e87993a"), looks := false }, kinds := [], alts := [], laidByText := true, laidKinds := [.data, .pinned], laidTests := true, laidLooks := .later }
def B64ReadsUptoCardSaid : Prop := Claim7.holds Tryd.pinned (.plain (OpenSpec.upto b64ReadsSpec)) b64ReadsUptoCard

/-- THE SECOND FORM's CARD OF 'orloplaw14.B64Joins'. -/
def b64JoinsUptoCard : Claim7 := { stood := { row := b64JoinsUptoRow, standIns := [], harness := (true, "e4bacbda6d362d83b6922599e66be1108ff7943bafb6d8e193adb31a7e87993a"), looks := false }, kinds := [], alts := [], laidByText := true, laidKinds := [.data, .pinned], laidTests := true, laidLooks := .later }
def B64JoinsUptoCardSaid : Prop := Claim7.holds Tryd.pinned (.plain (OpenSpec.upto b64JoinsSpec)) b64JoinsUptoCard

/-- THE SECOND FORM's CARD OF 'orloplaw14.B64Turned'. -/
def b64TurnedUptoCard : Claim7 := { stood := { row := b64TurnedUptoRow, standIns := [], harness := (true, "e4bacbda6d362d83b6922599e66be1108ff7943bafb6d8e193adb31a7e87993a"), looks := false }, kinds := [], alts := [], laidByText := true, laidKinds := [.data, .pinned], laidTests := true, laidLooks := .later }
def B64TurnedUptoCardSaid : Prop := Claim7.holds Tryd.pinned (.plain (OpenSpec.upto b64TurnedSpec)) b64TurnedUptoCard
end Rows
end Go.Proofs.YtmheaefpbebgfaaDoor
