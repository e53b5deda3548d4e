/-
  DERIVED. GIVEN WITH THE SEED: THE CARDS: each row of YtphcbpfpelonaaaGreatDoorRows.lean that lists a variable, with what it lists TIED to the program's text (the seventh form; the later family's looks); each row that meets fmt, with fmt's text TOLD by the authors' own Lean function (tested against real Go, not proved from fmt's source: count such statements apart). THE CARD IS WHAT COUNTS. Prove the row's statement (the work); the ties are given (YtphcbpfpelonaaaGreatDoorTie.lean); close each card by the builder's one call (the guide's Derived/Test/ToyasCard.lean, 'card_holds'). Laid BY PROGRAM, IN A SANDBOX (cutbox-door.mjs). By AI agents, Wed Nov 11 2026. No macro, syntax, notation, axiom, sorry.
-/
import Derived.Test.YtphcbpfpelonaaaGreatDoorRows
import GoSem.ClaimSeven
namespace Go.Proofs.YtphcbpfpelonaaaGreatDoor
namespace Rows

/-- THE TIED CARD OF 'orloplaw13.CasTells'. -/
def casTellsCard : Claim7 := { stood := { row := casTellsRow, standIns := [], harness := (true, "da9197f3db541d7d4d269b1bbbb01024b34ead9392d5e8aba27835aba7adf9e0"), looks := true }, kinds := [], alts := [], laidByText := true, laidKinds := [.data, .data], laidTests := true, laidLooks := .later }
def CasTellsCardSaid : Prop := Claim7.holds Tryz.pinned (.plain (OpenSpec.ofChange casTellsSpec)) casTellsCard

/-- THE TIED CARD OF 'orloplaw13.CasOnce'. -/
def casOnceCard : Claim7 := { stood := { row := casOnceRow, standIns := [], harness := (true, "da9197f3db541d7d4d269b1bbbb01024b34ead9392d5e8aba27835aba7adf9e0"), looks := true }, kinds := [], alts := [], laidByText := true, laidKinds := [.data, .data], laidTests := true, laidLooks := .later }
def CasOnceCardSaid : Prop := Claim7.holds Tryz.pinned (.plain (OpenSpec.ofChange casOnceSpec)) casOnceCard

/-- THE SECOND FORM's CARD OF 'orloplaw13.CasTells'. -/
def casTellsUptoCard : Claim7 := { stood := { row := casTellsUptoRow, standIns := [], harness := (true, "da9197f3db541d7d4d269b1bbbb01024b34ead9392d5e8aba27835aba7adf9e0"), looks := true }, kinds := [], alts := [], laidByText := true, laidKinds := [.data, .data], laidTests := true, laidLooks := .later }
def CasTellsUptoCardSaid : Prop := Claim7.holds Tryz.pinned (.plain (OpenSpec.upto casTellsSpec)) casTellsUptoCard

/-- THE SECOND FORM's CARD OF 'orloplaw13.CasOnce'. -/
def casOnceUptoCard : Claim7 := { stood := { row := casOnceUptoRow, standIns := [], harness := (true, "da9197f3db541d7d4d269b1bbbb01024b34ead9392d5e8aba27835aba7adf9e0"), looks := true }, kinds := [], alts := [], laidByText := true, laidKinds := [.data, .data], laidTests := true, laidLooks := .later }
def CasOnceUptoCardSaid : Prop := Claim7.holds Tryz.pinned (.plain (OpenSpec.upto casOnceSpec)) casOnceUptoCard
end Rows
end Go.Proofs.YtphcbpfpelonaaaGreatDoor
