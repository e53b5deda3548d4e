/-
  DERIVED. GIVEN WITH THE SEED: THE CARDS: each row of YtaechnhnhfgloaaDoorRows.lean that lists a variable, with what it lists TIED to the program's text (the seventh form; the later family's looks); each row that meets fmt, with fmt's text TOLD by the authors' own Lean function (tested against real Go, not proved from fmt's source: count such statements apart). THE CARD IS WHAT COUNTS. Prove the row's statement (the work); the ties are given (YtaechnhnhfgloaaDoorTie.lean); close each card by the builder's one call (the guide's Derived/Test/ToyasCard.lean, 'card_holds'). Laid BY PROGRAM, IN A SANDBOX (cutbox-door.mjs). By AI agents, Wed Nov 11 2026. No macro, syntax, notation, axiom, sorry.
-/
import Derived.Test.YtaechnhnhfgloaaDoorRows
import GoSem.ClaimSeven
namespace Go.Proofs.YtaechnhnhfgloaaDoor
namespace Rows

/-- THE TIED CARD OF 'orloplaw04.ChachaBlocks'. -/
def chachaBlocksCard : Claim7 := { stood := { row := chachaBlocksRow, standIns := [], harness := (true, "eb95a3b350f4b5804ddd027be99d47a312763fc4ec1331ec89a3d7352d1eadbe"), looks := false }, kinds := [], alts := [], laidByText := true, laidKinds := [.data], laidTests := true, laidLooks := .later }
def ChachaBlocksCardSaid : Prop := Claim7.holds Tryd.pinned (.plain (OpenSpec.ofChange chachaBlocksSpec)) chachaBlocksCard

/-- THE TIED CARD OF 'orloplaw04.ChachaTexts'. -/
def chachaTextsCard : Claim7 := { stood := { row := chachaTextsRow, standIns := [], harness := (true, "eb95a3b350f4b5804ddd027be99d47a312763fc4ec1331ec89a3d7352d1eadbe"), looks := false }, kinds := [], alts := [], laidByText := true, laidKinds := [.data], laidTests := true, laidLooks := .later }
def ChachaTextsCardSaid : Prop := Claim7.holds Tryd.pinned (.plain (OpenSpec.ofChange chachaTextsSpec)) chachaTextsCard

/-- THE TIED CARD OF 'orloplaw04.ChachaParts'. -/
def chachaPartsCard : Claim7 := { stood := { row := chachaPartsRow, standIns := [], harness := (true, "eb95a3b350f4b5804ddd027be99d47a312763fc4ec1331ec89a3d7352d1eadbe"), looks := false }, kinds := [], alts := [], laidByText := true, laidKinds := [.data], laidTests := true, laidLooks := .later }
def ChachaPartsCardSaid : Prop := Claim7.holds Tryd.pinned (.plain (OpenSpec.ofChange chachaPartsSpec)) chachaPartsCard

/-- THE TIED CARD OF 'orloplaw04.ChachaStream'. -/
def chachaStreamCard : Claim7 := { stood := { row := chachaStreamRow, standIns := [], harness := (true, "eb95a3b350f4b5804ddd027be99d47a312763fc4ec1331ec89a3d7352d1eadbe"), looks := false }, kinds := [], alts := [], laidByText := true, laidKinds := [.data], laidTests := true, laidLooks := .later }
def ChachaStreamCardSaid : Prop := Claim7.holds Tryd.pinned (.plain (OpenSpec.ofChange chachaStreamSpec)) chachaStreamCard

/-- THE SECOND FORM's CARD OF 'orloplaw04.ChachaBlocks'. -/
def chachaBlocksUptoCard : Claim7 := { stood := { row := chachaBlocksUptoRow, standIns := [], harness := (true, "eb95a3b350f4b5804ddd027be99d47a312763fc4ec1331ec89a3d7352d1eadbe"), looks := false }, kinds := [], alts := [], laidByText := true, laidKinds := [.data], laidTests := true, laidLooks := .later }
def ChachaBlocksUptoCardSaid : Prop := Claim7.holds Tryd.pinned (.plain (OpenSpec.upto chachaBlocksSpec)) chachaBlocksUptoCard

/-- THE SECOND FORM's CARD OF 'orloplaw04.ChachaTexts'. -/
def chachaTextsUptoCard : Claim7 := { stood := { row := chachaTextsUptoRow, standIns := [], harness := (true, "eb95a3b350f4b5804ddd027be99d47a312763fc4ec1331ec89a3d7352d1eadbe"), looks := false }, kinds := [], alts := [], laidByText := true, laidKinds := [.data], laidTests := true, laidLooks := .later }
def ChachaTextsUptoCardSaid : Prop := Claim7.holds Tryd.pinned (.plain (OpenSpec.upto chachaTextsSpec)) chachaTextsUptoCard

/-- THE SECOND FORM's CARD OF 'orloplaw04.ChachaParts'. -/
def chachaPartsUptoCard : Claim7 := { stood := { row := chachaPartsUptoRow, standIns := [], harness := (true, "eb95a3b350f4b5804ddd027be99d47a312763fc4ec1331ec89a3d7352d1eadbe"), looks := false }, kinds := [], alts := [], laidByText := true, laidKinds := [.data], laidTests := true, laidLooks := .later }
def ChachaPartsUptoCardSaid : Prop := Claim7.holds Tryd.pinned (.plain (OpenSpec.upto chachaPartsSpec)) chachaPartsUptoCard

/-- THE SECOND FORM's CARD OF 'orloplaw04.ChachaStream'. -/
def chachaStreamUptoCard : Claim7 := { stood := { row := chachaStreamUptoRow, standIns := [], harness := (true, "eb95a3b350f4b5804ddd027be99d47a312763fc4ec1331ec89a3d7352d1eadbe"), looks := false }, kinds := [], alts := [], laidByText := true, laidKinds := [.data], laidTests := true, laidLooks := .later }
def ChachaStreamUptoCardSaid : Prop := Claim7.holds Tryd.pinned (.plain (OpenSpec.upto chachaStreamSpec)) chachaStreamUptoCard
end Rows
end Go.Proofs.YtaechnhnhfgloaaDoor
