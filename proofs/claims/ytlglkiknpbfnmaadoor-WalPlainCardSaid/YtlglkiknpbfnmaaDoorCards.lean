/-
  DERIVED. GIVEN WITH THE SEED: THE CARDS: each row of YtlglkiknpbfnmaaDoorRows.lean that lists a variable, with what it lists TIED to the program's text (the seventh form; the later family's looks); each row that meets fmt, with fmt's text TOLD by the authors' own Lean function (tested against real Go, not proved from fmt's source: count such statements apart). THE CARD IS WHAT COUNTS. Prove the row's statement (the work); the ties are given (YtlglkiknpbfnmaaDoorTie.lean); close each card by the builder's one call (the guide's Derived/Test/ToyasCard.lean, 'card_holds'). Laid BY PROGRAM, IN A SANDBOX (cutbox-door.mjs). By AI agents, Wed Nov 11 2026. No macro, syntax, notation, axiom, sorry.
-/
import Derived.Test.YtlglkiknpbfnmaaDoorRows
import GoSem.ClaimSeven
namespace Go.Proofs.YtlglkiknpbfnmaaDoor
namespace Rows

/-- THE TIED CARD OF 'orloplaw10.WalAtomic'. -/
def walAtomicCard : Claim7 := { stood := { row := walAtomicRow, standIns := [], harness := (true, "ac2cb873ce8250b96b54425874aada567a3b1ade313df4ac20ee2c0f53b406fe"), looks := false }, kinds := [], alts := [], laidByText := true, laidKinds := [.data, .data], laidTests := true, laidLooks := .later }
def WalAtomicCardSaid : Prop := Claim7.holds Tryd.pinned (.plain (OpenSpec.ofChange walAtomicSpec)) walAtomicCard

/-- THE TIED CARD OF 'orloplaw10.WalOpens'. -/
def walOpensCard : Claim7 := { stood := { row := walOpensRow, standIns := [], harness := (true, "ac2cb873ce8250b96b54425874aada567a3b1ade313df4ac20ee2c0f53b406fe"), looks := false }, kinds := [], alts := [], laidByText := true, laidKinds := [.data, .data], laidTests := true, laidLooks := .later }
def WalOpensCardSaid : Prop := Claim7.holds Tryd.pinned (.plain (OpenSpec.ofChange walOpensSpec)) walOpensCard

/-- THE TIED CARD OF 'orloplaw10.WalPlain'. -/
def walPlainCard : Claim7 := { stood := { row := walPlainRow, standIns := [], harness := (true, "ac2cb873ce8250b96b54425874aada567a3b1ade313df4ac20ee2c0f53b406fe"), looks := false }, kinds := [], alts := [], laidByText := true, laidKinds := [.data, .data], laidTests := true, laidLooks := .later }
def WalPlainCardSaid : Prop := Claim7.holds Tryd.pinned (.plain (OpenSpec.ofChange walPlainSpec)) walPlainCard

/-- THE TIED CARD OF 'orloplaw10.WalTwice'. -/
def walTwiceCard : Claim7 := { stood := { row := walTwiceRow, standIns := [], harness := (true, "ac2cb873ce8250b96b54425874aada567a3b1ade313df4ac20ee2c0f53b406fe"), looks := false }, kinds := [], alts := [], laidByText := true, laidKinds := [.data, .data], laidTests := true, laidLooks := .later }
def WalTwiceCardSaid : Prop := Claim7.holds Tryd.pinned (.plain (OpenSpec.ofChange walTwiceSpec)) walTwiceCard

/-- THE SECOND FORM's CARD OF 'orloplaw10.WalAtomic'. -/
def walAtomicUptoCard : Claim7 := { stood := { row := walAtomicUptoRow, standIns := [], harness := (true, "ac2cb873ce8250b96b54425874aada567a3b1ade313df4ac20ee2c0f53b406fe"), looks := false }, kinds := [], alts := [], laidByText := true, laidKinds := [.data, .data], laidTests := true, laidLooks := .later }
def WalAtomicUptoCardSaid : Prop := Claim7.holds Tryd.pinned (.plain (OpenSpec.upto walAtomicSpec)) walAtomicUptoCard

/-- THE SECOND FORM's CARD OF 'orloplaw10.WalOpens'. -/
def walOpensUptoCard : Claim7 := { stood := { row := walOpensUptoRow, standIns := [], harness := (true, "ac2cb873ce8250b96b54425874aada567a3b1ade313df4ac20ee2c0f53b406fe"), looks := false }, kinds := [], alts := [], laidByText := true, laidKinds := [.data, .data], laidTests := true, laidLooks := .later }
def WalOpensUptoCardSaid : Prop := Claim7.holds Tryd.pinned (.plain (OpenSpec.upto walOpensSpec)) walOpensUptoCard

/-- THE SECOND FORM's CARD OF 'orloplaw10.WalPlain'. -/
def walPlainUptoCard : Claim7 := { stood := { row := walPlainUptoRow, standIns := [], harness := (true, "ac2cb873ce8250b96b54425874aada567a3b1ade313df4ac20ee2c0f53b406fe"), looks := false }, kinds := [], alts := [], laidByText := true, laidKinds := [.data, .data], laidTests := true, laidLooks := .later }
def WalPlainUptoCardSaid : Prop := Claim7.holds Tryd.pinned (.plain (OpenSpec.upto walPlainSpec)) walPlainUptoCard

/-- THE SECOND FORM's CARD OF 'orloplaw10.WalTwice'. -/
def walTwiceUptoCard : Claim7 := { stood := { row := walTwiceUptoRow, standIns := [], harness := (true, "ac2cb873ce8250b96b54425874aada567a3b1ade313df4ac20ee2c0f53b406fe"), looks := false }, kinds := [], alts := [], laidByText := true, laidKinds := [.data, .data], laidTests := true, laidLooks := .later }
def WalTwiceUptoCardSaid : Prop := Claim7.holds Tryd.pinned (.plain (OpenSpec.upto walTwiceSpec)) walTwiceUptoCard
end Rows
end Go.Proofs.YtlglkiknpbfnmaaDoor
