/-
  DERIVED. GIVEN WITH THE SEED: THE PROGRAM's TIES (one call each: nine closed facts by the kernel) AND EACH ROW's TIE, after the 31st guide's Derived/Test/Toyas{Tie, Card}.lean. No idea stands in it: it is a product of the set-up. Laid BY PROGRAM, IN A SANDBOX (cutbox-door.mjs). By AI agents, Wed Nov 11 2026. No macro, syntax, notation, axiom, sorry.
-/
import Derived.Test.YtdojalhaklkegaaDoorRows
import Derived.LaidByTextLater
import Derived.SevenTiedAt
import Derived.LaidSub
import Derived.LaidOnce
namespace Go.Proofs.YtdojalhaklkegaaDoor
open Go
set_option maxRecDepth 100000
theorem seatTie1 : Tryd.prog.laidByTextLater [("orlop/chacha.places", Rows.laid_orlop_chacha_places), ("orlop/sha.beginning", Rows.laid_orlop_sha_beginning), ("orlop/sha.constants", Rows.laid_orlop_sha_constants)] [.data, .data, .data] true :=
  Program.laidByTextLater_by_one 32 8 65 (by kernel_rfl) (by kernel_rfl) (by kernel_rfl) (by kernel_rfl) (by kernel_rfl) (by kernel_rfl) (fun _ _ => by kernel_rfl)
theorem noOwnUnsafe : Tryd.pinned.checked.prog.headLifts.contains "ownunsafe" = false := by kernel_rfl
theorem tie : Tryd.prog.laidByTextLater [("orlop/chacha.places", Rows.laid_orlop_chacha_places)] [.data] true :=
  Program.laidByTextLater.sub seatTie1 ["orlop/chacha.places"] (by kernel_rfl) (by kernel_rfl)
theorem topBoxes_row_tie : Rows.topBoxesRow.laidByTextAt .later Tryd.pinned [.data] true :=
  OpenClaim.laidByTextAt_later rfl rfl tie noOwnUnsafe
theorem topStreams_row_tie : Rows.topStreamsRow.laidByTextAt .later Tryd.pinned [.data] true :=
  OpenClaim.laidByTextAt_later rfl rfl tie noOwnUnsafe
theorem tie2 : Tryd.prog.laidByTextLater [("orlop/chacha.places", Rows.laid_orlop_chacha_places), ("orlop/sha.beginning", Rows.laid_orlop_sha_beginning), ("orlop/sha.constants", Rows.laid_orlop_sha_constants)] [.data, .data, .data] true :=
  Program.laidByTextLater.sub seatTie1 ["orlop/chacha.places", "orlop/sha.beginning", "orlop/sha.constants"] (by kernel_rfl) (by kernel_rfl)
theorem topShares_row_tie : Rows.topSharesRow.laidByTextAt .later Tryd.pinned [.data, .data, .data] true :=
  OpenClaim.laidByTextAt_later rfl rfl tie2 noOwnUnsafe
theorem topKeys_row_tie : Rows.topKeysRow.laidByTextAt .later Tryd.pinned [.data, .data, .data] true :=
  OpenClaim.laidByTextAt_later rfl rfl tie2 noOwnUnsafe
theorem tie3 : Tryd.prog.laidByTextLater [("orlop/sha.beginning", Rows.laid_orlop_sha_beginning), ("orlop/sha.constants", Rows.laid_orlop_sha_constants)] [.data, .data] true :=
  Program.laidByTextLater.sub seatTie1 ["orlop/sha.beginning", "orlop/sha.constants"] (by kernel_rfl) (by kernel_rfl)
theorem wrapBack_row_tie : Rows.wrapBackRow.laidByTextAt .later Tryd.pinned [.data, .data] true :=
  OpenClaim.laidByTextAt_later rfl rfl tie3 noOwnUnsafe
theorem wrapSame_row_tie : Rows.wrapSameRow.laidByTextAt .later Tryd.pinned [.data, .data] true :=
  OpenClaim.laidByTextAt_later rfl rfl tie3 noOwnUnsafe
theorem topBoxesUpto_row_tie : Rows.topBoxesUptoRow.laidByTextAt .later Tryd.pinned [.data] true :=
  OpenClaim.laidByTextAt_later rfl rfl tie noOwnUnsafe
theorem topSharesUpto_row_tie : Rows.topSharesUptoRow.laidByTextAt .later Tryd.pinned [.data, .data, .data] true :=
  OpenClaim.laidByTextAt_later rfl rfl tie2 noOwnUnsafe
theorem topStreamsUpto_row_tie : Rows.topStreamsUptoRow.laidByTextAt .later Tryd.pinned [.data] true :=
  OpenClaim.laidByTextAt_later rfl rfl tie noOwnUnsafe
theorem topKeysUpto_row_tie : Rows.topKeysUptoRow.laidByTextAt .later Tryd.pinned [.data, .data, .data] true :=
  OpenClaim.laidByTextAt_later rfl rfl tie2 noOwnUnsafe
theorem wrapBackUpto_row_tie : Rows.wrapBackUptoRow.laidByTextAt .later Tryd.pinned [.data, .data] true :=
  OpenClaim.laidByTextAt_later rfl rfl tie3 noOwnUnsafe
theorem wrapSameUpto_row_tie : Rows.wrapSameUptoRow.laidByTextAt .later Tryd.pinned [.data, .data] true :=
  OpenClaim.laidByTextAt_later rfl rfl tie3 noOwnUnsafe
end Go.Proofs.YtdojalhaklkegaaDoor
