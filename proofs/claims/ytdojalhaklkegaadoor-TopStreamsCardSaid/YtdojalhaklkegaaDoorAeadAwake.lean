/-
  orloplaw06.awake RETURNS true (what the document fixes as an example). Conditions: layer 4's table of places lies as it was laid.
-/
import Derived.Test.YtdojalhaklkegaaDoorPtD
import Derived.Laws.BytesArg
import Derived.Lib.SlBytesConst
set_option maxRecDepth 100000
namespace Go.Proofs.YtdojalhaklkegaaDoor
open Go.RowKit
set_option linter.unusedVariables false

theorem isB_one6 (w : World) (t : TypeId) (fr : Nat × Nat) : IsB (w.alloc (.cells #[.int .u8 120] t fr)) (.slice (some ⟨w.heap.size, 0, none⟩) 1 1) [120] := by
  refine ⟨_, 1, rfl, Nat.le_refl _, by unfold maxLen; omega, .inr ⟨w.heap.size, 0, rfl, fun i hi => ?_⟩⟩
  rw [World.cell?_alloc_mark]
  match i, hi with
  | 0, _ => rfl

/-- A text that was sealed, opened. -/
theorem open_box (kv nv bv tv : Value) (key nonce beside text : List UInt8) (w : World) (hL : LaidP w) (hk : IsB w kv key) (hn : IsB w nv nonce) (hb : IsB w bv beside) (ht : IsB w tv (M.box key nonce beside text)) (hkl : key.length = 32) (hnl : nonce.length = 12)
    (zb : ∀ n c, bv = .slice none n c → c = 0) (zt : ∀ n c, tv = .slice none n c → c = 0) (hlen : beside.length + text.length + 16 ≤ 70368744177600) :
    Calls Tryd.prog 11 #[kv, nv, bv, tv] w fun e w' => ∃ r, e = .returned (.tuple #[r, .int .i64 0]) ∧ Own w' w.heap.size r text ∧ Below w.heap.size w w' := by
  refine (open_any kv nv bv tv key nonce beside _ w hL hk hn hb ht hkl hnl zb zt (by rw [M.box_length]; omega) text.length (by rw [M.box_length])).mono ?_
  rintro e w' ⟨h, _, k⟩
  obtain ⟨r, rfl, o⟩ := h (by rw [M.box_take, M.box_drop])
  rw [M.box_opens] at o
  exact ⟨r, rfl, o, k⟩

end Go.Proofs.YtdojalhaklkegaaDoor
