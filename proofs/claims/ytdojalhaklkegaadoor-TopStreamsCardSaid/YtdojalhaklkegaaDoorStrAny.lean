/-
  'string(b)' OF BYTES. Conditions: none.
-/
import Derived.Test.YtdojalhaklkegaaDoorPtN
import Derived.Laws.BytesArg
namespace Go.Proofs.YtdojalhaklkegaaDoor
open Go.RowKit
set_option linter.unusedVariables false

/-- The number of an integer, for a measure. -/
def natOf : Value → Nat
  | .int _ n => n.toNat
  | _ => 0

theorem str_of (bs : List UInt8) : strOfNums (bs.map fun c => (c.toNat : Int)) = ⟨bs.toArray⟩ := by
  rw [strOfNums]
  congr 2
  rw [List.map_map]
  conv => rhs; rw [← List.map_id bs]
  apply List.map_congr_left
  intro c _
  simp

theorem str_run {w : World} {v : Value} {bs : List UInt8} (h : IsB w v bs) (hn : bs ≠ []) : (convert 24 9 v).run Tryd.prog w = .ok (.string ⟨bs.toArray⟩) w := by
  obtain ⟨ao, cap, rfl, h1, h2, h3⟩ := h
  obtain ⟨b, off, rfl, hc⟩ := h3.resolve_left hn
  have := run_convert_bytes_arg (P := Tryd.prog) (w := w) 24 5 Tryd.underlying24 Tryd.underlying5 b off bs.length cap (bs.map fun c => (c.toNat : Int)) (by simp) (fun i hi => by
    rw [hc i hi]
    simp [List.getD_eq_getElem?_getD, hi]) 9 Tryd.underlying9
  rw [str_of] at this
  exact this

/-- 'string(b)'. -/
theorem str_any {w : World} {v : Value} {bs : List UInt8} (h : IsB w v bs) : (convert 24 9 v).run Tryd.prog w = .ok (.string ⟨bs.toArray⟩) w := by
  by_cases hn : bs = []
  · subst hn
    obtain ⟨ao, cap, rfl, h1, h2, h3⟩ := h
    rw [run_convert_bytes_string w 24 9 5 ao _ cap Tryd.underlying24 Tryd.underlying5 Tryd.underlying9]
    cases ao <;> simp [Conv.bytesToString, loadCells] <;> rfl
  · exact str_run h hn

/-- One byte, made. -/
theorem isB_one0 (w : World) (x : Int) (c : UInt8) (h : x = c.toNat) : IsB (w.alloc (.cells #[.int .u8 x] 5)) (.slice (some ⟨w.heap.size, 0, none⟩) 1 1) [c] := by
  subst h
  refine ⟨_, 1, rfl, Nat.le_refl _, by unfold maxLen; omega, .inr ⟨w.heap.size, 0, rfl, fun i hi => ?_⟩⟩
  match i, hi with
  | 0, _ => exact one_new w _ _ 0 _ rfl

theorem str_one (w : World) (x : Int) (c : UInt8) (h : x = c.toNat) : (convert 24 9 (.slice (some ⟨w.heap.size, 0, none⟩) 1 1)).run Tryd.prog (w.alloc (.cells #[.int .u8 x] 5)) = .ok (.string ⟨#[c]⟩) (w.alloc (.cells #[.int .u8 x] 5)) :=
  str_any (isB_one0 w x c h)

end Go.Proofs.YtdojalhaklkegaaDoor
