/-
  CONTRACT OF orloplaw14.awake. Conditions: none.
-/
import Derived.Test.YtmheaefpbebgfaaDoorB64Bytes
import Derived.Lib.SmallJoins
namespace Go.Proofs.YtmheaefpbebgfaaDoor
open Go.RowKit
set_option linter.unusedVariables false
set_option maxRecDepth 100000

theorem aw14_none : M.dec64 [84, 87, 70, 61] = none := by rw [M.dec64_read, if_neg (by decide +kernel)]
theorem aw14_man : M.enc64 [77, 97, 110] = [84, 87, 70, 117] := by decide +kernel
theorem aw14_m : M.enc64 [77] = [84, 81, 61, 61] := by decide +kernel

theorem isB_lit64 (w : World) (bs : List UInt8) (t : TypeId) (fr : Nat × Nat) (h : bs.length ≤ 1000) : IsB (w.alloc (.cells (Lib.byteCells bs).toArray t fr)) (.slice (some ⟨w.heap.size, 0, none⟩) bs.length bs.length) bs := by
  refine ⟨_, bs.length, rfl, Nat.le_refl _, by unfold maxLen; omega, .inr ⟨w.heap.size, 0, rfl, fun i hi => ?_⟩⟩
  rw [Nat.zero_add, ← byteCells_getElem? bs i hi]
  have := Lib.cell_of_heap (w := w.alloc (.cells (Lib.byteCells bs).toArray t fr)) (heap_alloc_new w (.cells (Lib.byteCells bs).toArray t fr)) i
  rw [this]
  simp

set_option maxHeartbeats 2000000 in
theorem awake14_any (w : World) : Calls Tryd.prog 7 #[] w fun e w' => e = .returned (.bool true) ∧ Below w.heap.size w w' := by
  have CB := Lib.hid (bytes64_any [84, 87, 70, 61] w (by decide))
  go_enter Tryd.func7, Tryd.ntmps7
  go_wp2_with fail
  refine CB.out.mono ?_
  rintro e w1 ⟨r, rfl, o1, k1⟩
  rw [aw14_none]
  have K1 := Lib.hid k1
  clear CB o1 k1
  have hcv : ∀ (W : World) (C : Array Value) (n : Nat), (convert 22 22 (.slice (some ⟨W.heap.size, 0, none⟩) n n)).run Tryd.prog (W.alloc (.cells C 5)) = .ok (.slice (some ⟨W.heap.size, 0, none⟩) n n) (W.alloc (.cells C 5 (C.size, C.size + 1))) :=
    fun W C n => Lib.run_convert_bytes_const W 22 5 C n n Tryd.underlying22 Tryd.underlying5
  have CT1 : Hid (Calls Tryd.prog 8 #[.slice (some ⟨w1.heap.size, 0, none⟩) 3 3] (w1.alloc (.cells #[.int .u8 77, .int .u8 97, .int .u8 110] 5 (3, 4))) fun e w' => e = .returned (.string ⟨#[84, 87, 70, 117]⟩) ∧ Below (w1.alloc (.cells #[.int .u8 77, .int .u8 97, .int .u8 110] 5 (3, 4))).heap.size (w1.alloc (.cells #[.int .u8 77, .int .u8 97, .int .u8 110] 5 (3, 4))) w') := by
    have h := text64_any _ [77, 97, 110] (w1.alloc (.cells #[.int .u8 77, .int .u8 97, .int .u8 110] 5 (3, 4))) (isB_lit64 w1 [77, 97, 110] 5 (3, 4) (by decide)) (by decide)
    rw [aw14_man] at h
    exact h
  go_wp2_with fail
  refine CT1.out.mono ?_
  rintro e w2 ⟨rfl, k2⟩
  have K2 : Hid (Below w.heap.size w w2) := (K1.out.alloc K1.out.size _).trans (k2.mono (Nat.le_trans K1.out.size (by simp)))
  clear CT1 k2 K1
  have CT2 : Hid (Calls Tryd.prog 8 #[.slice (some ⟨w2.heap.size, 0, none⟩) 1 1] (w2.alloc (.cells #[.int .u8 77] 5 (1, 2))) fun e w' => e = .returned (.string ⟨#[84, 81, 61, 61]⟩) ∧ Below (w2.alloc (.cells #[.int .u8 77] 5 (1, 2))).heap.size (w2.alloc (.cells #[.int .u8 77] 5 (1, 2))) w') := by
    have h := text64_any _ [77] (w2.alloc (.cells #[.int .u8 77] 5 (1, 2))) (isB_lit64 w2 [77] 5 (1, 2) (by decide)) (by decide)
    rw [aw14_m] at h
    exact h
  go_wp2_with fail
  refine CT2.out.mono ?_
  rintro e w3 ⟨rfl, k3⟩
  have K3 : Hid (Below w.heap.size w w3) := (K2.out.alloc K2.out.size _).trans (k3.mono (Nat.le_trans K2.out.size (by simp)))
  clear CT2 k3 K2
  go_wp2
  go_ret
  exact ⟨rfl, K3.out⟩

end Go.Proofs.YtmheaefpbebgfaaDoor
