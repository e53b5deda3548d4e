/-
  orloptop.sealing RETURNS true (what was sealed is opened; a box that is too short isn't). Conditions: layer 4's table of places lies as it was laid.
-/
import Derived.Test.YtdojalhaklkegaaDoorAeadAwake
namespace Go.Proofs.YtdojalhaklkegaaDoor
open Go.RowKit
set_option linter.unusedVariables false
set_option maxRecDepth 100000

set_option maxHeartbeats 1000000 in
theorem sealing_any (w : World) (hL : LaidP w) :
    Calls Tryd.prog 9 #[] w fun e w' => e = .returned (.bool true) ∧ Below w.heap.size w w' := by
  obtain ⟨Z, hZ⟩ : ∃ Z, Hid (Z = List.replicate 32 (0 : UInt8)) := ⟨_, rfl⟩
  obtain ⟨Y, hY⟩ : ∃ Y, Hid (Y = List.replicate 12 (0 : UInt8)) := ⟨_, rfl⟩
  have HZL : Hid (Z.length = 32) := by rw [hZ.out]; exact List.length_replicate
  have HYL : Hid (Y.length = 12) := by rw [hY.out]; exact List.length_replicate
  obtain ⟨X, hX⟩ : ∃ X, Hid (X = M.box Z Y [] [120]) := ⟨_, rfl⟩
  have HXL : Hid (X.length = 17) := by rw [hX.out]; exact M.box_length _ _ _ _
  have HL := Lib.hid hL
  have C1 := Lib.hid (fun w' kv nv tv (k : Below w.heap.size w w') (h1 : IsB w' kv Z) (h2 : IsB w' nv Y) (h3 : IsB w' tv [120]) => aseal_any kv nv (.slice none 0 0) tv Z Y [] [120] w' (hL.below k hL.size) h1 h2 (IsB.nil w') h3 HZL.out HYL.out (fun n c e => by cases e; rfl) (by decide))
  have C2 := Lib.hid (fun w' kv nv tv (k : Below w.heap.size w w') (h1 : IsB w' kv Z) (h2 : IsB w' nv Y) (h3 : IsB w' tv (M.box Z Y [] [120])) z => open_box kv nv (.slice none 0 0) tv Z Y [] [120] w' (hL.below k hL.size) h1 h2 (IsB.nil w') h3 HZL.out HYL.out (fun n c e => by cases e; rfl) z (by decide))
  have C3 := Lib.hid (fun w' kv nv (k : Below w.heap.size w w') (h1 : IsB w' kv Z) (h2 : IsB w' nv Y) => open_short kv nv (.slice none 0 0) (.slice none 0 0) Z Y [] [] w' (hL.below k hL.size) h1 h2 (IsB.nil w') (IsB.nil w') HZL.out HYL.out (fun n c e => by cases e; rfl) (fun n c e => by cases e; rfl) (by decide) (by decide))
  rw [← hX.out] at C1 C2
  have kc := fun (w : World) (C : Array Value) (n c : Nat) => Lib.run_convert_bytes_const (P := Tryd.prog) w 24 5 C n c Tryd.underlying24 Tryd.underlying5
  clear hX hL
  go_enter Tryd.func9, Tryd.ntmps9
  go_wp2_with (refine wpList_make_cap _ rfl _ _ rfl .i64 .i64 _ _ 32 32 rfl rfl rfl rfl (by omega) (by omega) ?_; intro w1 o1 k1)
  have Z1 : Hid (IsB w1 (.slice (some ⟨w.heap.size, 0, none⟩) 32 32) Z) := by rw [hZ.out]; exact o1.isB
  have Y1 : Hid (IsB w1 (.slice (some ⟨w.heap.size, 0, none⟩) 12 32) Y) := by
    have := o1.isB.take 12 (by decide)
    rw [hY.out]
    exact this
  have K1 := Lib.hid k1
  clear o1 k1 hZ hY
  obtain ⟨g, hg⟩ : ∃ g, g = w.heap.size := ⟨_, rfl⟩
  rw [← hg] at Z1 Y1 ⊢
  clear hg
  go_wp2_with fail
  have KA : Hid (Below w1.heap.size w1 (w1.alloc (.cells #[.int .u8 120] 5 (1, 2)))) := (Below.refl _ _).alloc (Nat.le_refl _) _
  refine (C1.out _ _ _ _ (K1.out.trans (KA.out.mono K1.out.size)) (Z1.out.below KA.out) (Y1.out.below KA.out) (isB_one6 w1 5 _)).mono ?_
  rintro e w2 ⟨r2, rfl, o2, k2⟩
  have K12 : Hid (Below w1.heap.size w1 w2) := KA.out.trans (k2.mono KA.out.size)
  have K2 : Hid (Below w.heap.size w w2) := K1.out.trans (K12.out.mono K1.out.size)
  have Z2 : Hid (IsB w2 (.slice (some ⟨g, 0, none⟩) 32 32) Z) := Z1.out.below K12.out
  have Y2 : Hid (IsB w2 (.slice (some ⟨g, 0, none⟩) 12 32) Y) := Y1.out.below K12.out
  obtain ⟨g2, c2, rfl, _⟩ := o2.shape (by rw [HXL.out]; decide)
  rw [HXL.out] at o2 ⊢
  have O2 := Lib.hid o2
  clear o2 k2 KA K12 Z1 Y1 K1 C1 kc
  go_wp2_with fail
  refine (C2.out w2 _ _ _ K2.out Z2.out Y2.out O2.out.isB O2.out.nil0).mono ?_
  rintro e w3 ⟨r3, rfl, o3, k3⟩
  have K3 : Hid (Below w.heap.size w w3) := K2.out.trans (k3.mono K2.out.size)
  have Z3 : Hid (IsB w3 (.slice (some ⟨g, 0, none⟩) 32 32) Z) := Z2.out.below k3
  have Y3 : Hid (IsB w3 (.slice (some ⟨g, 0, none⟩) 12 32) Y) := Y2.out.below k3
  obtain ⟨g3, c3, rfl, _⟩ := o3.shape (by decide)
  have O3 : Hid (Own w3 w2.heap.size (.slice (some ⟨g3, 0, none⟩) 1 c3) [120]) := o3
  clear o3 k3 K2 Z2 Y2 O2 C2
  go_wp2_with fail
  refine (C3.out w3 _ _ K3.out Z3.out Y3.out).mono ?_
  rintro e w4 ⟨rfl, k34⟩
  have K4 : Hid (Below w.heap.size w w4) := K3.out.trans (k34.mono K3.out.size)
  have O4 : Hid (Own w4 w2.heap.size (.slice (some ⟨g3, 0, none⟩) 1 c3) [120]) := O3.out.below k34
  have hcv := run_convert_bytes_arg (P := Tryd.prog) w4 24 5 Tryd.underlying24 Tryd.underlying5 g3 0 1 c3 [120] rfl (fun i hi => by
    rw [Nat.zero_add, O4.out.row.cellAt i (by simpa using hi), byteCells_getElem? _ _ (by simpa using hi)]
    match i, hi with
    | 0, _ => rfl) 9 Tryd.underlying9
  rw [show strOfNums [120] = ⟨#[120]⟩ from rfl] at hcv
  clear k34 K3 Z3 Y3 O3 C3
  go_wp2
  go_ret
  exact ⟨rfl, K4.out⟩

end Go.Proofs.YtdojalhaklkegaaDoor
