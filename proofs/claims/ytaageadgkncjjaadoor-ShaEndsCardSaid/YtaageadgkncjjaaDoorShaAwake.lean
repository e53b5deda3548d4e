/-
  orloplaw02.awake RETURNS true (what the document fixes as examples). Conditions: the program's two tables lie as they were laid.
-/
import Derived.Test.YtaageadgkncjjaaDoorRefSha
import Derived.Test.YtaageadgkncjjaaDoorWordC
import Derived.Lib.SlBytesConst
namespace Go.Proofs.YtaageadgkncjjaaDoor
open Go.RowKit
set_option linter.unusedVariables false

theorem isB_three (w : World) (t : TypeId) (fr : Nat × Nat) (a b c : UInt8) (x y z : Int) (ha : x = a.toNat) (hb : y = b.toNat) (hc : z = c.toNat) : IsB (w.alloc (.cells #[.int .u8 x, .int .u8 y, .int .u8 z] t fr)) (.slice (some ⟨w.heap.size, 0, none⟩) 3 3) [a, b, c] := by
  subst ha hb hc
  refine ⟨_, 3, rfl, Nat.le_refl _, by unfold maxLen; omega, .inr ⟨w.heap.size, 0, rfl, fun i hi => ?_⟩⟩
  match i, hi with
  | 0, _ => rw [World.cell?_alloc_mark]; rfl
  | 1, _ => rw [World.cell?_alloc_mark]; rfl
  | 2, _ => rw [World.cell?_alloc_mark]; rfl

theorem getD_of_take (l : List UInt8) (n i : Nat) (ys : List UInt8) (h : l.take n = ys) (hi : i < n) : l.getD i 0 = ys.getD i 0 := by
  rw [← h]
  simp [List.getD_eq_getElem?_getD, hi]

theorem shaAwake_any (w : World) (hL : Laid w) :
    Calls Tryd.prog 7 #[] w fun e w' => e = .returned (.bool true) ∧ Below w.heap.size w w' := by
  obtain ⟨A, hA⟩ : ∃ A, A = M.sha [97, 98, 99] := ⟨_, rfl⟩
  obtain ⟨E, hE⟩ : ∃ E, E = M.sha [] := ⟨_, rfl⟩
  have HA0 : Hid (A.getD 0 0 = 186) := by rw [Hid, hA, getD_of_take _ 4 0 _ M.sha_abc (by decide)]; rfl
  have HA1 : Hid (A.getD 1 0 = 120) := by rw [Hid, hA, getD_of_take _ 4 1 _ M.sha_abc (by decide)]; rfl
  have HA2 : Hid (A.getD 2 0 = 22) := by rw [Hid, hA, getD_of_take _ 4 2 _ M.sha_abc (by decide)]; rfl
  have HA3 : Hid (A.getD 3 0 = 191) := by rw [Hid, hA, getD_of_take _ 4 3 _ M.sha_abc (by decide)]; rfl
  have HE0 : Hid (E.getD 0 0 = 227) := by rw [Hid, hE, getD_of_take _ 4 0 _ M.sha_none (by decide)]; rfl
  have HE3 : Hid (E.getD 3 0 = 66) := by rw [Hid, hE, getD_of_take _ 4 3 _ M.sha_none (by decide)]; rfl
  have HAL : Hid (A.length = 32) := by rw [Hid, hA]; exact M.sha_length _
  have HEL : Hid (E.length = 32) := by rw [Hid, hE]; exact M.sha_length _
  have HL : Hid (Laid w) := hL
  have CA := fun w' v (h1 : Laid w') (h2 : IsB w' v [97, 98, 99]) => of_any v [97, 98, 99] w' h1 h2 (by simp)
  have CE := fun w' v (h1 : Laid w') (h2 : IsB w' v []) => of_any v [] w' h1 h2 (by simp)
  simp only [← hA] at CA
  simp only [← hE] at CE
  have HCA := Lib.hid CA
  have HCE := Lib.hid CE
  clear hA hE hL CA CE
  go_enter Tryd.func7, Tryd.ntmps7
  have kc := fun (w : World) (C : Array Value) (n c : Nat) => Lib.run_convert_bytes_const (P := Tryd.prog) w 22 5 C n c Tryd.underlying22 Tryd.underlying5
  go_wp2_with fail
  clear kc
  refine (HCA.out _ _ (HL.out.below ((Below.refl _ _).alloc (Nat.le_refl _) _) HL.out.size) (isB_three w 5 _ 97 98 99 97 98 99 rfl rfl rfl)).mono ?_
  rintro e w1 ⟨r1, rfl, o1, k1⟩
  have kk1 : Below w.heap.size w w1 := ((Below.refl _ _).alloc (Nat.le_refl _) _).trans (k1.mono (by simp))
  have O1 : Hid (Own w1 w.heap.size r1 A) := o1.mono (by simp)
  clear o1 k1
  go_wp2_with fail
  refine (HCE.out _ _ (HL.out.below kk1 HL.out.size) (IsB.nil w1)).mono ?_
  rintro e w2 ⟨r2, rfl, o2, k2⟩
  have kk2 : Below w.heap.size w w2 := kk1.trans (k2.mono kk1.size)
  have o1 : Own w2 w.heap.size r1 A := O1.out.below k2
  obtain ⟨g1, c1, rfl, _⟩ := o1.shape (by rw [HAL.out]; decide)
  obtain ⟨g2, c2, rfl, _⟩ := o2.shape (by rw [HEL.out]; decide)
  have x0 : w2.cell? ⟨g1, 0, none⟩ = some (.int .u8 186) := by rw [o1.row.cellAt 0 (by rw [HAL.out]; decide), byteCells_getElem? _ _ (by rw [HAL.out]; decide), HA0.out]; rfl
  have x1 : w2.cell? ⟨g1, 1, none⟩ = some (.int .u8 120) := by rw [o1.row.cellAt 1 (by rw [HAL.out]; decide), byteCells_getElem? _ _ (by rw [HAL.out]; decide), HA1.out]; rfl
  have x2 : w2.cell? ⟨g1, 2, none⟩ = some (.int .u8 22) := by rw [o1.row.cellAt 2 (by rw [HAL.out]; decide), byteCells_getElem? _ _ (by rw [HAL.out]; decide), HA2.out]; rfl
  have x3 : w2.cell? ⟨g1, 3, none⟩ = some (.int .u8 191) := by rw [o1.row.cellAt 3 (by rw [HAL.out]; decide), byteCells_getElem? _ _ (by rw [HAL.out]; decide), HA3.out]; rfl
  have y0 : w2.cell? ⟨g2, 0, none⟩ = some (.int .u8 227) := by rw [o2.row.cellAt 0 (by rw [HEL.out]; decide), byteCells_getElem? _ _ (by rw [HEL.out]; decide), HE0.out]; rfl
  have y3 : w2.cell? ⟨g2, 3, none⟩ = some (.int .u8 66) := by rw [o2.row.cellAt 3 (by rw [HEL.out]; decide), byteCells_getElem? _ _ (by rw [HEL.out]; decide), HE3.out]; rfl
  rw [HAL.out, HEL.out]
  clear o1 o2
  go_wp2
  go_ret
  exact ⟨rfl, kk2⟩

end Go.Proofs.YtaageadgkncjjaaDoor
