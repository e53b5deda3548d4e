/-
  orloplaw05.awake RETURNS true (what the document fixes as an example). Conditions: none.
-/
import Derived.Test.YtbjmkgbjpcepaaaTagMath
import Derived.Test.YtbjmkgbjpcepaaaRefUnhex
import Derived.Test.YtbjmkgbjpcepaaaRefA
import Derived.Lib.SlBytesConst
namespace Go.Proofs.Ytbjmkgbjpcepaaa
open Go.RowKit
set_option linter.unusedVariables false

namespace M
def key5 : List UInt8 := [133, 214, 190, 120, 87, 85, 109, 51, 127, 68, 82, 254, 66, 213, 6, 168, 1, 3, 128, 138, 251, 13, 178, 253, 74, 191, 246, 175, 65, 73, 245, 27]
def msg5 : List UInt8 := [67, 114, 121, 112, 116, 111, 103, 114, 97, 112, 104, 105, 99, 32, 70, 111, 114, 117, 109, 32, 82, 101, 115, 101, 97, 114, 99, 104, 32, 71, 114, 111, 117, 112]
theorem unhex5 : unhex (ByteArray.mk #[56, 53, 100, 54, 98, 101, 55, 56, 53, 55, 53, 53, 54, 100, 51, 51, 55, 102, 52, 52, 53, 50, 102, 101, 52, 50, 100, 53, 48, 54, 97, 56, 48, 49, 48, 51, 56, 48, 56, 97, 102, 98, 48, 100, 98, 50, 102, 100, 52, 97, 98, 102, 102, 54, 97, 102, 52, 49, 52, 57, 102, 53, 49, 98]).data.toList = some key5 := by decide +kernel
theorem tag5 : (tag key5 msg5).take 4 = [168, 6, 29, 193] := by decide +kernel
end M

theorem getD_take5 (l : List UInt8) (n i : Nat) (ys : List UInt8) (h : l.take n = ys) (hi : i < n) : l.getD i 0 = ys.getD i 0 := by
  rw [← h]
  simp [List.getD_eq_getElem?_getD, hi]

theorem isB_mark (w : World) (t : TypeId) (fr : Nat × Nat) (cs : Array Value) (bs : List UInt8) (n : Nat) (hc : cs.toList = Lib.byteCells bs) (hn : n = bs.length) (hm : n ≤ 1000) : IsB (w.alloc (.cells cs t fr)) (.slice (some ⟨w.heap.size, 0, none⟩) n n) bs := by
  subst hn
  refine ⟨_, bs.length, rfl, Nat.le_refl _, by unfold maxLen; omega, .inr ⟨w.heap.size, 0, rfl, fun i hi => ?_⟩⟩
  rw [World.cell?_alloc_mark, Nat.zero_add, ← byteCells_getElem? bs i hi, ← hc]
  simp

/-- poly.Tag, by the tag as the document has it. -/
theorem tag_yes (kv mv : Value) (key m : List UInt8) (w : World) (hk : IsB w kv key) (hm : IsB w mv m) (hkl : key.length = 32) (hlen : m.length ≤ 70368744177664) :
    Calls Try.prog 8 #[kv, mv] w fun e w' => ∃ r, e = .returned (.tuple #[r, .int .i64 0]) ∧ Own w' w.heap.size r (M.tag key m) ∧ Below w.heap.size w w' := by
  rw [← M.tagL_eq key m hkl]
  exact tag_any kv mv key m w hk hm hkl hlen

theorem polyAwake_any (w : World) :
    Calls Try.prog 7 #[] w fun e w' => e = .returned (.bool true) ∧ Below w.heap.size w w' := by
  obtain ⟨T, hT⟩ : ∃ T, T = M.tag M.key5 M.msg5 := ⟨_, rfl⟩
  have HT0 : Hid (T.getD 0 0 = 168) := by rw [Hid, hT, getD_take5 _ 4 0 _ M.tag5 (by decide)]; rfl
  have HT1 : Hid (T.getD 1 0 = 6) := by rw [Hid, hT, getD_take5 _ 4 1 _ M.tag5 (by decide)]; rfl
  have HT2 : Hid (T.getD 2 0 = 29) := by rw [Hid, hT, getD_take5 _ 4 2 _ M.tag5 (by decide)]; rfl
  have HT3 : Hid (T.getD 3 0 = 193) := by rw [Hid, hT, getD_take5 _ 4 3 _ M.tag5 (by decide)]; rfl
  have HTL : Hid (T.length = 16) := by rw [Hid, hT]; exact M.tag_length _ _
  have CT := fun w' v1 v2 (h1 : IsB w' v1 M.key5) (h2 : IsB w' v2 M.msg5) => tag_yes v1 v2 M.key5 M.msg5 w' h1 h2 rfl (by decide)
  simp only [← hT] at CT
  have HCT := Lib.hid CT
  have HN := Lib.hid (show ∀ w', Calls Try.prog 8 #[.slice none 0 0, .slice none 0 0] w' fun e w1 => e = .returned (.tuple #[.slice none 0 0, .int .i64 1]) ∧ w1 = w' from
    fun w' => tag_no _ _ [] [] w' (IsB.nil w') (by simp))
  have HU := Lib.hid (runhex_any (ByteArray.mk #[56, 53, 100, 54, 98, 101, 55, 56, 53, 55, 53, 53, 54, 100, 51, 51, 55, 102, 52, 52, 53, 50, 102, 101, 52, 50, 100, 53, 48, 54, 97, 56, 48, 49, 48, 51, 56, 48, 56, 97, 102, 98, 48, 100, 98, 50, 102, 100, 52, 97, 98, 102, 102, 54, 97, 102, 52, 49, 52, 57, 102, 53, 49, 98]) w (by decide))
  clear hT CT
  go_enter Try.func7, Try.ntmps7
  go_wp2_with fail
  refine HU.out.mono ?_
  rintro e w1 ⟨r1, rfl, i1, k1⟩
  rw [M.unhex5] at i1 ⊢
  have kc := fun (w : World) (C : Array Value) (n c : Nat) => Lib.run_convert_bytes_const (P := Try.prog) w 22 5 C n c Try.underlying22 Try.underlying5
  have I1 : Hid (IsB w1 r1 M.key5) := i1
  obtain ⟨r, hr⟩ : ∃ r, r = r1 := ⟨_, rfl⟩
  clear HU i1
  go_wp2_with fail
  clear kc
  refine (HCT.out _ _ _ (I1.out.below ((Below.refl _ _).alloc (Nat.le_refl _) _)) (isB_mark w1 5 _ #[.int .u8 67, .int .u8 114, .int .u8 121, .int .u8 112, .int .u8 116, .int .u8 111, .int .u8 103, .int .u8 114, .int .u8 97, .int .u8 112, .int .u8 104, .int .u8 105, .int .u8 99, .int .u8 32, .int .u8 70, .int .u8 111, .int .u8 114, .int .u8 117, .int .u8 109, .int .u8 32, .int .u8 82, .int .u8 101, .int .u8 115, .int .u8 101, .int .u8 97, .int .u8 114, .int .u8 99, .int .u8 104, .int .u8 32, .int .u8 71, .int .u8 114, .int .u8 111, .int .u8 117, .int .u8 112] M.msg5 34 rfl rfl (by decide))).mono ?_
  rintro e w2 ⟨r2, rfl, o2, k2⟩
  have kk2 : Below w.heap.size w w2 := (k1.alloc k1.size _).trans (k2.mono (by have := k1.size; simp; omega))
  obtain ⟨g2, c2, rfl, _⟩ := o2.shape (by rw [HTL.out]; decide)
  have x0 : w2.cell? ⟨g2, 0, none⟩ = some (.int .u8 168) := by rw [o2.row.cellAt 0 (by rw [HTL.out]; decide), byteCells_getElem? _ _ (by rw [HTL.out]; decide), HT0.out]; rfl
  have x1 : w2.cell? ⟨g2, 1, none⟩ = some (.int .u8 6) := by rw [o2.row.cellAt 1 (by rw [HTL.out]; decide), byteCells_getElem? _ _ (by rw [HTL.out]; decide), HT1.out]; rfl
  have x2 : w2.cell? ⟨g2, 2, none⟩ = some (.int .u8 29) := by rw [o2.row.cellAt 2 (by rw [HTL.out]; decide), byteCells_getElem? _ _ (by rw [HTL.out]; decide), HT2.out]; rfl
  have x3 : w2.cell? ⟨g2, 3, none⟩ = some (.int .u8 193) := by rw [o2.row.cellAt 3 (by rw [HTL.out]; decide), byteCells_getElem? _ _ (by rw [HTL.out]; decide), HT3.out]; rfl
  rw [HTL.out]
  clear o2 k2
  go_wp2_with fail
  refine (HN.out _).mono ?_
  rintro e w3 ⟨rfl, rfl⟩
  go_wp2
  go_ret
  exact ⟨rfl, kk2⟩

end Go.Proofs.Ytbjmkgbjpcepaaa
