/-
  orloplaw03.awake RETURNS true (what the document fixes as examples). Conditions: the program's two tables of layer 2 lie as they were laid.
-/
import Derived.Test.YtmjeilhppgdmfaaDoorRefExp
import Derived.Test.YtmjeilhppgdmfaaDoorShaAwake
import Derived.Test.YtmjeilhppgdmfaaDoorLawDigestsWalk
import Derived.Lib.SlBytesConst
namespace Go.Proofs.YtmjeilhppgdmfaaDoor
open Go.RowKit
set_option linter.unusedVariables false

theorem isB_eight (w : World) (t : TypeId) (fr : Nat × Nat) : IsB (w.alloc (.cells #[.int .u8 72, .int .u8 105, .int .u8 32, .int .u8 84, .int .u8 104, .int .u8 101, .int .u8 114, .int .u8 101] t fr)) (.slice (some ⟨w.heap.size, 0, none⟩) 8 8) [72, 105, 32, 84, 104, 101, 114, 101] := by
  refine ⟨_, 8, rfl, Nat.le_refl _, by unfold maxLen; omega, .inr ⟨w.heap.size, 0, rfl, fun i hi => ?_⟩⟩
  rw [World.cell?_alloc_mark]
  match i, hi with
  | 0, _ => rfl
  | 1, _ => rfl
  | 2, _ => rfl
  | 3, _ => rfl
  | 4, _ => rfl
  | 5, _ => rfl
  | 6, _ => rfl
  | 7, _ => rfl

/-- The awake key's bytes behind k rounds. -/
def filled (k : Nat) : List UInt8 := List.replicate k 11 ++ List.replicate (20 - k) 0

theorem filled_length (k : Nat) (h : k ≤ 20) : (filled k).length = 20 := by simp [filled]; omega

theorem filled_get (k : Nat) (h : k < 20) : (filled k).getD k 0 = 0 := by
  obtain ⟨m, hm⟩ : ∃ m, 20 - k = m + 1 := ⟨19 - k, by omega⟩
  rw [filled, hm, List.replicate_succ, List.getD_eq_getElem?_getD, List.getElem?_append_right (by simp), List.length_replicate, Nat.sub_self]
  rfl

theorem filled_set (k : Nat) (h : k < 20) : (Lib.byteCells (filled k)).set k (.int .u8 11) = Lib.byteCells (filled (k + 1)) := by
  obtain ⟨m, hm⟩ : ∃ m, 20 - k = m + 1 := ⟨19 - k, by omega⟩
  rw [filled, filled, hm, show 20 - (k + 1) = m by omega, byteCells_append, List.set_append_right _ _ (by rw [byteCells_length]; simp), byteCells_length, List.length_replicate, Nat.sub_self, List.replicate_succ (n := m),
    List.replicate_succ' (n := k), byteCells_append, byteCells_append, List.append_assoc]
  rfl

theorem macAwake_any (w : World) (hL : Laid w) :
    Calls Tryd.prog 7 #[] w fun e w' => e = .returned (.bool true) ∧ Below w.heap.size w w' := by
  obtain ⟨A, hA⟩ : ∃ A, A = M.mac (List.replicate 20 11) [72, 105, 32, 84, 104, 101, 114, 101] := ⟨_, rfl⟩
  have HA0 : Hid (A.getD 0 0 = 176) := by rw [Hid, hA, getD_of_take _ 4 0 _ M.mac_hi (by decide)]; rfl
  have HA1 : Hid (A.getD 1 0 = 52) := by rw [Hid, hA, getD_of_take _ 4 1 _ M.mac_hi (by decide)]; rfl
  have HA2 : Hid (A.getD 2 0 = 76) := by rw [Hid, hA, getD_of_take _ 4 2 _ M.mac_hi (by decide)]; rfl
  have HA3 : Hid (A.getD 3 0 = 97) := by rw [Hid, hA, getD_of_take _ 4 3 _ M.mac_hi (by decide)]; rfl
  have HAL : Hid (A.length = 32) := by rw [Hid, hA]; exact M.mac_length _ _
  have HL : Hid (Laid w) := hL
  have CA := fun w' v v2 (h1 : Laid w') (h2 : IsB w' v (List.replicate 20 11)) (h3 : IsB w' v2 [72, 105, 32, 84, 104, 101, 114, 101]) => mac_any v v2 _ _ w' h1 h2 h3 (by simp) (by simp)
  simp only [← hA] at CA
  have HCA := Lib.hid CA
  clear hA hL CA
  go_enter Tryd.func7, Tryd.ntmps7
  go_wp2_with (refine wpList_make_cap _ rfl _ _ rfl .i64 .i64 _ _ 20 20 rfl rfl rfl rfl (by omega) (by omega) ?_; intro w1 o1 k1)
  have O1 : Hid (Own w1 w.heap.size (.slice (some ⟨w.heap.size, 0, none⟩) 20 20) (filled 0)) := o1
  clear o1
  go_loopw [2] (fun i wr => ∃ k : Nat, k ≤ 20 ∧ i = .int .i64 k ∧ Hid (Own wr w.heap.size (.slice (some ⟨w.heap.size, 0, none⟩) 20 20) (filled k)) ∧ Below w.heap.size w wr)
    (fun i _ => 20 - (intOf i).toNat)
  case atStart => exact ⟨0, by omega, rfl, O1, k1⟩
  case round =>
    clear O1 k1
    rename_i wr
    obtain ⟨k, hk, rfl, oo, kk⟩ := hrel
    by_cases hlt : k < 20
    · have hrow : wr.ownsRow w.heap.size 5 1 (.slice (some ⟨w.heap.size, 0, none⟩) 20 20) 20 (Lib.byteCells (filled k)) := by
        have := oo.out
        rwa [Own, filled_length k (by omega)] at this
      have hc : wr.cell? ⟨w.heap.size, k, none⟩ = some (.int .u8 0) := by
        rw [hrow.cellAt k (by omega), byteCells_getElem? _ k (by rw [filled_length k (by omega)]; exact hlt), filled_get k hlt]
        rfl
      have hf : wr.frozen? ⟨w.heap.size, k, none⟩ = false := hrow.frozenAt k
      have s1 := (hrow.stored k (.int .u8 11)).1
      have S1 : Hid (Own (wr.setCell ⟨w.heap.size, k, none⟩ (.int .u8 11)) w.heap.size (.slice (some ⟨w.heap.size, 0, none⟩) 20 20) (filled (k + 1))) := by
        rw [filled_set k hlt] at s1
        rw [Hid, Own, filled_length (k + 1) (by omega)]
        exact s1
      clear hrow s1 oo
      go_wp2
      go_roundw
      case rel => exact ⟨k + 1, by omega, by go_num, S1, kk.setCell (Nat.le_refl _) _⟩
      case measure => simp [intOf]; omega
    · obtain rfl : k = 20 := by omega
      have o20 : IsB wr (.slice (some ⟨w.heap.size, 0, none⟩) 20 20) (List.replicate 20 11) := oo.out.isB
      have O20 := Lib.hid o20
      have hsz : w.heap.size ≤ wr.heap.size := kk.size
      obtain ⟨wA, rfl⟩ : ∃ x, x = wr := ⟨_, rfl⟩
      clear oo o20
      have kc := fun (w : World) (C : Array Value) (n c : Nat) => Lib.run_convert_bytes_const (P := Tryd.prog) w 22 5 C n c Tryd.underlying22 Tryd.underlying5
      go_wp2_with fail
      clear kc
      refine (HCA.out _ _ _ (HL.out.below (kk.alloc hsz _) HL.out.size) (O20.out.below ((Below.refl _ _).alloc (Nat.le_refl _) _)) (isB_eight wA 5 _)).mono ?_
      rintro e w2 ⟨r2, rfl, o2, k2⟩
      have kk2 : Below w.heap.size w w2 := (kk.alloc hsz _).trans (k2.mono (by simp; omega))
      have O2 := Lib.hid o2
      clear o2 k2 O20 kk
      go_wp2_with fail
      refine (expand_no _ _ 8161 w2 (.inr (by decide))).mono ?_
      rintro e w3 ⟨rfl, rfl⟩
      obtain ⟨g1, c1, rfl, _⟩ := O2.out.shape (by rw [HAL.out]; decide)
      have x0 : w3.cell? ⟨g1, 0, none⟩ = some (.int .u8 176) := by rw [O2.out.row.cellAt 0 (by rw [HAL.out]; decide), byteCells_getElem? _ _ (by rw [HAL.out]; decide), HA0.out]; rfl
      have x1 : w3.cell? ⟨g1, 1, none⟩ = some (.int .u8 52) := by rw [O2.out.row.cellAt 1 (by rw [HAL.out]; decide), byteCells_getElem? _ _ (by rw [HAL.out]; decide), HA1.out]; rfl
      have x2 : w3.cell? ⟨g1, 2, none⟩ = some (.int .u8 76) := by rw [O2.out.row.cellAt 2 (by rw [HAL.out]; decide), byteCells_getElem? _ _ (by rw [HAL.out]; decide), HA2.out]; rfl
      have x3 : w3.cell? ⟨g1, 3, none⟩ = some (.int .u8 97) := by rw [O2.out.row.cellAt 3 (by rw [HAL.out]; decide), byteCells_getElem? _ _ (by rw [HAL.out]; decide), HA3.out]; rfl
      rw [HAL.out]
      clear O2
      go_wp2
      go_ret
      exact ⟨rfl, kk2⟩

end Go.Proofs.YtmjeilhppgdmfaaDoor
