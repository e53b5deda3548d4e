/-
  CONTRACTS OF mac.keyBlock, mac.under's two closures, mac.under, mac.Mac AND mac.Extract. Conditions: the program's two tables of layer 2 lie as they were laid.
-/
import Derived.Test.YtmjeilhppgdmfaaDoorMacMath
import Derived.Test.YtmjeilhppgdmfaaDoorShaSum
import Derived.Deep.RegionHeld3
import Derived.Lib.Hide
namespace Go.Proofs.YtmjeilhppgdmfaaDoor
open Go.RowKit
set_option linter.unusedVariables false

theorem b_xor (a b : UInt8) : bits BinOp.xor .u8 (a.toNat : Int) (b.toNat : Int) = ((a ^^^ b).toNat : Int) := by
  rw [u8_xor_nat _ _ a.toNat_lt b.toNat_lt, UInt8.toNat_xor]

/-- The cells behind a copy into zeros. -/
theorem splice_zeros (bs : List UInt8) (n : Nat) (h : bs.length ≤ n) : splice (List.replicate n (.int .u8 0)) 0 (Lib.byteCells bs) = Lib.byteCells (bs ++ List.replicate (n - bs.length) 0) := by
  simp [splice, Lib.byteCells]

theorem bytes_oneCell' (bs : List UInt8) : ∀ v ∈ (Lib.byteCells bs).toArray.toList, v.oneCell' = true := by
  intro v hv
  exact byteCells_oneCell bs v (by simpa using hv)

theorem keyBlock_tail (g : Nat) (bs : List UInt8) : ∀ w : World, Blk w g 43 (splice (List.replicate 64 (.int .u8 0)) 0 (Lib.byteCells bs)) → bs.length ≤ 64 → w.rangeAt g 0 (Lib.byteCells (bs ++ List.replicate (64 - bs.length) 0)) := by
  intro w h hl
  rw [splice_zeros bs 64 hl] at h
  exact h.range 0 _ [] (by simp)

theorem keyBlock_any (v : Value) (bs : List UInt8) (w : World) (hL : Laid w) (hv : IsB w v bs) (hlen : bs.length ≤ 562949953421312) :
    Calls Tryd.prog 23 #[v] w fun e w' => e = .returned (.agg (Lib.byteCells (M.block bs)).toArray) ∧ Below w.heap.size w w' := by
  obtain ⟨ao, cap, rfl⟩ : ∃ ao cap, v = .slice ao bs.length cap := by
    obtain ⟨ao, cap, e, _⟩ := hv
    exact ⟨ao, cap, e⟩
  have HV : Hid (IsB w (.slice ao bs.length cap) bs) := hv
  have HL : Hid (Laid w) := hL
  obtain ⟨C, hC⟩ : ∃ C, C = M.block bs := ⟨_, rfl⟩
  rw [← hC]
  have HCL : Hid (C.length = 64) := by rw [Hid, hC]; exact M.block_length bs
  have HC : Hid (C = M.block bs) := hC
  clear hv hL hC
  by_cases hk : 64 < bs.length
  · go_enter Tryd.func23, Tryd.ntmps23
    go_wp2_with fail
    refine (of_any _ bs _ (HL.out.below ((Below.refl _ _).alloc (Nat.le_refl _) _) HL.out.size) (HV.out.below ((Below.refl _ _).alloc (Nat.le_refl _) _)) hlen).mono ?_
    rintro e w1 ⟨r1, rfl, o1, b1⟩
    have hb0 : Blk w1 w.heap.size 43 (List.replicate 64 (.int .u8 0)) := (Blk.newAt _ _ _ _ _ rfl rfl).below b1 (by simp)
    have k1 : Below w.heap.size w w1 := ((Below.refl _ _).alloc (Nat.le_refl _) _).trans (b1.mono (by simp))
    obtain ⟨D, hD⟩ : ∃ D, D = M.sha bs := ⟨_, rfl⟩
    have hDl : D.length = 32 := by rw [hD]; exact M.sha_length bs
    have HCD : Hid (C = D ++ List.replicate (64 - D.length) 0) := by rw [Hid, HC.out, hD, M.block, M.keyHead, if_pos hk]
    rw [← hD] at o1
    obtain ⟨g1, c1, rfl, _⟩ := o1.shape (by omega)
    have O1 : Hid (Own w1 (w.alloc (.cells #[] 0)).heap.size (.slice (some ⟨g1, 0, none⟩) D.length c1) D) := by
      simpa [Hid] using o1
    have HB0 : Hid (Blk w1 w.heap.size 43 (List.replicate 64 (.int .u8 0))) := hb0
    have HDL : Hid (D.length = 32) := hDl
    have hw1 : w.heap.size < w1.heap.size := hb0.lt
    rw [hDl]
    clear b1 hD o1 hb0 hDl
    go_wp2_with (refine wpList_copy_blk rfl (.tmp 9) (.tmp 10) 22 22 rfl 5 Tryd.underlying22 (by kernel_rfl) (some ⟨w1.heap.size, 0, none⟩) (some ⟨g1, 0, none⟩) 64 64 32 c1 rfl rfl w1.heap.size 0 (List.replicate 64 (.int .u8 0)) 43 (Blk.newAt _ _ _ _ _ rfl rfl) (Lib.byteCells D) (by rw [byteCells_length, HDL.out]; rfl) (fun _ => ⟨rfl, _, rfl, ?p2⟩) (by rw [byteCells_length, HDL.out]; decide) (byteCells_oneCell _) ?_)
    case p2 => exact ((O1.out.below ((Below.refl _ _).alloc (Nat.le_refl _) _))).cells
    intro w2 hb2 ho2
    have B3 : Blk w2 w.heap.size 43 (List.replicate 64 (.int .u8 0)) := (HB0.out.alloc _).grown ho2 (by intro e; injection e with e; omega)
    have R3 : Hid (w2.rangeAt w1.heap.size 0 (Lib.byteCells C)) := by rw [Hid, HCD.out]; exact keyBlock_tail _ D _ hb2 (by rw [HDL.out]; decide)
    have H3 : Hid (Blk w2 w.heap.size 43 (List.replicate 64 (.int .u8 0))) := B3
    clear B3 hb2
    go_wp2_with (first
      | (refine wpList_load_mid rfl 43 (.tmp 3) rfl w1.heap.size 0 rfl (Lib.byteCells C) _ R3.out Tryd.underlying43 rfl (by rw [byteCells_length, HCL.out]; kernel_rfl) ?_)
      | (refine wpList_store_blk rfl 43 (.tmp 2) (.tmp 12) rfl w.heap.size (Lib.byteCells C).toArray rfl rfl 43 (List.replicate 64 (.int .u8 0)) H3.out (by rw [List.size_toArray, byteCells_length, HCL.out]; kernel_rfl) (by rw [List.size_toArray, byteCells_length, HCL.out, List.length_replicate]) (bytes_oneCell' C) ?_; intro w3 hb3 ho3))
    have k3 : Below w.heap.size w w3 := ((k1.alloc (Nat.le_of_lt hw1) _).trans (ho2.below (by simp; omega) (by omega))).trans (ho3.below (Nat.le_trans (by simp; omega) ho2.size) (Nat.le_refl _))
    exact bodyPost_ret (results_cell_row rfl _ _ w.heap.size _ _ _ _ rfl hb3 Tryd.underlying43 rfl (by rw [Array.toArray_toList, List.size_toArray, byteCells_length, HCL.out]; kernel_rfl)) rfl ⟨by rw [Array.toArray_toList], k3⟩
  · have HCD : Hid (C = bs ++ List.replicate (64 - bs.length) 0) := by rw [Hid, HC.out, M.block, M.keyHead, if_neg hk]
    have hk2 : bs.length ≤ 64 := by omega
    go_enter Tryd.func23, Tryd.ntmps23
    go_wp2_with (refine wpList_copy_blk rfl (.tmp 9) (.tmp 10) 22 22 rfl 5 Tryd.underlying22 (by kernel_rfl) (some ⟨w.heap.size + 1, 0, none⟩) ao 64 64 bs.length cap rfl rfl (w.heap.size + 1) 0 (List.replicate 64 (.int .u8 0)) 43 (Blk.newAt _ _ _ _ _ (by simp) rfl) (Lib.byteCells bs) (by rw [byteCells_length]; exact (Nat.min_eq_left hk2).symm) ?p2 (by rw [byteCells_length, List.length_replicate]; omega) (byteCells_oneCell _) ?_)
    case p2 =>
      intro hpos
      try refine ⟨rfl, ?_⟩
      have h := (HV.out.below ((Below.refl w.heap.size w).alloc (Nat.le_refl _) (.cells (Array.replicate 64 (.int .u8 0)) 43))).below ((Below.refl _ _).alloc (Nat.le_refl _) (.cells (Array.replicate 64 (.int .u8 0)) 43))
      obtain ⟨_, hn, hc⟩ := h.cells
      cases ao with
      | none =>
        rw [hn rfl] at hpos
        simp [Lib.byteCells] at hpos
      | some ad => exact ⟨ad, rfl, hc ad rfl⟩
    intro w2 hb2 ho2
    have B3 : Blk w2 w.heap.size 43 (List.replicate 64 (.int .u8 0)) := ((Blk.newAt _ _ _ _ _ rfl rfl).alloc _).grown ho2 (by intro e; injection e with e; omega)
    have R3 : Hid (w2.rangeAt (w.heap.size + 1) 0 (Lib.byteCells C)) := by rw [Hid, HCD.out]; exact keyBlock_tail _ bs _ hb2 hk2
    have H3 : Hid (Blk w2 w.heap.size 43 (List.replicate 64 (.int .u8 0))) := B3
    clear B3 hb2
    go_wp2_with (first
      | (refine wpList_load_mid rfl 43 (.tmp 3) rfl (w.heap.size + 1) 0 rfl (Lib.byteCells C) _ R3.out Tryd.underlying43 rfl (by rw [byteCells_length, HCL.out]; kernel_rfl) ?_)
      | (refine wpList_store_blk rfl 43 (.tmp 2) (.tmp 12) rfl w.heap.size (Lib.byteCells C).toArray rfl rfl 43 (List.replicate 64 (.int .u8 0)) H3.out (by rw [List.size_toArray, byteCells_length, HCL.out]; kernel_rfl) (by rw [List.size_toArray, byteCells_length, HCL.out, List.length_replicate]) (bytes_oneCell' C) ?_; intro w3 hb3 ho3))
    have k3 : Below w.heap.size w w3 := ((((Below.refl _ _).alloc (Nat.le_refl _) _).alloc (by simp) _).trans (ho2.below (by simp; omega) (by omega))).trans (ho3.below (Nat.le_trans (by simp; omega) ho2.size) (Nat.le_refl _))
    exact bodyPost_ret (results_cell_row rfl _ _ w.heap.size _ _ _ _ rfl hb3 Tryd.underlying43 rfl (by rw [Array.toArray_toList, List.size_toArray, byteCells_length, HCL.out]; kernel_rfl)) rfl ⟨by rw [Array.toArray_toList], k3⟩

end Go.Proofs.YtmjeilhppgdmfaaDoor
