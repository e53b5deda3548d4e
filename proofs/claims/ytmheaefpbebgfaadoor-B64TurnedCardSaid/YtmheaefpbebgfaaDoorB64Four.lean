/-
  CONTRACT OF b64.four: a group's four letters. Conditions: a number below 2^24.
-/
import Derived.Test.YtmheaefpbebgfaaDoorB64M2
import Derived.Test.YtmheaefpbebgfaaDoorShaMem
import Derived.WalkSpells
import Derived.Lib.Hide
namespace Go.Proofs.YtmheaefpbebgfaaDoor
open Go.RowKit
set_option linter.unusedVariables false
set_option maxRecDepth 100000

/-- Letter k of a group. -/
def M.let4 (g k : Nat) : UInt8 := M.let64 (g / 2 ^ (6 * (3 - k)) % 64)
def M.lets (g k : Nat) : List UInt8 := (List.range k).map (M.let4 g)
theorem M.lets_len (g k : Nat) : (M.lets g k).length = k := by simp [M.lets]
theorem M.lets_next (g k : Nat) : M.lets g (k + 1) = M.lets g k ++ [M.let4 g k] := by rw [M.lets, M.lets, List.range_succ, List.map_append]; rfl

/-- The program's row of letters. -/
def M.row64 : List UInt8 := [65, 66, 67, 68, 69, 70, 71, 72, 73, 74, 75, 76, 77, 78, 79, 80, 81, 82, 83, 84, 85, 86, 87, 88, 89, 90, 97, 98, 99, 100, 101, 102, 103, 104, 105, 106, 107, 108, 109, 110, 111, 112, 113, 114, 115, 116, 117, 118, 119, 120, 121, 122, 48, 49, 50, 51, 52, 53, 54, 55, 56, 57, 43, 47]

theorem M.row_let : ∀ x : Fin 64, M.row64[x.val]'x.isLt = M.let64 x.val := by decide +kernel

theorem M.row_at (x : Nat) (h : x < 64) : ((ByteArray.mk #[65, 66, 67, 68, 69, 70, 71, 72, 73, 74, 75, 76, 77, 78, 79, 80, 81, 82, 83, 84, 85, 86, 87, 88, 89, 90, 97, 98, 99, 100, 101, 102, 103, 104, 105, 106, 107, 108, 109, 110, 111, 112, 113, 114, 115, 116, 117, 118, 119, 120, 121, 122, 48, 49, 50, 51, 52, 53, 54, 55, 56, 57, 43, 47])[x]'h) = M.let64 x := M.row_let ⟨x, h⟩

theorem and63 (x : Nat) (h : x < 16777216) : bits BinOp.and .u32 (x : Int) 63 = ((x % 64 : Nat) : Int) := by
  have e := u32_and_nat x 63 (by omega) (by omega)
  have e15 : x &&& 63 = x % 64 := Nat.and_two_pow_sub_one_eq_mod x 6
  rw [e15] at e
  exact e

theorem M.four_lets (g n : Nat) : M.four g n = if n = 1 then [M.let4 g 0, M.let4 g 1, 61, 61] else if n = 2 then [M.let4 g 0, M.let4 g 1, M.let4 g 2, 61] else [M.let4 g 0, M.let4 g 1, M.let4 g 2, M.let4 g 3] := by
  by_cases h1 : n = 1
  · subst h1; rfl
  · by_cases h2 : n = 2
    · subst h2; rfl
    · rw [if_neg h1, if_neg h2, M.four, if_neg h1, if_neg (by omega)]
      show _ = [_, _, _, M.let64 (g / 1 % 64)]
      rw [Nat.div_one]
      rfl

theorem lets4 (g : Nat) : Lib.byteCells (M.lets g 4 ++ List.replicate (4 - 4) 0) = [.int .u8 ((M.let4 g 0).toNat : Int), .int .u8 ((M.let4 g 1).toNat : Int), .int .u8 ((M.let4 g 2).toNat : Int), .int .u8 ((M.let4 g 3).toNat : Int)] := rfl

theorem set_next64 (xs : List Value) (u : Value) (k m : Nat) (hk : xs.length = k) (hm : 0 < m) : (xs ++ Lib.byteCells (List.replicate m 0)).set k u = (xs ++ [u]) ++ Lib.byteCells (List.replicate (m - 1) 0) := by
  have e : ∀ m, Lib.byteCells (List.replicate m 0) = List.replicate m (.int .u8 0) := fun m => by simp [Lib.byteCells]
  rw [e, e]
  exact set_next xs u _ k m hk hm


set_option maxHeartbeats 2000000 in
theorem four_any (g n : Nat) (w : World) (hg : g < 16777216) :
    Calls Tryd.prog 15 #[.int .u32 (g : Int), .int .i64 (n : Int)] w fun e w' => e = .returned (.agg (Lib.byteCells (M.four g n)).toArray) ∧ Below w.heap.size w w' := by
  have HG := Lib.hid hg
  clear hg
  go_enter Tryd.func15, Tryd.ntmps15
  go_wp2
  go_loopw [6, 7] (fun x i wr => ∃ k : Nat, i = .int .i64 (k : Int) ∧ Hid (k ≤ 4) ∧ Hid (Blk wr w.heap.size 41 (List.replicate 4 (.int .u8 0))) ∧ Hid (Blk wr (w.heap.size + 1) 41 (Lib.byteCells (M.lets g k ++ List.replicate (4 - k) 0))) ∧ Hid (Below w.heap.size w wr))
    (fun _ i _ => 4 - (intOf i).toNat)
  case atStart =>
    refine ⟨0, rfl, Nat.zero_le _, ?_, ?_, ((Below.refl _ w).alloc (Nat.le_refl _) _).alloc (by simp) _⟩
    · exact (Blk.newAt _ _ _ _ _ rfl rfl).alloc _
    · exact Blk.newAt _ _ _ _ _ (by simp) rfl
  case round =>
    obtain ⟨wz, rfl⟩ : ∃ x, x = wr := ⟨_, rfl⟩
    obtain ⟨k, rfl, hk, bz, bs, kk⟩ := hrel
    by_cases hlt : k < 4
    · obtain ⟨j, hj⟩ : ∃ j, j = 3 - k := ⟨_, rfl⟩
      have b1 : (k : Int) < 4 := by omega
      have n1 : wrap64 (3 - (k : Int)) = (j : Int) := by unfold wrap64; omega
      have n2 : wrap64 (6 * (j : Int)) = ((6 * j : Nat) : Int) := by unfold wrap64; omega
      obtain ⟨y, hy⟩ : ∃ y, y = g / 2 ^ (6 * (3 - k)) := ⟨_, rfl⟩
      have hyl : y < 16777216 := by rw [hy]; exact Nat.lt_of_le_of_lt (Nat.div_le_self _ _) HG.out
      have hyi : (g : Int) / 2 ^ (6 * (3 - k)) = (y : Int) := by rw [hy]; simp
      obtain ⟨x, hx⟩ : ∃ x, x = y % 64 := ⟨_, rfl⟩
      have ha := and63 y hyl
      rw [← hx] at ha
      have hx64 : x < 64 := by omega
      have hxi : (x : Int) < 64 := by omega
      have hx0 : (0 : Int) ≤ (x : Int) := Int.natCast_nonneg x
      have hr := M.row_at x hx64
      obtain ⟨c, hc⟩ : ∃ c, c = M.let64 x := ⟨_, rfl⟩
      rw [← hc] at hr
      have HLET : Hid (M.let4 g k = c) := by rw [Hid, hc, hx, hy]; rfl
      have hcell : ∃ u, wz.cell? ⟨w.heap.size + 1, k, none⟩ = some u := by
        refine ⟨_, (bs.out.cell k).trans (List.getElem?_eq_getElem ?_)⟩
        rw [byteCells_length, List.length_append, M.lets_len, List.length_replicate]
        omega
      obtain ⟨u, hu⟩ := hcell
      have hf : wz.frozen? ⟨w.heap.size + 1, k, none⟩ = false := bs.out.frozen k
      have HLT := Lib.hid hlt
      clear hj hy hyl hx hc
      go_wp2
      go_roundw
      case rel =>
        refine ⟨k + 1, by go_num, HLT.out, ?_, ?_, ?_⟩
        · exact bz.out.far (by show w.heap.size ≠ w.heap.size + 1; omega) _
        · have h := bs.out.set_ k (.int .u8 (c.toNat : Int))
          refine h.eq_ ?_
          rw [byteCells_append, set_next64 _ _ k (4 - k) (by rw [byteCells_length, M.lets_len]) (by have := HLT.out; omega), M.lets_next, byteCells_append, byteCells_append, HLET.out, Nat.sub_add_eq]
          rfl
        · exact kk.out.setCell (p := ⟨w.heap.size + 1, k, none⟩) (by show w.heap.size ≤ w.heap.size + 1; omega) _
      case measure => simp [intOf]; omega
    · have b1 : ¬ (k : Int) < 4 := by omega
      obtain rfl : k = 4 := by have := hk.out; omega
      rw [lets4] at bs
      have HF := Lib.hid (M.four_lets g n)
      clear hlt
      have c2 : wz.cell? ⟨w.heap.size + 1, 2, none⟩ = some (.int .u8 ((M.let4 g 2).toNat : Int)) := bs.out.cell 2
      have c3 : wz.cell? ⟨w.heap.size + 1, 3, none⟩ = some (.int .u8 ((M.let4 g 3).toNat : Int)) := bs.out.cell 3
      have f2 : wz.frozen? ⟨w.heap.size + 1, 2, none⟩ = false := bs.out.frozen 2
      have f3 : wz.frozen? ⟨w.heap.size + 1, 3, none⟩ = false := bs.out.frozen 3
      have hne : w.heap.size ≠ w.heap.size + 1 := by omega
      have HNE := Lib.hid hne
      clear hne
      by_cases h1 : n = 1
      · obtain ⟨C, hC⟩ : ∃ C, C = [M.let4 g 0, M.let4 g 1, 61, 61] := ⟨_, rfl⟩
        have HCL : Hid (C.length = 4) := by rw [hC]; rfl
        have HC : Hid (M.four g n = C) := by rw [Hid, HF.out, if_pos h1, hC]
        have b2 : (n : Int) = 1 := by omega
        have N3 : Hid (Blk ((wz.setCell ⟨w.heap.size + 1, 2, none⟩ (.int .u8 61)).setCell ⟨w.heap.size + 1, 3, none⟩ (.int .u8 61)) (w.heap.size + 1) 41 (Lib.byteCells C)) := by
          rw [hC]
          exact (bs.out.set_ 2 _).set_ 3 _
        have Z3 : Hid (Blk ((wz.setCell ⟨w.heap.size + 1, 2, none⟩ (.int .u8 61)).setCell ⟨w.heap.size + 1, 3, none⟩ (.int .u8 61)) w.heap.size 41 (List.replicate 4 (.int .u8 0))) := (bz.out.far HNE.out _).far HNE.out _
        have K3 : Hid (Below w.heap.size w ((wz.setCell ⟨w.heap.size + 1, 2, none⟩ (.int .u8 61)).setCell ⟨w.heap.size + 1, 3, none⟩ (.int .u8 61))) := (kk.out.setCell (p := ⟨w.heap.size + 1, 2, none⟩) (Nat.le_succ _) _).setCell (p := ⟨w.heap.size + 1, 3, none⟩) (Nat.le_succ _) _
        clear hC bs bz kk h1 HF
        go_upto_region 12 with fail
        have R3 : Hid (((wz.setCell ⟨w.heap.size + 1, 2, none⟩ (.int .u8 61)).setCell ⟨w.heap.size + 1, 3, none⟩ (.int .u8 61)).rangeAt (w.heap.size + 1) 0 (Lib.byteCells C)) := N3.out.range 0 _ [] (by simp)
        clear N3
        go_wp2_with (first
          | (refine wpList_load_mid rfl 41 (.tmp 5) rfl (w.heap.size + 1) 0 rfl (Lib.byteCells C) _ R3.out Tryd.underlying41 rfl (by rw [byteCells_length, HCL.out]; kernel_rfl) ?_)
          | (refine wpList_store_blk rfl 41 (.tmp 4) (.tmp 29) rfl w.heap.size (Lib.byteCells C).toArray rfl rfl 41 (List.replicate 4 (.int .u8 0)) Z3.out (by rw [List.size_toArray, byteCells_length, HCL.out]; kernel_rfl) (by rw [List.size_toArray, byteCells_length, HCL.out]; rfl) (byteCells_oneCell _) ?_; intro w5 hb5 ho5))
        exact bodyPost_ret (results_cell_row rfl _ _ w.heap.size _ _ _ _ rfl hb5 Tryd.underlying41 rfl (by rw [List.size_toArray, byteCells_length, HCL.out]; kernel_rfl)) rfl ⟨by rw [HC.out], K3.out.trans (ho5.below K3.out.size (Nat.le_refl _))⟩
      by_cases h2 : n = 2
      · obtain ⟨C, hC⟩ : ∃ C, C = [M.let4 g 0, M.let4 g 1, M.let4 g 2, 61] := ⟨_, rfl⟩
        have HCL : Hid (C.length = 4) := by rw [hC]; rfl
        have HC : Hid (M.four g n = C) := by rw [Hid, HF.out, if_neg h1, if_pos h2, hC]
        have b2 : (n : Int) = 2 := by omega
        have N3 : Hid (Blk (wz.setCell ⟨w.heap.size + 1, 3, none⟩ (.int .u8 61)) (w.heap.size + 1) 41 (Lib.byteCells C)) := by
          rw [hC]
          exact bs.out.set_ 3 _
        have Z3 : Hid (Blk (wz.setCell ⟨w.heap.size + 1, 3, none⟩ (.int .u8 61)) w.heap.size 41 (List.replicate 4 (.int .u8 0))) := bz.out.far HNE.out _
        have K3 : Hid (Below w.heap.size w (wz.setCell ⟨w.heap.size + 1, 3, none⟩ (.int .u8 61))) := kk.out.setCell (p := ⟨w.heap.size + 1, 3, none⟩) (Nat.le_succ _) _
        clear hC bs bz kk h1 h2 HF
        go_upto_region 12 with fail
        have R3 : Hid ((wz.setCell ⟨w.heap.size + 1, 3, none⟩ (.int .u8 61)).rangeAt (w.heap.size + 1) 0 (Lib.byteCells C)) := N3.out.range 0 _ [] (by simp)
        clear N3
        go_wp2_with (first
          | (refine wpList_load_mid rfl 41 (.tmp 5) rfl (w.heap.size + 1) 0 rfl (Lib.byteCells C) _ R3.out Tryd.underlying41 rfl (by rw [byteCells_length, HCL.out]; kernel_rfl) ?_)
          | (refine wpList_store_blk rfl 41 (.tmp 4) (.tmp 29) rfl w.heap.size (Lib.byteCells C).toArray rfl rfl 41 (List.replicate 4 (.int .u8 0)) Z3.out (by rw [List.size_toArray, byteCells_length, HCL.out]; kernel_rfl) (by rw [List.size_toArray, byteCells_length, HCL.out]; rfl) (byteCells_oneCell _) ?_; intro w5 hb5 ho5))
        exact bodyPost_ret (results_cell_row rfl _ _ w.heap.size _ _ _ _ rfl hb5 Tryd.underlying41 rfl (by rw [List.size_toArray, byteCells_length, HCL.out]; kernel_rfl)) rfl ⟨by rw [HC.out], K3.out.trans (ho5.below K3.out.size (Nat.le_refl _))⟩
      · obtain ⟨C, hC⟩ : ∃ C, C = [M.let4 g 0, M.let4 g 1, M.let4 g 2, M.let4 g 3] := ⟨_, rfl⟩
        have HCL : Hid (C.length = 4) := by rw [hC]; rfl
        have HC : Hid (M.four g n = C) := by rw [Hid, HF.out, if_neg h1, if_neg h2, hC]
        have b2 : ¬ (n : Int) = 1 := by omega
        have b3 : ¬ (n : Int) = 2 := by omega
        have N3 : Hid (Blk wz (w.heap.size + 1) 41 (Lib.byteCells C)) := by
          rw [hC]
          exact bs.out
        have Z3 := bz
        have K3 := kk
        clear hC bs h1 h2 HF
        go_upto_region 12 with fail
        have R3 : Hid (wz.rangeAt (w.heap.size + 1) 0 (Lib.byteCells C)) := N3.out.range 0 _ [] (by simp)
        clear N3
        go_wp2_with (first
          | (refine wpList_load_mid rfl 41 (.tmp 5) rfl (w.heap.size + 1) 0 rfl (Lib.byteCells C) _ R3.out Tryd.underlying41 rfl (by rw [byteCells_length, HCL.out]; kernel_rfl) ?_)
          | (refine wpList_store_blk rfl 41 (.tmp 4) (.tmp 29) rfl w.heap.size (Lib.byteCells C).toArray rfl rfl 41 (List.replicate 4 (.int .u8 0)) Z3.out (by rw [List.size_toArray, byteCells_length, HCL.out]; kernel_rfl) (by rw [List.size_toArray, byteCells_length, HCL.out]; rfl) (byteCells_oneCell _) ?_; intro w5 hb5 ho5))
        exact bodyPost_ret (results_cell_row rfl _ _ w.heap.size _ _ _ _ rfl hb5 Tryd.underlying41 rfl (by rw [List.size_toArray, byteCells_length, HCL.out]; kernel_rfl)) rfl ⟨by rw [HC.out], K3.out.trans (ho5.below K3.out.size (Nat.le_refl _))⟩

end Go.Proofs.YtmheaefpbebgfaaDoor
