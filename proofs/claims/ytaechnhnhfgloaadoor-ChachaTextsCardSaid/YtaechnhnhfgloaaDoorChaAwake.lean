/-
  orloplaw04.awake RETURNS true (what the document fixes as an example). Conditions: the program's table of places lies as it was laid.
-/
import Derived.Test.YtaechnhnhfgloaaDoorChaBeg
import Derived.Test.YtaechnhnhfgloaaDoorAppend
namespace Go.Proofs.YtaechnhnhfgloaaDoor
open Go.RowKit
set_option linter.unusedVariables false

theorem getD_take (l : List UInt8) (n i : Nat) (ys : List UInt8) (h : l.take n = ys) (hi : i < n) : l.getD i 0 = ys.getD i 0 := by
  rw [← h]
  simp [List.getD_eq_getElem?_getD, hi]

/-- The numbers below k, as bytes. -/
def upBytes : Nat → List UInt8
  | 0 => []
  | k + 1 => upBytes k ++ [UInt8.ofNat k]

theorem upBytes_length (k : Nat) : (upBytes k).length = k := by
  induction k with
  | zero => rfl
  | succ k ih => simp [upBytes, ih]

theorem upBytes_key : upBytes 32 = M.key0 := by decide +kernel

theorem chaAwake_any (w : World) (hL : LaidP w) :
    Calls Tryd.prog 7 #[] w fun e w' => e = .returned (.bool true) ∧ Below w.heap.size w w' := by
  have HL := Lib.hid hL
  have HC := Lib.hid (show ∀ kv nv w', LaidP w' → IsB w' kv M.key0 → IsB w' nv M.nonce0 → Calls Tryd.prog 8 #[kv, nv, .int .u32 1] w' fun e w1 => ∃ g, e = .returned (.tuple #[.slice (some ⟨g, 0, none⟩) 64 64, .int .i64 0]) ∧ w'.heap.size ≤ g ∧ IsB w1 (.slice (some ⟨g, 0, none⟩) 64 64) (M.cblk M.key0 M.nonce0 1) ∧ Below w'.heap.size w' w1 from
    fun kv nv w' h1 h2 h3 => block_any kv nv M.key0 M.nonce0 1 w' h1 h2 h3 rfl rfl)
  have HN := Lib.hid (show ∀ w', Calls Tryd.prog 8 #[.slice none 0 0, .slice none 0 0, .int .u32 1] w' fun e w1 => e = .returned (.tuple #[.slice none 0 0, .int .i64 1]) ∧ w1 = w' from
    fun w' => block_no _ _ [] [] 1 w' (IsB.nil w') (IsB.nil w') (by simp))
  obtain ⟨C, hC⟩ : ∃ C, C = M.cblk M.key0 M.nonce0 1 := ⟨_, rfl⟩
  have HC0 : Hid (C.getD 0 0 = 16) := by rw [Hid, hC, getD_take _ 4 0 _ M.cblk0 (by decide)]; rfl
  have HC1 : Hid (C.getD 1 0 = 241) := by rw [Hid, hC, getD_take _ 4 1 _ M.cblk0 (by decide)]; rfl
  have HC2 : Hid (C.getD 2 0 = 231) := by rw [Hid, hC, getD_take _ 4 2 _ M.cblk0 (by decide)]; rfl
  have HC3 : Hid (C.getD 3 0 = 228) := by rw [Hid, hC, getD_take _ 4 3 _ M.cblk0 (by decide)]; rfl
  have HCL : Hid (C.length = 64) := by rw [Hid, hC]; exact M.cblk_length _ _ _
  rw [← hC] at HC
  clear hL hC
  go_enter Tryd.func7, Tryd.ntmps7
  go_wp2_with (refine wpList_make_cap _ rfl _ _ rfl .i64 .i64 _ _ 32 32 rfl rfl rfl rfl (by omega) (by omega) ?_; intro w1 o1 k1)
  have O1 : Hid (w1.ownsRow w.heap.size 5 1 (.slice (some ⟨w.heap.size, 0, none⟩) 32 32) 32 (Lib.byteCells (upBytes 0 ++ List.replicate (32 - 0) 0))) := o1
  clear o1
  go_wp2
  go_loopw [2] (fun i wr => ∃ k : Nat, k ≤ 32 ∧ i = .int .i64 k ∧ Hid (wr.ownsRow w.heap.size 5 1 (.slice (some ⟨w.heap.size, 0, none⟩) 32 32) 32 (Lib.byteCells (upBytes k ++ List.replicate (32 - k) 0))) ∧ Below w.heap.size w wr)
    (fun i _ => 32 - (intOf i).toNat)
  case atStart => exact ⟨0, by omega, rfl, O1, k1⟩
  case round =>
    clear O1 k1
    rename_i wr
    obtain ⟨k, hk, rfl, oo, kk⟩ := hrel
    by_cases hlt : k < 32
    · obtain ⟨m, hm⟩ : ∃ m, 32 - k = m + 1 := ⟨31 - k, by omega⟩
      have hc : wr.cell? ⟨w.heap.size, k, none⟩ = some (.int .u8 0) := by
        rw [oo.out.cellAt k (by omega), hm, List.replicate_succ, byteCells_append, List.getElem?_append_right (by rw [byteCells_length, upBytes_length]; exact Nat.le_refl _), byteCells_length, upBytes_length, Nat.sub_self]
        rfl
      have hf : wr.frozen? ⟨w.heap.size, k, none⟩ = false := oo.out.frozenAt k
      have N1 : Hid ((wr.setCell ⟨w.heap.size, k, none⟩ (.int .u8 (k : Int))).ownsRow w.heap.size 5 1 (.slice (some ⟨w.heap.size, 0, none⟩) 32 32) 32 (Lib.byteCells (upBytes (k + 1) ++ List.replicate (32 - (k + 1)) 0))) := by
        have h := (oo.out.stored k (Value.int .u8 (k : Int))).1
        rw [hm, List.replicate_succ, byteCells_append, show Lib.byteCells (0 :: List.replicate m 0) = .int .u8 0 :: Lib.byteCells (List.replicate m 0) from rfl, set_mid _ _ _ _ k (by rw [byteCells_length, upBytes_length])] at h
        have e : Value.int .u8 (k : Int) = .int .u8 ((UInt8.ofNat k).toNat : Int) := by
          congr 1
          simp
          omega
        rw [Hid, upBytes, show 32 - (k + 1) = m by omega, byteCells_append, byteCells_append]
        rw [e] at h ⊢
        exact h
      have NK : Hid (Below w.heap.size w (wr.setCell ⟨w.heap.size, k, none⟩ (.int .u8 (k : Int)))) := kk.setCell (Nat.le_refl _) _
      have hk8 : (k : Int) % 256 = (k : Int) := by omega
      clear oo kk hm
      go_wp2
      go_roundw
      case rel => exact ⟨k + 1, by omega, by go_num, N1, NK.out⟩
      case measure => simp [intOf]; omega
    · obtain rfl : k = 32 := by omega
      have hK : Own wr w.heap.size (.slice (some ⟨w.heap.size, 0, none⟩) 32 32) M.key0 := by
        have h := oo.out
        rw [Nat.sub_self, List.replicate_zero, List.append_nil, upBytes_key] at h
        exact h
      have HK := Lib.hid hK.isB
      have hsz := kk.size
      clear oo hK
      go_wp2_with fail
      refine (HC.out _ _ _ (HL.out.below (kk.alloc hsz _) HL.out.size) (HK.out.below ((Below.refl _ _).alloc (Nat.le_refl _) _)) (isB_block (bs := M.nonce0) (Blk.newAt _ _ _ _ _ rfl rfl) (by show 12 ≤ maxLen; decide))).mono ?_
      rintro e w5 ⟨g, rfl, hg, hB, k5⟩
      have kk5 := (kk.alloc hsz (.cells (Lib.byteCells M.nonce0).toArray 5)).trans (k5.mono (by simp; omega))
      obtain ⟨_, _, hcs⟩ := hB.cells
      have x : ∀ i, i < 64 → w5.cell? ⟨g, i, none⟩ = some (.int .u8 ((C.getD i 0).toNat : Int)) := fun i hi => by
        have := hcs _ rfl i _ (byteCells_getElem? C i (by rw [HCL.out]; exact hi))
        rwa [Addr.add_lit, Nat.zero_add] at this
      have x0 := x 0 (by decide)
      have x1 := x 1 (by decide)
      have x2 := x 2 (by decide)
      have x3 := x 3 (by decide)
      rw [HC0.out] at x0
      rw [HC1.out] at x1
      rw [HC2.out] at x2
      rw [HC3.out] at x3
      have y0 : w5.cell? ⟨g, 0, none⟩ = some (.int .u8 16) := x0
      have y1 : w5.cell? ⟨g, 1, none⟩ = some (.int .u8 241) := x1
      have y2 : w5.cell? ⟨g, 2, none⟩ = some (.int .u8 231) := x2
      have y3 : w5.cell? ⟨g, 3, none⟩ = some (.int .u8 228) := x3
      have K5 : Hid (Below w.heap.size w w5) := kk5
      clear hcs x x0 x1 x2 x3 hB k5 kk5
      go_wp2_with fail
      refine (HN.out _).mono ?_
      rintro e w6 ⟨rfl, rfl⟩
      go_wp2
      go_ret
      exact ⟨rfl, K5.out⟩

end Go.Proofs.YtaechnhnhfgloaaDoor
