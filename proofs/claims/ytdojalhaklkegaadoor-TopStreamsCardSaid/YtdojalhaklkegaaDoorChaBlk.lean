/-
  CONTRACT OF chacha.blockOf: the block that begins with sixteen numbers. Conditions: the program's table of places lies as it was laid.
-/
import Derived.Test.YtdojalhaklkegaaDoorChaTab
import Derived.Lib.Hide
import Derived.Deep.RegionHeld3
set_option maxRecDepth 100000
namespace Go.Proofs.YtdojalhaklkegaaDoor
open Go.RowKit
set_option linter.unusedVariables false

/-- The block's cells behind k numbers. -/
def outC (s r : List UInt32) (k : Nat) : List Value := Lib.byteCells (M.outs s r k) ++ List.replicate (64 - 4 * k) (.int .u8 0)

theorem outC_length (s r : List UInt32) (k : Nat) (h : k ≤ 16) : (outC s r k).length = 64 := by
  rw [outC, List.length_append, byteCells_length, M.outs_length, List.length_replicate]; omega

theorem outC_next (s r : List UInt32) (k : Nat) (h : k < 16) : splice (outC s r k) (4 * k) (Lib.byteCells (M.le (r.getD k 0 + s.getD k 0).toNat 4)) = outC s r (k + 1) := by
  have hl : (Lib.byteCells (M.le (r.getD k 0 + s.getD k 0).toNat 4)).length = 4 := by rw [byteCells_length, M.le_length]
  have hl2 : (Lib.byteCells (M.outs s r k)).length = 4 * k := by rw [byteCells_length, M.outs_length]
  rw [splice, hl, outC, outC, M.outs, byteCells_append]
  rw [List.take_append_of_le_length (by omega), List.take_of_length_le (by omega), List.drop_append, List.drop_eq_nil_of_le (by omega), List.nil_append, hl2, List.drop_replicate]
  simp only [List.append_assoc]
  congr 3
  omega

set_option maxHeartbeats 2000000 in
theorem blockOf_any (s : List UInt32) (w : World) (hL : LaidP w) (hs : s.length = 16) :
    Calls Tryd.prog 54 #[.agg (wc s).toArray] w fun e w' => e = .returned (.agg (Lib.byteCells (M.blk s)).toArray) ∧ Below w.heap.size w w' := by
  have HL := Lib.hid hL
  have HS := Lib.hid hs
  clear hL hs
  go_enter Tryd.func54, Tryd.ntmps54
  have HR0 : Hid (∀ o, ((w.alloc (.cells (wc s).toArray 96)).alloc o).rangeAt w.heap.size 0 (wc s)) := fun o => ((Blk.newAt w _ (wc s).toArray w.heap.size (wc s) rfl (by simp)).alloc _).range 0 (wc s) [] (by simp)
  go_wp2_with (first
    | (refine wpList_load_mid rfl 96 (.tmp 1) rfl w.heap.size 0 rfl (wc s) _ (HR0.out _) Tryd.underlying96 rfl (by rw [wc_length, HS.out]; kernel_rfl) ?_)
    | (refine wpList_store_blk rfl 96 (.tmp 3) (.tmp 9) rfl (w.heap.size + 2) (wc s).toArray rfl rfl 96 (List.replicate 16 (.int .u32 0)) (Blk.newAt _ _ _ _ _ (by simp) rfl) (by rw [List.size_toArray, wc_length, HS.out]; kernel_rfl) (by rw [List.size_toArray, wc_length, HS.out, List.length_replicate]) (wc_oneCell s) ?_; intro w1 hb1 ho1))
  have B3 : Hid (Blk w1 (w.heap.size + 1 + 1) 96 (wc (M.ten s 0))) := hb1.eq_ (by simp [M.ten])
  have B0 : Hid (Blk w1 w.heap.size 96 (wc s)) := (((Blk.newAt w _ (wc s).toArray w.heap.size (wc s) rfl (by simp)).alloc _).alloc _).grown ho1 (by intro e; injection e with e; omega)
  have B1 : Hid (Blk w1 (w.heap.size + 1) 101 (List.replicate 64 (.int .u8 0))) := ((Blk.newAt _ _ _ _ _ (by simp) rfl).alloc _).grown ho1 (by intro e; injection e with e; omega)
  have k1 : Below w.heap.size w w1 := ((((Below.refl _ _).alloc (Nat.le_refl _) _).alloc (by simp) _).alloc (by simp; omega) _).trans (ho1.below (by simp; omega) (by omega))
  clear hb1 ho1 HR0
  go_loopw [10] (fun i wr => ∃ n : Nat, n ≤ 10 ∧ i = .int .i64 n ∧ Hid (Blk wr (w.heap.size + 1 + 1) 96 (wc (M.ten s n))) ∧ Hid (Blk wr w.heap.size 96 (wc s)) ∧ Hid (Blk wr (w.heap.size + 1) 101 (List.replicate 64 (.int .u8 0))) ∧ Below w.heap.size w wr)
    (fun i _ => 10 - (intOf i).toNat)
  case atStart => exact ⟨0, by omega, rfl, B3, B0, B1, k1⟩
  case round =>
    clear B3 B0 B1 k1
    rename_i wr
    obtain ⟨n, hn, rfl, b3, b0, b1, kk⟩ := hrel
    by_cases hlt : n < 10
    · have HR : Hid (wr.rangeAt 0 0 tbl) := (HL.out.below kk HL.out.size).range
      obtain ⟨r, hr⟩ : ∃ r, Hid (r = M.ten s n) := ⟨_, rfl⟩
      have HRL : Hid (r.length = 16) := by rw [Hid, hr.out, M.ten_length, HS.out]
      rw [← hr.out] at b3
      obtain ⟨wA, rfl⟩ : ∃ x, x = wr := ⟨_, rfl⟩
      have P0 : Hid (Blk wA (w.heap.size + 1 + 1) 96 (wc (M.part r 0))) := b3.out
      go_wp2_with (refine wpList_load_mid rfl 119 (.global 0) rfl 0 0 rfl tbl _ HR.out Tryd.underlying119 rfl (by kernel_rfl) ?_)
      go_loopw [13] (fun i wz => ∃ k : Nat, k ≤ 8 ∧ i = .int .i64 k ∧ Hid (Blk wz (w.heap.size + 1 + 1) 96 (wc (M.part r k))) ∧ Hid (Blk wz w.heap.size 96 (wc s)) ∧ Hid (Blk wz (w.heap.size + 1) 101 (List.replicate 64 (.int .u8 0))) ∧ Below w.heap.size w wz)
        (fun i _ => 8 - (intOf i).toNat)
      case atStart => exact ⟨0, by omega, rfl, P0, b0, b1, kk⟩
      case round =>
        clear P0 b3 b0 b1 kk
        obtain ⟨wz, rfl⟩ : ∃ x, x = wr := ⟨_, rfl⟩
        obtain ⟨k, hk, rfl, b3, b0, b1, kk⟩ := hrel
        by_cases hlt2 : k < 8
        · have hrun := run_index_places wz k hlt2
          have hsz : w.heap.size + 1 + 1 < wz.heap.size := b3.out.lt
          have HLT : Hid (k < 8) := hlt2
          go_wp2_with (first
            | (refine wpList_store_blk rfl 118 (.tmp 5) (.tmp 15) rfl wz.heap.size (pc k).toArray rfl rfl 118 (List.replicate 4 (.int .i64 0)) (Blk.newAt _ _ _ _ _ rfl rfl) (by kernel_rfl) rfl (pc_oneCell k) ?_; intro w2 hb2 ho2)
            | (refine wpList_load_mid rfl 118 (.tmp 5) rfl wz.heap.size 0 rfl (pc k) _ (hb2.range 0 (pc k) [] (by simp)) Tryd.underlying118 rfl (by kernel_rfl) ?_))
          obtain ⟨d1, d2, d3, d4, d5, d6⟩ := pl_ne k
          have HP2 : Hid (Blk w2 (w.heap.size + 1 + 1) 96 (wc (M.part r k))) := (b3.out.alloc _).grown ho2 (by intro e; injection e with e; omega)
          have HB0 : Hid (Blk w2 w.heap.size 96 (wc s)) := (b0.out.alloc _).grown ho2 (by intro e; injection e with e; omega)
          have HB1 : Hid (Blk w2 (w.heap.size + 1) 101 (List.replicate 64 (.int .u8 0))) := (b1.out.alloc _).grown ho2 (by intro e; injection e with e; omega)
          have k2 : Below w.heap.size w w2 := (kk.alloc (by omega) _).trans (ho2.below (by simp; omega) (by omega))
          clear ho2 hb2
          refine (quarter_any (w.heap.size + 1 + 1) _ (M.part r k) _ _ _ _ w2 (by rw [M.part_length, HRL.out]) (M.pl_lt k 0 (by decide)) (M.pl_lt k 1 (by decide)) (M.pl_lt k 2 (by decide)) (M.pl_lt k 3 (by decide)) ⟨d1, d2, d3, d4, d5, d6⟩ HP2.out).mono ?_
          rintro e w3 ⟨rfl, hb3, ho3⟩
          have P3 : Hid (Blk w3 (w.heap.size + 1 + 1) 96 (wc (M.part r (k + 1)))) := hb3
          have Q0 : Hid (Blk w3 w.heap.size 96 (wc s)) := HB0.out.grown ho3 (by intro e; injection e with e; omega)
          have Q1 : Hid (Blk w3 (w.heap.size + 1) 101 (List.replicate 64 (.int .u8 0))) := HB1.out.grown ho3 (by intro e; injection e with e; omega)
          have k3 : Below w.heap.size w w3 := k2.trans (ho3.below k2.size (by omega))
          clear hb3 ho3 k2 d1 d2 d3 d4 d5 d6
          go_wp2
          go_roundw
          case rel => exact ⟨k + 1, by omega, by go_num, P3, Q0, Q1, k3⟩
          case measure => simp [intOf]; omega
        · obtain rfl : k = 8 := by omega
          have P3 : Hid (Blk wz (w.heap.size + 1 + 1) 96 (wc (M.ten s (n + 1)))) := by
            rw [Hid, M.ten, ← hr.out]
            exact b3.out
          clear b3
          go_wp2
          go_roundw
          case rel => exact ⟨n + 1, by omega, by go_num, P3, b0, b1, kk⟩
          case measure => simp [intOf]; omega
    · obtain rfl : n = 10 := by omega
      obtain ⟨r, hr⟩ : ∃ r, Hid (r = M.ten s 10) := ⟨_, rfl⟩
      have HRL : Hid (r.length = 16) := by rw [Hid, hr.out, M.ten_length, HS.out]
      rw [← hr.out] at b3
      obtain ⟨wA, rfl⟩ : ∃ x, x = wr := ⟨_, rfl⟩
      have HR : Hid (∀ o, (wA.alloc o).rangeAt (w.heap.size + 1 + 1) 0 (wc r)) := fun o => (b3.out.alloc o).range 0 (wc r) [] (by simp)
      have hsz : w.heap.size + 1 + 1 < wA.heap.size := b3.out.lt
      obtain ⟨gb, hgb⟩ : ∃ gb, gb = wA.heap.size := ⟨_, rfl⟩
      go_wp2_with (refine wpList_load_mid rfl 96 (.tmp 3) rfl (w.heap.size + 1 + 1) 0 rfl (wc r) _ (HR.out _) Tryd.underlying96 rfl (by rw [wc_length, HRL.out]; kernel_rfl) ?_)
      rw [← hgb] at hsz ⊢
      have N0 : Hid (Blk (wA.alloc (.cells (Array.replicate 64 (.int .u8 0)) 101)) gb 101 (outC s r 0)) := by rw [Hid, hgb]; exact Blk.newAt _ _ _ _ _ rfl rfl
      have k2 : Below w.heap.size w (wA.alloc (.cells (Array.replicate 64 (.int .u8 0)) 101)) := kk.alloc kk.size _
      go_loopw [21] (fun i wz => ∃ k : Nat, k ≤ 16 ∧ i = .int .i64 k ∧ Hid (Blk wz gb 101 (outC s r k)) ∧ Hid (Blk wz w.heap.size 96 (wc s)) ∧ Hid (Blk wz (w.heap.size + 1) 101 (List.replicate 64 (.int .u8 0))) ∧ Below w.heap.size w wz)
        (fun i _ => 16 - (intOf i).toNat)
      case atStart => exact ⟨0, by omega, rfl, N0, b0.out.alloc _, b1.out.alloc _, k2⟩
      case round =>
        clear N0 b3 b0 b1 kk k2 HR hgb
        obtain ⟨wz, rfl⟩ : ∃ x, x = wr := ⟨_, rfl⟩
        obtain ⟨k, hk, rfl, bg, b0, b1, kk⟩ := hrel
        by_cases hlt2 : k < 16
        · obtain ⟨x, hx⟩ : ∃ x, Hid (x = r.getD k 0) := ⟨_, rfl⟩
          obtain ⟨y, hy⟩ : ∃ y, Hid (y = s.getD k 0) := ⟨_, rfl⟩
          have hix : (wc r)[k]? = some (.int .u32 x.toNat) := by rw [wc_get _ _ (by rw [HRL.out]; exact hlt2), hx.out]
          have hrun := run_index_w16 wz r k hlt2 x hix
          have cy : wz.cell? ⟨w.heap.size, k, none⟩ = some (.int .u32 y.toNat) := by rw [b0.out.cell, wc_get _ _ (by rw [HS.out]; exact hlt2), hy.out]
          have hsl := fun w' => slice_blk gb (4 * k) (4 * (k : Int)) (by omega) (by omega) w'
          have HLT : Hid (k < 16) := hlt2
          clear hix
          go_wp2
          have v4 : IntKind.i64.wrap (4 * (k : Int)) = 4 * (k : Int) := IntWalk.i64_in _ (by omega)
          obtain ⟨u, hu⟩ : ∃ u, Hid (u = x + y) := ⟨_, rfl⟩
          have s1 : IntKind.u32.wrap ((x.toNat : Int) + (y.toNat : Int)) = (u.toNat : Int) := by rw [hu.out]; exact w_wrap x y
          have s2 : ((x.toNat : Int) + (y.toNat : Int)) % 4294967296 = (u.toNat : Int) := by rw [hu.out]; exact w_add x y
          have hub := w_lt u
          have HN : Hid (splice (outC s r k) (4 * k) (Lib.byteCells (M.le u.toNat 4)) = outC s r (k + 1)) := by
            rw [Hid, hu.out, hx.out, hy.out]
            exact outC_next s r k hlt2
          have HBG : Hid (Blk wz.drew gb 101 (outC s r k)) := bg.out.drew
          have HB0 : Hid (Blk wz.drew w.heap.size 96 (wc s)) := b0.out.drew
          have HB1 : Hid (Blk wz.drew (w.heap.size + 1) 101 (List.replicate 64 (.int .u8 0))) := b1.out.drew
          have kd : Below w.heap.size w wz.drew := drewN_below kk 1
          have hgz : gb < wz.drew.heap.size := HBG.out.lt
          have HK4 : Hid (4 * k + 4 ≤ 64) := by rw [Hid]; omega
          have HCL : Hid ((outC s r k).length = 64) := outC_length s r k (by omega)
          have CY : Hid (∀ w', Below wz.drew.heap.size wz.drew w' → w'.cell? ⟨w.heap.size, k, none⟩ = some (.int .u32 y.toNat)) := fun w' kw => by
            rw [(HB0.out.below kw HB0.out.lt).cell, wc_get _ _ (by rw [HS.out]; exact HLT.out), hy.out]
          clear bg b0 b1 kk
          go_region_held3 (fun w' => w'.cell? ⟨w.heap.size, k, none⟩ = some (.int .u32 y.toNat))
            (first | exact CY.out _ (Below.refl _ _) | exact CY.out _ k3 | exact ho4.cell (CY.out _ k3) (fun e => by simp at e; omega))
            (first
              | (go_at_call 76; refine (put32_any u.toNat _ (by omega)).mono ?_; rintro e w3 ⟨r3, rfl, o3, k3⟩; obtain ⟨g3, c3, rfl, hg3⟩ := o3.shape (by rw [M.le_length]; omega))
              | (refine step_copy_blk rfl (.tmp 27) (.tmp 33) 24 24 rfl 5 Tryd.underlying24 (by kernel_rfl) gb (4 * k) (64 - 4 * k) (64 - 4 * k) ⟨g3, 0, none⟩ _ c3 rfl rfl (outC s r k) 101 (HBG.out.below k3 hgz) (Lib.byteCells (M.le u.toNat 4)) (by rw [byteCells_length, M.le_length]; exact (Nat.min_eq_left (by have := HK4.out; omega)).symm) o3.cells (by rw [byteCells_length, M.le_length, HCL.out]; exact HK4.out) (byteCells_oneCell _) ?_; intro w4 hb4 ho4))
          rw [HN.out] at hb4
          have N4 : Hid (Blk w4 gb 101 (outC s r (k + 1))) := hb4
          have M0 : Hid (Blk w4 w.heap.size 96 (wc s)) := (HB0.out.below k3 HB0.out.lt).grown ho4 (by intro e; injection e with e; omega)
          have M1 : Hid (Blk w4 (w.heap.size + 1) 101 (List.replicate 64 (.int .u8 0))) := (HB1.out.below k3 HB1.out.lt).grown ho4 (by intro e; injection e with e; omega)
          have k34 : Below w.heap.size w w3 := kd.trans (k3.mono kd.size)
          have k4 : Below w.heap.size w w4 := k34.trans (ho4.below k34.size (by omega))
          clear hb4 ho4 o3 k3 k34 kd hg3
          go_wp2
          go_roundw
          case rel => exact ⟨k + 1, by omega, by go_num, N4, M0, M1, k4⟩
          case measure => simp [intOf]; omega
        · obtain rfl : k = 16 := by omega
          obtain ⟨C, hC⟩ : ∃ C, Hid (C = M.blk s) := ⟨_, rfl⟩
          have HCL : Hid (C.length = 64) := by rw [Hid, hC.out]; exact M.blk_length s
          have e16 : outC s r 16 = Lib.byteCells C := by rw [outC, hC.out, M.blk, ← hr.out]; simp
          have BG : Blk wz gb 101 (Lib.byteCells C) := bg.out.eq_ e16
          have RG : Hid (wz.rangeAt gb 0 (Lib.byteCells C)) := BG.range 0 _ [] (by simp)
          clear e16 BG bg hlt2
          go_wp2_with (first
            | (refine wpList_load_mid rfl 101 (.tmp 6) rfl gb 0 rfl (Lib.byteCells C) _ RG.out Tryd.underlying101 rfl (by rw [byteCells_length, HCL.out]; kernel_rfl) ?_)
            | (refine wpList_store_blk rfl 101 (.tmp 2) (.tmp 36) rfl (w.heap.size + 1) (Lib.byteCells C).toArray rfl rfl 101 (List.replicate 64 (.int .u8 0)) b1.out (by rw [List.size_toArray, byteCells_length, HCL.out]; kernel_rfl) (by rw [List.size_toArray, byteCells_length, HCL.out, List.length_replicate]) (bytes_oneCell C) ?_; intro w3 hb3 ho3))
          have k3 : Below w.heap.size w w3 := kk.trans (ho3.below kk.size (by omega))
          exact bodyPost_ret (results_cell_row rfl _ _ (w.heap.size + 1) _ _ _ _ rfl hb3 Tryd.underlying101 rfl (by rw [Array.toArray_toList, List.size_toArray, byteCells_length, HCL.out]; kernel_rfl)) rfl ⟨by rw [Array.toArray_toList, hC.out], k3⟩

end Go.Proofs.YtdojalhaklkegaaDoor
