/-
  CONTRACTS OF poly.plus AND poly.times: limbs as the plain mathematics has them. Conditions: five limbs.
-/
import Derived.Test.YtbjmkgbjpcepaaaPolyC1
namespace Go.Proofs.Ytbjmkgbjpcepaaa
open Go.RowKit
set_option linter.unusedVariables false

/-- plus: limb by limb. -/
theorem plus_any (a b : List UInt64) (w : World) (ha : a.length = 5) (hb : b.length = 5) :
    Calls Try.prog 15 #[.agg (dc a).toArray, .agg (dc b).toArray] w fun e w' => e = .returned (.agg (dc (M.plus a b)).toArray) ∧ Below w.heap.size w w' := by
  have HA := Lib.hid ha
  have HB := Lib.hid hb
  have HR0 : Hid (∀ o, (((w.alloc (.cells (dc a).toArray 39)).alloc (.cells (dc b).toArray 39)).alloc o).rangeAt (w.heap.size + 1) 0 (dc b)) := fun o => ((Blk.newAt _ _ (dc b).toArray (w.heap.size + 1) (dc b) (by simp) (by simp)).alloc _).range 0 (dc b) [] (by simp)
  have B0 : ∀ o o', Hid (Blk (((w.alloc (.cells (dc a).toArray 39)).alloc o).alloc o') w.heap.size 39 (dc (M.plusTo a b 0))) := fun o o' => ((Blk.newAt w _ (dc a).toArray w.heap.size (dc a) rfl (by simp)).alloc o).alloc o'
  have B1 : ∀ o o', Hid (Blk (((w.alloc o).alloc o').alloc (.cells (Array.replicate 5 (.int .u64 0)) 39)) (w.heap.size + 1 + 1) 39 (dc (List.replicate 5 0))) := fun o o' => blk_zero _ _ (by simp)
  have k0 : ∀ o o' o2, Below w.heap.size w (((w.alloc o).alloc o').alloc o2) := fun o o' o2 => (((Below.refl _ _).alloc (Nat.le_refl _) o).alloc (by simp) o').alloc (by simp; omega) o2
  clear ha hb
  go_enter Try.func15, Try.ntmps15
  go_wp2_with (refine wpList_load_mid rfl 39 (.tmp 3) rfl (w.heap.size + 1) 0 rfl (dc b) _ (HR0.out _) Try.underlying39 rfl (by rw [dc_length, HB.out]; kernel_rfl) ?_)
  go_loopw [8] (fun i wr => ∃ k : Nat, k ≤ 5 ∧ i = .int .i64 k ∧ Hid (Blk wr w.heap.size 39 (dc (M.plusTo a b k))) ∧ Hid (Blk wr (w.heap.size + 1 + 1) 39 (dc (List.replicate 5 0))) ∧ Below w.heap.size w wr)
    (fun i _ => 5 - (intOf i).toNat)
  case atStart => exact ⟨0, by omega, rfl, B0 _ _, B1 _ _, k0 _ _ _⟩
  case round =>
    clear B0 B1 k0 HR0
    obtain ⟨wr, rfl⟩ : ∃ x, x = wr := ⟨_, rfl⟩
    obtain ⟨k, hk, rfl, b0, b1, kk⟩ := hrel
    by_cases hlt : k < 5
    · obtain ⟨x, hx⟩ : ∃ x, Hid (x = (M.plusTo a b k).getD k 0) := ⟨_, rfl⟩
      obtain ⟨y, hy⟩ : ∃ x, Hid (x = b.getD k 0) := ⟨_, rfl⟩
      have hrun := run_index_limbs wr b k hlt y (by rw [dc_get _ _ (by rw [HB.out]; exact hlt), hy.out])
      have hc : wr.cell? ⟨w.heap.size, k, none⟩ = some (.int .u64 (x.toNat : Int)) := by rw [b0.out.cell, dc_get _ _ (by rw [M.plusTo_length, HA.out]; exact hlt), hx.out]
      have hf : wr.frozen? ⟨w.heap.size, k, none⟩ = false := b0.out.frozen k
      obtain ⟨m, hm⟩ : ∃ m, Hid (m = x + y) := ⟨_, rfl⟩
      have s1 : IntKind.u64.wrap ((x.toNat : Int) + (y.toNat : Int)) = (m.toNat : Int) := by rw [hm.out]; exact d_wrap x y
      have s2 : ((x.toNat : Int) + (y.toNat : Int)) % 18446744073709551616 = (m.toNat : Int) := by rw [hm.out]; exact d_wrap x y
      go_wp2
      go_roundw
      case rel =>
        refine ⟨k + 1, by omega, by go_num, ?_, b1.out.far (by simp; omega) _, kk.setCell (Nat.le_refl _) _⟩
        rw [Hid, M.plusTo, ← hx.out, ← hy.out, ← hm.out, ← dc_set]
        exact b0.out.set_ k _
      case measure => simp [intOf]; omega
    · obtain rfl : k = 5 := by omega
      obtain ⟨r, hr⟩ : ∃ r, Hid (r = M.plus a b) := ⟨_, rfl⟩
      have HRL : Hid (r.length = 5) := by rw [Hid, hr.out, M.plus_length, HA.out]
      have N0 : Hid (Blk wr w.heap.size 39 (dc r)) := by rw [hr.out]; exact b0
      have NR : Hid (wr.rangeAt w.heap.size 0 (dc r)) := N0.out.range 0 (dc r) [] (by simp)
      clear N0 b0
      go_wp2_with (first
        | (refine wpList_load_mid rfl 39 (.tmp 2) rfl w.heap.size 0 rfl (dc r) _ NR.out Try.underlying39 rfl (by rw [dc_length, HRL.out]; kernel_rfl) ?_)
        | (refine wpList_store_blk rfl 39 (.tmp 4) (.tmp 19) rfl (w.heap.size + 1 + 1) (dc r).toArray rfl rfl 39 (dc (List.replicate 5 0)) b1.out (by rw [List.size_toArray, dc_length, HRL.out]; kernel_rfl) (by rw [List.size_toArray, dc_length, dc_length, HRL.out]; rfl) (dc_oneCell r) ?_; intro w3 hb3 ho3))
      have k3 : Below w.heap.size w w3 := kk.trans (ho3.below kk.size (by omega))
      exact bodyPost_ret (results_cell_row rfl _ _ (w.heap.size + 1 + 1) _ _ _ _ rfl hb3 Try.underlying39 rfl (by rw [Array.toArray_toList, List.size_toArray, dc_length, HRL.out]; kernel_rfl)) rfl ⟨by rw [Array.toArray_toList, ← hr.out], k3⟩

set_option maxHeartbeats 1000000 in
/-- times: limb by limb, then carried. -/
theorem times_any (a b : List UInt64) (w : World) (ha : a.length = 5) (hb : b.length = 5) :
    Calls Try.prog 14 #[.agg (dc a).toArray, .agg (dc b).toArray] w fun e w' => e = .returned (.agg (dc (M.times a b)).toArray) ∧ Below w.heap.size w w' := by
  have HA := Lib.hid ha
  have HB := Lib.hid hb
  obtain ⟨o1, ho1⟩ : ∃ o, o = Obj.cells (dc a).toArray 39 := ⟨_, rfl⟩
  obtain ⟨o2, ho2⟩ : ∃ o, o = Obj.cells (dc b).toArray 39 := ⟨_, rfl⟩
  obtain ⟨o3, ho3⟩ : ∃ o, o = Obj.cells #[.int .u64 0, .int .u64 0, .int .u64 0, .int .u64 0, .int .u64 0] 39 := ⟨_, rfl⟩
  have hs4 : ((((w.alloc o1).alloc o2).alloc o3).alloc o3).heap.size = w.heap.size + 1 + 1 + 1 + 1 := by simp
  have A0 : Hid (Blk ((((w.alloc o1).alloc o2).alloc o3).alloc o3) w.heap.size 39 (dc a)) := by
    rw [ho1]; exact (((Blk.newAt w _ (dc a).toArray w.heap.size (dc a) rfl (by simp)).alloc _).alloc _).alloc _
  have A1 : Hid (Blk ((((w.alloc o1).alloc o2).alloc o3).alloc o3) (w.heap.size + 1) 39 (dc b)) := by
    rw [ho2]; exact ((Blk.newAt _ _ (dc b).toArray (w.heap.size + 1) (dc b) (by simp) (by simp)).alloc _).alloc _
  have A2 : Hid (Blk ((((w.alloc o1).alloc o2).alloc o3).alloc o3) (w.heap.size + 1 + 1) 39 (dc (List.replicate 5 0))) := by
    rw [ho3]; exact (blk_zeroL _ _ (by simp)).alloc _
  have A3 : Hid (Blk ((((w.alloc o1).alloc o2).alloc o3).alloc o3) (w.heap.size + 1 + 1 + 1) 39 (dc (M.tout a b 0))) := by
    have h := blk_zeroL (((w.alloc o1).alloc o2).alloc o3) (w.heap.size + 1 + 1 + 1) (by simp)
    rw [ho3] at h ⊢; exact h
  have k0 : Below w.heap.size w ((((w.alloc o1).alloc o2).alloc o3).alloc o3) := ((((Below.refl _ _).alloc (Nat.le_refl _) o1).alloc (by simp) o2).alloc (by simp; omega) o3).alloc (by simp; omega) o3
  obtain ⟨w4, hw4⟩ : ∃ x, x = (((w.alloc o1).alloc o2).alloc o3).alloc o3 := ⟨_, rfl⟩
  rw [← hw4] at A0 A1 A2 A3 k0 hs4
  subst ho1 ho2 ho3
  have R0 : Hid (w4.rangeAt w.heap.size 0 (dc a)) := A0.out.range 0 (dc a) [] (by simp)
  clear ha hb
  go_enter Try.func14, Try.ntmps14
  go_wp2_with (rw [← hw4]; refine wpList_load_mid rfl 39 (.tmp 2) rfl w.heap.size 0 rfl (dc a) _ R0.out Try.underlying39 rfl (by rw [dc_length, HA.out]; kernel_rfl) ?_)
  clear R0
  go_loopw [11] (fun i wr => ∃ k : Nat, k ≤ 5 ∧ i = .int .i64 k ∧ Hid (Blk wr (w.heap.size + 1) 39 (dc b)) ∧ Hid (Blk wr (w.heap.size + 1 + 1) 39 (dc (List.replicate 5 0))) ∧ Hid (Blk wr (w.heap.size + 1 + 1 + 1) 39 (dc (M.tout a b k))) ∧ Below w.heap.size w wr)
    (fun i _ => 5 - (intOf i).toNat)
  case atStart =>
    rw [hw4] at A1 A2 A3 k0
    exact ⟨0, by omega, rfl, A1, A2, A3, k0⟩
  case round =>
    clear A0 A1 A2 A3 k0 hs4 hw4
    obtain ⟨wA, rfl⟩ : ∃ x, x = wr := ⟨_, rfl⟩
    obtain ⟨k, hk, rfl, b1, b2, b3, kk⟩ := hrel
    by_cases hlt : k < 5
    · obtain ⟨x, hx⟩ : ∃ x, Hid (x = a.getD k 0) := ⟨_, rfl⟩
      have hrun := run_index_limbs wA a k hlt x (by rw [dc_get _ _ (by rw [HA.out]; exact hlt), hx.out])
      obtain ⟨O, hO⟩ : ∃ O, Hid (O = M.tout a b k) := ⟨_, rfl⟩
      have HOL : Hid (O.length = 5) := by rw [Hid, hO.out, M.tout_length]
      have B3 : Hid (Blk wA (w.heap.size + 1 + 1 + 1) 39 (dc (M.tin O x b k 0))) := by rw [Hid, hO.out]; exact b3.out
      have R1 : Hid (wA.rangeAt (w.heap.size + 1) 0 (dc b)) := b1.out.range 0 (dc b) [] (by simp)
      clear b3
      go_wp2_with (refine wpList_load_mid rfl 39 (.tmp 3) rfl (w.heap.size + 1) 0 rfl (dc b) _ R1.out Try.underlying39 rfl (by rw [dc_length, HB.out]; kernel_rfl) ?_)
      clear R1 hrun
      go_loopw [16] (fun i wr => ∃ j : Nat, j ≤ 5 ∧ i = .int .i64 j ∧ Hid (Blk wr (w.heap.size + 1) 39 (dc b)) ∧ Hid (Blk wr (w.heap.size + 1 + 1) 39 (dc (List.replicate 5 0))) ∧ Hid (Blk wr (w.heap.size + 1 + 1 + 1) 39 (dc (M.tin O x b k j))) ∧ Below w.heap.size w wr)
        (fun i _ => 5 - (intOf i).toNat)
      case atStart => exact ⟨0, by omega, rfl, b1, b2, B3, kk⟩
      case round =>
        clear b1 b2 B3 kk
        obtain ⟨wz, rfl⟩ : ∃ x, x = wr := ⟨_, rfl⟩
        obtain ⟨j, hj, rfl, b1, b2, b3, kk⟩ := hrel
        by_cases hlt2 : j < 5
        · obtain ⟨y, hy⟩ : ∃ x, Hid (x = b.getD j 0) := ⟨_, rfl⟩
          have hrun := run_index_limbs wz b j hlt2 y (by rw [dc_get _ _ (by rw [HB.out]; exact hlt2), hy.out])
          obtain ⟨T, hT⟩ : ∃ T, Hid (T = M.tin O x b k j) := ⟨_, rfl⟩
          have HTL : Hid (T.length = 5) := by rw [Hid, hT.out, M.tin_length, HOL.out]
          rw [← hT.out] at b3
          by_cases hs : k + j < 5
          · obtain ⟨p, hp⟩ : ∃ p, p = k + j := ⟨_, rfl⟩
            have hpi : (k : Int) + j = p := by omega
            have hpw : IntKind.i64.wrap ((k : Int) + j) = p := by rw [hpi]; exact IntWalk.i64_in _ (by omega)
            have hp5 : p < 5 := by omega
            obtain ⟨c, hcd⟩ : ∃ x, Hid (x = T.getD p 0) := ⟨_, rfl⟩
            have hc : wz.cell? ⟨w.heap.size + 1 + 1 + 1, p, none⟩ = some (.int .u64 (c.toNat : Int)) := by rw [b3.out.cell, dc_get _ _ (by rw [HTL.out]; exact hp5), hcd.out]
            have hf : wz.frozen? ⟨w.heap.size + 1 + 1 + 1, p, none⟩ = false := b3.out.frozen p
            obtain ⟨q, hq⟩ : ∃ q, Hid (q = x * y) := ⟨_, rfl⟩
            obtain ⟨m, hm⟩ : ∃ m, Hid (m = c + q) := ⟨_, rfl⟩
            have s1 : IntKind.u64.wrap ((x.toNat : Int) * (y.toNat : Int)) = (q.toNat : Int) := by rw [hq.out]; exact d_mulw x y
            have s1' : ((x.toNat : Int) * (y.toNat : Int)) % 18446744073709551616 = (q.toNat : Int) := by rw [hq.out]; exact d_mulw x y
            have s2 : IntKind.u64.wrap ((c.toNat : Int) + (q.toNat : Int)) = (m.toNat : Int) := by rw [hm.out]; exact d_wrap c q
            have s2' : ((c.toNat : Int) + (q.toNat : Int)) % 18446744073709551616 = (m.toNat : Int) := by rw [hm.out]; exact d_wrap c q
            have HNX : Hid (M.tin O x b k (j + 1) = T.set p m) := by
              rw [Hid, M.tin, if_pos hs, ← hT.out, ← hp, ← hcd.out, ← hy.out, ← hq.out, ← hm.out]
            have HP : Hid (p = k + j) := hp
            have hcnd : ((p : Int) < 5) := by omega
            clear hp hs
            go_wp2
            go_roundw
            case rel =>
              refine ⟨j + 1, by omega, by go_num, blk_far b1.out (by omega) _, blk_far b2.out (by omega) _, ?_, below_set kk (by omega) _⟩
              rw [Hid, HNX.out, ← dc_set]
              exact b3.out.set_ p _
            case measure => simp [intOf]; omega
          · obtain ⟨p, hp⟩ : ∃ p, p = k + j - 5 := ⟨_, rfl⟩
            obtain ⟨p5, hp5⟩ : ∃ p, p = k + j := ⟨_, rfl⟩
            have hpi : (k : Int) + j = p5 := by omega
            have hpw : IntKind.i64.wrap ((k : Int) + j) = p5 := by rw [hpi]; exact IntWalk.i64_in _ (by omega)
            have hqi : (p5 : Int) - 5 = p := by omega
            have hqw : IntKind.i64.wrap ((p5 : Int) - 5) = p := by rw [hqi]; exact IntWalk.i64_in _ (by omega)
            have hp5' : p < 5 := by omega
            have hcnd : ¬ ((p5 : Int) < 5) := by omega
            obtain ⟨c, hcd⟩ : ∃ x, Hid (x = T.getD p 0) := ⟨_, rfl⟩
            have hc : wz.cell? ⟨w.heap.size + 1 + 1 + 1, p, none⟩ = some (.int .u64 (c.toNat : Int)) := by rw [b3.out.cell, dc_get _ _ (by rw [HTL.out]; exact hp5'), hcd.out]
            have hf : wz.frozen? ⟨w.heap.size + 1 + 1 + 1, p, none⟩ = false := b3.out.frozen p
            obtain ⟨f, hf5⟩ : ∃ q, Hid (q = 5 * x) := ⟨_, rfl⟩
            obtain ⟨q, hq⟩ : ∃ q, Hid (q = f * y) := ⟨_, rfl⟩
            obtain ⟨m, hm⟩ : ∃ m, Hid (m = c + q) := ⟨_, rfl⟩
            have s0 : IntKind.u64.wrap (5 * (x.toNat : Int)) = (f.toNat : Int) := by rw [hf5.out]; exact d_fivew x
            have s0' : (5 * (x.toNat : Int)) % 18446744073709551616 = (f.toNat : Int) := by rw [hf5.out]; exact d_fivew x
            have s1 : IntKind.u64.wrap ((f.toNat : Int) * (y.toNat : Int)) = (q.toNat : Int) := by rw [hq.out]; exact d_mulw f y
            have s1' : ((f.toNat : Int) * (y.toNat : Int)) % 18446744073709551616 = (q.toNat : Int) := by rw [hq.out]; exact d_mulw f y
            have s2 : IntKind.u64.wrap ((c.toNat : Int) + (q.toNat : Int)) = (m.toNat : Int) := by rw [hm.out]; exact d_wrap c q
            have s2' : ((c.toNat : Int) + (q.toNat : Int)) % 18446744073709551616 = (m.toNat : Int) := by rw [hm.out]; exact d_wrap c q
            have HNX : Hid (M.tin O x b k (j + 1) = T.set p m) := by
              rw [Hid, M.tin, if_neg hs, ← hT.out, ← hp, ← hcd.out, ← hy.out, ← hf5.out, ← hq.out, ← hm.out]
            clear hp hs hp5
            go_wp2
            go_roundw
            case rel =>
              refine ⟨j + 1, by omega, by go_num, blk_far b1.out (by omega) _, blk_far b2.out (by omega) _, ?_, below_set kk (by omega) _⟩
              rw [Hid, HNX.out, ← dc_set]
              exact b3.out.set_ p _
            case measure => simp [intOf]; omega
        · obtain rfl : j = 5 := by omega
          have B3 : Hid (Blk wz (w.heap.size + 1 + 1 + 1) 39 (dc (M.tout a b (k + 1)))) := by
            rw [Hid, M.tout, ← hO.out, ← hx.out]
            exact b3.out
          clear b3
          go_wp2
          go_roundw
          case rel => exact ⟨k + 1, by omega, by go_num, b1, b2, B3, kk⟩
          case measure => simp [intOf]; omega
    · obtain rfl : k = 5 := by omega
      obtain ⟨O, hO⟩ : ∃ O, Hid (O = M.tout a b 5) := ⟨_, rfl⟩
      have HOL : Hid (O.length = 5) := by rw [Hid, hO.out, M.tout_length]
      obtain ⟨r, hr⟩ : ∃ r, Hid (r = M.carried O) := ⟨_, rfl⟩
      have HRL : Hid (r.length = 5) := by rw [Hid, hr.out, M.carried_length, HOL.out]
      rw [← hO.out] at b3
      have R3 : Hid (wA.rangeAt (w.heap.size + 1 + 1 + 1) 0 (dc O)) := b3.out.range 0 (dc O) [] (by simp)
      have HC : Hid (Calls Try.prog 24 #[.agg (dc O).toArray] wA fun e w' => e = .returned (.agg (dc r).toArray) ∧ Below wA.heap.size wA w') := by
        rw [Hid, hr.out]
        exact carried_any O wA HOL.out
      clear b3 b1
      go_wp2_with (first
        | (refine wpList_load_mid rfl 39 (.tmp 5) rfl (w.heap.size + 1 + 1 + 1) 0 rfl (dc O) _ R3.out Try.underlying39 rfl (by rw [dc_length, HOL.out]; kernel_rfl) ?_)
        | (go_at_call 24; go_must (refine HC.out.mono ?_); rintro e w5 ⟨rfl, k5⟩)
        | (refine wpList_store_blk rfl 39 (.tmp 4) (.tmp 49) rfl (w.heap.size + 1 + 1) (dc r).toArray rfl rfl 39 (dc (List.replicate 5 0)) (b2.out.below k5 b2.out.lt) (by rw [List.size_toArray, dc_length, HRL.out]; kernel_rfl) (by rw [List.size_toArray, dc_length, dc_length, HRL.out]; rfl) (dc_oneCell r) ?_; intro w3 hb3 ho3))
      have k6 : Below w.heap.size w w5 := kk.trans (k5.mono kk.size)
      have k3 : Below w.heap.size w w3 := k6.trans (ho3.below k6.size (by omega))
      exact bodyPost_ret (results_cell_row rfl _ _ (w.heap.size + 1 + 1) _ _ _ _ rfl hb3 Try.underlying39 rfl (by rw [Array.toArray_toList, List.size_toArray, dc_length, HRL.out]; kernel_rfl)) rfl ⟨by rw [Array.toArray_toList, M.times, ← hO.out, ← hr.out], k3⟩

end Go.Proofs.Ytbjmkgbjpcepaaa
