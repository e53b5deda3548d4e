/-
  CONTRACT OF poly.left: what is left by 2^130 - 5, as the plain mathematics has it. Conditions: five limbs.
-/
import Derived.Test.YtbjmkgbjpcepaaaPolyC2
import Derived.Lib.Hide
import Derived.Deep.RegionHeld3
namespace Go.Proofs.Ytbjmkgbjpcepaaa
open Go.RowKit
set_option linter.unusedVariables false

set_option maxHeartbeats 2000000 in
theorem left_any (n : List UInt64) (w : World) (hn : n.length = 5) :
    Calls Try.prog 17 #[.agg (dc n).toArray] w fun e w' => e = .returned (.agg (dc (M.left n)).toArray) ∧ Below w.heap.size w w' := by
  have HN := Lib.hid hn
  obtain ⟨c, hc⟩ : ∃ c, Hid (c = M.carried n) := ⟨_, rfl⟩
  have HCL : Hid (c.length = 5) := by rw [Hid, hc.out, M.carried_length, HN.out]
  obtain ⟨o1, ho1⟩ : ∃ o, o = Obj.cells (dc n).toArray 39 := ⟨_, rfl⟩
  have A0 : ∀ o, Hid (Blk ((w.alloc o1).alloc o) w.heap.size 39 (dc n)) := fun o => by
    rw [ho1]; exact (Blk.newAt w _ (dc n).toArray w.heap.size (dc n) rfl (by simp)).alloc _
  have A1 : Hid (Blk ((w.alloc o1).alloc (.cells #[.int .u64 0, .int .u64 0, .int .u64 0, .int .u64 0, .int .u64 0] 39)) (w.heap.size + 1) 39 (dc (List.replicate 5 0))) := blk_zeroL _ _ (by simp)
  have k0 : ∀ o, Below w.heap.size w ((w.alloc o1).alloc o) := fun o => ((Below.refl _ _).alloc (Nat.le_refl _) o1).alloc (by simp) o
  have HS2 : ∀ o, ((w.alloc o1).alloc o).heap.size = w.heap.size + 1 + 1 := fun o => by simp
  have R0 : Hid (∀ o, ((w.alloc o1).alloc o).rangeAt w.heap.size 0 (dc n)) := fun o => (A0 o).out.range 0 (dc n) [] (by simp)
  have HC : Hid (∀ w0, Calls Try.prog 24 #[.agg (dc n).toArray] w0 fun e w' => e = .returned (.agg (dc c).toArray) ∧ Below w0.heap.size w0 w') := fun w0 => by
    rw [hc.out]
    exact carried_any n w0 HN.out
  subst ho1
  clear hn
  go_enter Try.func17, Try.ntmps17
  go_wp2_with (refine wpList_load_mid rfl 39 (.tmp 1) rfl w.heap.size 0 rfl (dc n) _ (R0.out _) Try.underlying39 rfl (by rw [dc_length, HN.out]; kernel_rfl) ?_)
  refine (HC.out _).mono ?_
  rintro e w5 ⟨rfl, k5⟩
  have b5 : Blk w5 w.heap.size 39 (dc n) := (A0 _).out.below k5 (A0 _).out.lt
  have b5' : Blk w5 (w.heap.size + 1) 39 (dc (List.replicate 5 0)) := A1.out.below k5 A1.out.lt
  have kk5 : Below w.heap.size w w5 := (k0 _).trans (k5.mono (k0 _).size)
  clear k5 A0 A1 k0 R0 HS2
  go_wp2_with (first
    | (refine wpList_store_blk rfl 39 (.tmp 1) (.tmp 9) rfl w.heap.size (dc c).toArray rfl rfl 39 (dc n) ?b1 ?b2 ?b3 ?b4 ?_; go_must (exact b5); go_must (rw [List.size_toArray, dc_length, HCL.out]; kernel_rfl); go_must (rw [List.size_toArray, dc_length, dc_length, HCL.out, HN.out]); go_must (exact dc_oneCell c); intro w3 hb3 ho3)
    | (refine wpList_load_mid rfl 39 (.tmp 1) rfl w.heap.size 0 rfl (dc c) _ ((hb3.alloc _).range 0 (dc c) [] (by simp)) Try.underlying39 rfl (by rw [dc_length, HCL.out]; kernel_rfl) ?_))
  have hl3 : w.heap.size + 1 < w3.heap.size := Nat.lt_of_lt_of_le b5'.lt ho3.size
  have D0 : Hid (Blk (w3.alloc (.cells #[.int .u64 0, .int .u64 0, .int .u64 0, .int .u64 0, .int .u64 0] 39)) w.heap.size 39 (dc c)) := hb3.alloc _
  have D1 : Hid (Blk (w3.alloc (.cells #[.int .u64 0, .int .u64 0, .int .u64 0, .int .u64 0, .int .u64 0] 39)) (w.heap.size + 1) 39 (dc (List.replicate 5 0))) := (b5'.grown ho3 (by intro e; injection e with e; omega)).alloc _
  have k3 : Below w.heap.size w (w3.alloc (.cells #[.int .u64 0, .int .u64 0, .int .u64 0, .int .u64 0, .int .u64 0] 39)) := (kk5.trans (ho3.below kk5.size (Nat.le_refl _))).alloc (by omega) _
  have D2 : Hid (Blk (w3.alloc (.cells #[.int .u64 0, .int .u64 0, .int .u64 0, .int .u64 0, .int .u64 0] 39)) w3.heap.size 39 (dc (M.cs c (List.replicate 5 0) 5 0).1)) := blk_zeroL _ _ rfl
  obtain ⟨g3, hg3⟩ : ∃ g, g = w3.heap.size := ⟨_, rfl⟩
  rw [← hg3] at D2 hl3 ⊢
  clear hb3 ho3 b5 b5' kk5
  go_loopw [3, 11] (fun o i wr => ∃ k : Nat, k ≤ 5 ∧ i = .int .i64 k ∧ o = .int .u64 ((M.cs c (List.replicate 5 0) 5 k).2.toNat : Int) ∧ Hid (Blk wr w.heap.size 39 (dc c)) ∧ Hid (Blk wr (w.heap.size + 1) 39 (dc (List.replicate 5 0))) ∧ Hid (Blk wr g3 39 (dc (M.cs c (List.replicate 5 0) 5 k).1)) ∧ Below w.heap.size w wr)
    (fun _ i _ => 5 - (intOf i).toNat)
  case atStart => exact ⟨0, by omega, rfl, rfl, D0, D1, D2, k3⟩
  case round =>
    clear D0 D1 D2 k3 hg3
    obtain ⟨wA, rfl⟩ : ∃ x, x = wr := ⟨_, rfl⟩
    obtain ⟨k, hk, rfl, rfl, b0, b1, b2, kk⟩ := hrel
    by_cases hlt : k < 5
    · obtain ⟨x, hx⟩ : ∃ x, Hid (x = c.getD k 0) := ⟨_, rfl⟩
      obtain ⟨o, ho⟩ : ∃ x, Hid (x = (M.cs c (List.replicate 5 0) 5 k).2) := ⟨_, rfl⟩
      rw [← ho.out]
      have hrun := run_index_limbs wA c k hlt x (by rw [dc_get _ _ (by rw [HCL.out]; exact hlt), hx.out])
      obtain ⟨u, hcu⟩ : ∃ u, wA.cell? ⟨g3, k, none⟩ = some u := ⟨_, by rw [b2.out.cell, dc_get _ _ (by rw [M.cs_length, List.length_replicate]; exact hlt)]⟩
      have hf : wA.frozen? ⟨g3, k, none⟩ = false := b2.out.frozen k
      obtain ⟨y, hy⟩ : ∃ y, Hid (y = x + o) := ⟨_, rfl⟩
      obtain ⟨m, hm⟩ : ∃ m, Hid (m = y &&& 67108863) := ⟨_, rfl⟩
      obtain ⟨q, hq⟩ : ∃ q, Hid (q = y >>> 26) := ⟨_, rfl⟩
      have s1 : IntKind.u64.wrap ((x.toNat : Int) + (o.toNat : Int)) = (y.toNat : Int) := by rw [hy.out]; exact d_wrap x o
      have s2 : ((x.toNat : Int) + (o.toNat : Int)) % 18446744073709551616 = (y.toNat : Int) := by rw [hy.out]; exact d_wrap x o
      have s3 : bits BinOp.and .u64 (y.toNat : Int) 67108863 = (m.toNat : Int) := by rw [hm.out]; exact d_mask y
      have s4 : (y.toNat : Int) / 67108864 = (q.toNat : Int) := by rw [hq.out]; exact d_shr y
      have HNX : Hid (M.cs c (List.replicate 5 0) 5 (k + 1) = ((M.cs c (List.replicate 5 0) 5 k).1.set k m, q)) := by rw [Hid, M.cs, hm.out, hq.out, hy.out, hx.out, ho.out]
      go_wp2
      go_roundw
      case rel =>
        refine ⟨k + 1, by omega, by go_num, by rw [HNX.out], blk_far b0.out (by omega) _, blk_far b1.out (by omega) _, ?_, below_set kk (by omega) _⟩
        rw [Hid, HNX.out, ← dc_set]
        exact b2.out.set_ k _
      case measure => simp [intOf]; omega
    · obtain rfl : k = 5 := by omega
      obtain ⟨l, hl⟩ : ∃ l, Hid (l = (M.cs c (List.replicate 5 0) 5 5).1) := ⟨_, rfl⟩
      obtain ⟨o, ho⟩ : ∃ x, Hid (x = (M.cs c (List.replicate 5 0) 5 5).2) := ⟨_, rfl⟩
      have HLL : Hid (l.length = 5) := by rw [Hid, hl.out, M.cs_length, List.length_replicate]
      rw [← ho.out]
      rw [← hl.out] at b2
      have B0 : Hid (Blk wA w.heap.size 39 (dc (M.sel c l o 0))) := b0.out
      clear b0
      go_wp2
      rw [show ((5 : Nat) : Int) = 5 from rfl]
      go_loopw [25] (fun i wr => ∃ k : Nat, k ≤ 5 ∧ i = .int .i64 k ∧ Hid (Blk wr w.heap.size 39 (dc (M.sel c l o k))) ∧ Hid (Blk wr (w.heap.size + 1) 39 (dc (List.replicate 5 0))) ∧ Hid (Blk wr g3 39 (dc l)) ∧ Below w.heap.size w wr)
        (fun i _ => 5 - (intOf i).toNat)
      case atStart => exact ⟨0, by omega, rfl, B0, b1, b2, kk⟩
      case round =>
        clear B0 b1 b2 kk
        obtain ⟨wz, rfl⟩ : ∃ x, x = wr := ⟨_, rfl⟩
        obtain ⟨k, hk, rfl, b0, b1, b2, kk⟩ := hrel
        by_cases hlt2 : k < 5
        · obtain ⟨x, hx⟩ : ∃ x, Hid (x = (M.sel c l o k).getD k 0) := ⟨_, rfl⟩
          obtain ⟨y, hy⟩ : ∃ x, Hid (x = l.getD k 0) := ⟨_, rfl⟩
          have hcx : wz.cell? ⟨w.heap.size, k, none⟩ = some (.int .u64 (x.toNat : Int)) := by rw [b0.out.cell, dc_get _ _ (by rw [M.sel_length, HCL.out]; exact hlt2), hx.out]
          have hcy : wz.cell? ⟨g3, k, none⟩ = some (.int .u64 (y.toNat : Int)) := by rw [b2.out.cell, dc_get _ _ (by rw [HLL.out]; exact hlt2), hy.out]
          have hfx : wz.frozen? ⟨w.heap.size, k, none⟩ = false := b0.out.frozen k
          obtain ⟨a1, ha1⟩ : ∃ q, Hid (q = x ^^^ y) := ⟨_, rfl⟩
          obtain ⟨a2, ha2⟩ : ∃ q, Hid (q = 0 - o) := ⟨_, rfl⟩
          obtain ⟨a3, ha3⟩ : ∃ q, Hid (q = a1 &&& a2) := ⟨_, rfl⟩
          obtain ⟨m, hm⟩ : ∃ m, Hid (m = x ^^^ a3) := ⟨_, rfl⟩
          have s1 : bits BinOp.xor .u64 (x.toNat : Int) (y.toNat : Int) = (a1.toNat : Int) := by rw [ha1.out]; exact d_xor x y
          have s2 : IntKind.u64.wrap (-(o.toNat : Int)) = (a2.toNat : Int) := by rw [ha2.out]; exact d_negw o
          have s2' : (-(o.toNat : Int)) % 18446744073709551616 = (a2.toNat : Int) := by rw [ha2.out]; exact d_negw o
          have s3 : bits BinOp.and .u64 (a1.toNat : Int) (a2.toNat : Int) = (a3.toNat : Int) := by rw [ha3.out]; exact d_and a1 a2
          have s4 : bits BinOp.xor .u64 (x.toNat : Int) (a3.toNat : Int) = (m.toNat : Int) := by rw [hm.out]; exact d_xor x a3
          have HNX : Hid (M.sel c l o (k + 1) = (M.sel c l o k).set k m) := by
            rw [Hid, M.sel, ← hx.out, ← hy.out, ← ha1.out, ← ha2.out, ← ha3.out, ← hm.out]
          go_wp2
          refine wp_region_still 15 (by kernel_rfl) (by kernel_rfl) ?_
          simp only [List.take_succ_cons, List.take_zero, List.drop_succ_cons, List.drop_zero]
          repeat still_step
          refine wpStill_nil ?_
          go_wp2
          go_roundw
          case rel =>
            refine ⟨k + 1, by omega, by go_num, ?_, (blk_far b1.out (by omega) _).drew, (blk_far b2.out (by omega) _).drew, drewN_below (below_set kk (by omega) _) 1⟩
            rw [Hid, HNX.out, ← dc_set]
            exact (b0.out.set_ k _).drew
          case measure => simp [intOf]; omega
        · obtain rfl : k = 5 := by omega
          obtain ⟨r, hr⟩ : ∃ r, Hid (r = M.left n) := ⟨_, rfl⟩
          have HRL : Hid (r.length = 5) := by rw [Hid, hr.out, M.left_length, HN.out]
          have N0 : Hid (Blk wz w.heap.size 39 (dc r)) := by rw [hr.out, M.left, ← hc.out, ← hl.out, ← ho.out]; exact b0
          have NR : Hid (wz.rangeAt w.heap.size 0 (dc r)) := N0.out.range 0 (dc r) [] (by simp)
          clear N0 b0
          go_wp2_with (first
            | (refine wpList_load_mid rfl 39 (.tmp 1) rfl w.heap.size 0 rfl (dc r) _ NR.out Try.underlying39 rfl (by rw [dc_length, HRL.out]; kernel_rfl) ?_)
            | (refine wpList_store_blk rfl 39 (.tmp 2) (.tmp 44) rfl (w.heap.size + 1) (dc r).toArray rfl rfl 39 (dc (List.replicate 5 0)) b1.out (by rw [List.size_toArray, dc_length, HRL.out]; kernel_rfl) (by rw [List.size_toArray, dc_length, dc_length, HRL.out]; rfl) (dc_oneCell r) ?_; intro w3 hb3 ho3))
          have k3 : Below w.heap.size w w3 := kk.trans (ho3.below kk.size (by omega))
          exact bodyPost_ret (results_cell_row rfl _ _ (w.heap.size + 1) _ _ _ _ rfl hb3 Try.underlying39 rfl (by rw [Array.toArray_toList, List.size_toArray, dc_length, HRL.out]; kernel_rfl)) rfl ⟨by rw [Array.toArray_toList, ← hr.out], k3⟩

end Go.Proofs.Ytbjmkgbjpcepaaa
