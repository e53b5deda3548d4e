/-
  CONTRACTS OF poly.carried, plus, times AND left: limbs as the plain mathematics has them. Conditions: five limbs.
-/
import Derived.Test.YtbjmkgbjpcepaaaPolyW
import Derived.Lib.Hide
namespace Go.Proofs.Ytbjmkgbjpcepaaa
open Go.RowKit
set_option linter.unusedVariables false

/-- Five limbs of 0 in a block that is new. -/
theorem blk_zero (w : World) (g : Nat) (hg : g = w.heap.size) : Blk (w.alloc (.cells (Array.replicate 5 (.int .u64 0)) 39)) g 39 (dc (List.replicate 5 0)) := Blk.newAt _ _ _ _ _ hg rfl

/-- Five limbs of 0 in a block that is new, written out. -/
theorem blk_zeroL (w : World) (g : Nat) (hg : g = w.heap.size) : Blk (w.alloc (.cells #[.int .u64 0, .int .u64 0, .int .u64 0, .int .u64 0, .int .u64 0] 39)) g 39 (dc (List.replicate 5 0)) := Blk.newAt _ _ _ _ _ hg rfl

set_option maxHeartbeats 1000000 in
theorem carried_any (n : List UInt64) (w : World) (hn : n.length = 5) :
    Calls Try.prog 24 #[.agg (dc n).toArray] w fun e w' => e = .returned (.agg (dc (M.carried n)).toArray) ∧ Below w.heap.size w w' := by
  have HN := Lib.hid hn
  have HR0 : Hid (∀ o, ((w.alloc (.cells (dc n).toArray 39)).alloc o).rangeAt w.heap.size 0 (dc n)) := fun o => ((Blk.newAt w _ (dc n).toArray w.heap.size (dc n) rfl (by simp)).alloc _).range 0 (dc n) [] (by simp)
  have B0 : ∀ o, Hid (Blk ((w.alloc (.cells (dc n).toArray 39)).alloc o) w.heap.size 39 (dc (M.cs n n 0 0).1)) := fun o => (Blk.newAt w _ (dc n).toArray w.heap.size (dc n) rfl (by simp)).alloc o
  have B1 : Hid (Blk ((w.alloc (.cells (dc n).toArray 39)).alloc (.cells (Array.replicate 5 (.int .u64 0)) 39)) (w.heap.size + 1) 39 (dc (List.replicate 5 0))) := blk_zero _ _ (by simp)
  have k0 : ∀ o o', Below w.heap.size w ((w.alloc o).alloc o') := fun o o' => ((Below.refl _ _).alloc (Nat.le_refl _) o).alloc (by simp) o'
  clear hn
  go_enter Try.func24, Try.ntmps24
  go_wp2_with (refine wpList_load_mid rfl 39 (.tmp 1) rfl w.heap.size 0 rfl (dc n) _ (HR0.out _) Try.underlying39 rfl (by rw [dc_length, HN.out]; kernel_rfl) ?_)
  go_loopw [3, 7] (fun o i wr => ∃ k : Nat, k ≤ 5 ∧ i = .int .i64 k ∧ o = .int .u64 ((M.cs n n 0 k).2.toNat : Int) ∧ Hid (Blk wr w.heap.size 39 (dc (M.cs n n 0 k).1)) ∧ Hid (Blk wr (w.heap.size + 1) 39 (dc (List.replicate 5 0))) ∧ Below w.heap.size w wr)
    (fun _ i _ => 5 - (intOf i).toNat)
  case atStart => exact ⟨0, by omega, rfl, rfl, B0 _, B1, k0 _ _⟩
  case round =>
    clear B0 B1 k0 HR0
    obtain ⟨wr, rfl⟩ : ∃ x, x = wr := ⟨_, rfl⟩
    obtain ⟨k, hk, rfl, rfl, b0, b1, kk⟩ := hrel
    by_cases hlt : k < 5
    · obtain ⟨x, hx⟩ : ∃ x, Hid (x = n.getD k 0) := ⟨_, rfl⟩
      obtain ⟨o, ho⟩ : ∃ x, Hid (x = (M.cs n n 0 k).2) := ⟨_, rfl⟩
      rw [← ho.out]
      have hrun := run_index_limbs wr n k hlt x (by rw [dc_get _ _ (by rw [HN.out]; exact hlt), hx.out])
      have hc : ∃ u, wr.cell? ⟨w.heap.size, k, none⟩ = some u := ⟨_, by rw [b0.out.cell, dc_get _ _ (by rw [M.cs_length, HN.out]; exact hlt)]⟩
      obtain ⟨u, hc⟩ := hc
      have hf : wr.frozen? ⟨w.heap.size, k, none⟩ = false := b0.out.frozen k
      obtain ⟨y, hy⟩ : ∃ y, Hid (y = x + o) := ⟨_, rfl⟩
      obtain ⟨m, hm⟩ : ∃ m, Hid (m = y &&& 67108863) := ⟨_, rfl⟩
      obtain ⟨q, hq⟩ : ∃ q, Hid (q = y >>> 26) := ⟨_, rfl⟩
      have s1 : IntKind.u64.wrap ((x.toNat : Int) + (o.toNat : Int)) = (y.toNat : Int) := by rw [hy.out]; exact d_wrap x o
      have s2 : ((x.toNat : Int) + (o.toNat : Int)) % 18446744073709551616 = (y.toNat : Int) := by rw [hy.out]; exact d_wrap x o
      have s3 : bits BinOp.and .u64 (y.toNat : Int) 67108863 = (m.toNat : Int) := by rw [hm.out]; exact d_mask y
      have s4 : (y.toNat : Int) / 67108864 = (q.toNat : Int) := by rw [hq.out]; exact d_shr y
      have HNX : Hid (M.cs n n 0 (k + 1) = ((M.cs n n 0 k).1.set k m, q)) := by rw [Hid, M.cs, hm.out, hq.out, hy.out, hx.out, ho.out]
      go_wp2
      go_roundw
      case rel =>
        refine ⟨k + 1, by omega, by go_num, by rw [HNX.out], ?_, b1.out.far (by simp) _, kk.setCell (Nat.le_refl _) _⟩
        rw [Hid, HNX.out, ← dc_set]
        exact b0.out.set_ k _
      case measure => simp [intOf]; omega
    · obtain rfl : k = 5 := by omega
      obtain ⟨l, hl⟩ : ∃ l, Hid (l = (M.cs n n 0 5).1) := ⟨_, rfl⟩
      obtain ⟨o, ho⟩ : ∃ x, Hid (x = (M.cs n n 0 5).2) := ⟨_, rfl⟩
      have HLL : Hid (l.length = 5) := by rw [Hid, hl.out, M.cs_length, HN.out]
      rw [← ho.out]
      rw [← hl.out] at b0
      obtain ⟨a, ha⟩ : ∃ x, Hid (x = l.getD 0 0) := ⟨_, rfl⟩
      obtain ⟨b, hb⟩ : ∃ x, Hid (x = l.getD 1 0) := ⟨_, rfl⟩
      obtain ⟨g, hg⟩ : ∃ g, Hid (g = w.heap.size) := ⟨_, rfl⟩
      have hc0 : wr.cell? ⟨w.heap.size, 0, none⟩ = some (.int .u64 (a.toNat : Int)) := by rw [b0.out.cell, dc_get _ _ (by rw [HLL.out]; decide), ha.out]
      have hc1 : wr.cell? ⟨w.heap.size, 1, none⟩ = some (.int .u64 (b.toNat : Int)) := by rw [b0.out.cell, dc_get _ _ (by rw [HLL.out]; decide), hb.out]
      have hf0 : wr.frozen? ⟨w.heap.size, 0, none⟩ = false := b0.out.frozen 0
      have hf1 : wr.frozen? ⟨w.heap.size, 1, none⟩ = false := b0.out.frozen 1
      obtain ⟨p, hp⟩ : ∃ y, Hid (y = 5 * o) := ⟨_, rfl⟩
      obtain ⟨z, hz⟩ : ∃ y, Hid (y = a + p) := ⟨_, rfl⟩
      obtain ⟨t, ht⟩ : ∃ y, Hid (y = z >>> 26) := ⟨_, rfl⟩
      obtain ⟨y, hy⟩ : ∃ y, Hid (y = b + t) := ⟨_, rfl⟩
      obtain ⟨m, hm⟩ : ∃ m, Hid (m = z &&& 67108863) := ⟨_, rfl⟩
      have s1 : IntKind.u64.wrap (5 * (o.toNat : Int)) = (p.toNat : Int) := by rw [hp.out]; exact d_fivew o
      have s1' : (5 * (o.toNat : Int)) % 18446744073709551616 = (p.toNat : Int) := by rw [hp.out]; exact d_fivew o
      have s2 : IntKind.u64.wrap ((a.toNat : Int) + (p.toNat : Int)) = (z.toNat : Int) := by rw [hz.out]; exact d_wrap a p
      have s2' : ((a.toNat : Int) + (p.toNat : Int)) % 18446744073709551616 = (z.toNat : Int) := by rw [hz.out]; exact d_wrap a p
      have s3 : (z.toNat : Int) / 67108864 = (t.toNat : Int) := by rw [ht.out]; exact d_shr z
      have s4 : IntKind.u64.wrap ((b.toNat : Int) + (t.toNat : Int)) = (y.toNat : Int) := by rw [hy.out]; exact d_wrap b t
      have s4' : ((b.toNat : Int) + (t.toNat : Int)) % 18446744073709551616 = (y.toNat : Int) := by rw [hy.out]; exact d_wrap b t
      have s5 : bits BinOp.and .u64 (z.toNat : Int) 67108863 = (m.toNat : Int) := by rw [hm.out]; exact d_mask z
      have HRES : Hid (M.carried n = ((l.set 0 z).set 1 y).set 0 m) := by
        rw [Hid, M.carried, ← hl.out, ← ho.out, M.fold2, M.fold1, M.fold0]
        have e0 : (l.set 0 (l.getD 0 0 + 5 * o)).getD 0 0 = z := by
          have := HLL.out
          rw [← ha.out, ← hp.out, ← hz.out]; simp [show 0 < l.length by omega]
        have e1 : (l.set 0 (l.getD 0 0 + 5 * o)).getD 1 0 = b := by
          rw [hb.out]; simp [List.getD_eq_getElem?_getD]
        rw [e0, e1, ← ht.out, ← hy.out, ← ha.out, ← hp.out, ← hz.out]
        have e2 : ((l.set 0 z).set 1 y).getD 0 0 = z := by
          have := HLL.out
          simp [List.getD_eq_getElem?_getD, show 0 < l.length by omega]
        rw [e2, ← hm.out]
      obtain ⟨r, hr⟩ : ∃ r, Hid (r = ((l.set 0 z).set 1 y).set 0 m) := ⟨_, rfl⟩
      have HRL : Hid (r.length = 5) := by rw [Hid, hr.out, List.length_set, List.length_set, List.length_set, HLL.out]
      have N0 : Hid (Blk (((wr.setCell ⟨w.heap.size, 0, none⟩ (.int .u64 (z.toNat : Int))).setCell ⟨w.heap.size, 1, none⟩ (.int .u64 (y.toNat : Int))).setCell ⟨w.heap.size, 0, none⟩ (.int .u64 (m.toNat : Int))) w.heap.size 39 (dc r)) := by
        rw [Hid, hr.out, ← dc_set, ← dc_set, ← dc_set]
        exact ((b0.out.set_ 0 _).set_ 1 _).set_ 0 _
      have N1 : Hid (Blk (((wr.setCell ⟨w.heap.size, 0, none⟩ (.int .u64 (z.toNat : Int))).setCell ⟨w.heap.size, 1, none⟩ (.int .u64 (y.toNat : Int))).setCell ⟨w.heap.size, 0, none⟩ (.int .u64 (m.toNat : Int))) (w.heap.size + 1) 39 (dc (List.replicate 5 0))) := by
        have hne : w.heap.size + 1 ≠ w.heap.size := by omega
        exact blk_far (blk_far (blk_far b1.out hne _) hne _) hne _
      have NR : Hid ((((wr.setCell ⟨w.heap.size, 0, none⟩ (.int .u64 (z.toNat : Int))).setCell ⟨w.heap.size, 1, none⟩ (.int .u64 (y.toNat : Int))).setCell ⟨w.heap.size, 0, none⟩ (.int .u64 (m.toNat : Int))).rangeAt w.heap.size 0 (dc r)) := N0.out.range 0 (dc r) [] (by simp)
      have K3 : Hid (Below w.heap.size w (((wr.setCell ⟨w.heap.size, 0, none⟩ (.int .u64 (z.toNat : Int))).setCell ⟨w.heap.size, 1, none⟩ (.int .u64 (y.toNat : Int))).setCell ⟨w.heap.size, 0, none⟩ (.int .u64 (m.toNat : Int)))) := below_set (below_set (below_set kk (Nat.le_refl _) _) (Nat.le_refl _) _) (Nat.le_refl _) _
      obtain ⟨W3, hW3⟩ : ∃ W, W = (((wr.setCell ⟨w.heap.size, 0, none⟩ (.int .u64 (z.toNat : Int))).setCell ⟨w.heap.size, 1, none⟩ (.int .u64 (y.toNat : Int))).setCell ⟨w.heap.size, 0, none⟩ (.int .u64 (m.toNat : Int))) := ⟨_, rfl⟩
      rw [← hW3] at N0 N1 NR K3
      go_wp2_with (refine wpList_load_mid rfl 39 (.tmp 1) rfl w.heap.size 0 rfl (dc r) _ (hW3 ▸ NR.out) Try.underlying39 rfl (by rw [dc_length, HRL.out]; kernel_rfl) ?_; go_must (rw [← hW3]; refine wpList_store_blk rfl 39 (.tmp 2) (.tmp 38) rfl (w.heap.size + 1) (dc r).toArray rfl rfl 39 (dc (List.replicate 5 0)) N1.out (by rw [List.size_toArray, dc_length, HRL.out]; kernel_rfl) (by rw [List.size_toArray, dc_length, dc_length, HRL.out]; rfl) (dc_oneCell r) ?_); intro w3 hb3 ho3)
      have k3 : Below w.heap.size w w3 := K3.out.trans (ho3.below K3.out.size (by omega))
      exact bodyPost_ret (results_cell_row rfl _ _ (w.heap.size + 1) _ _ _ _ rfl hb3 Try.underlying39 rfl (by rw [Array.toArray_toList, List.size_toArray, dc_length, HRL.out]; kernel_rfl)) rfl ⟨by rw [Array.toArray_toList, HRES.out, ← hr.out], k3⟩

end Go.Proofs.Ytbjmkgbjpcepaaa
