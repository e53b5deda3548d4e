/-
  CONTRACT OF (*sha.Hash).schedule: the block that waits as 64 words. Conditions: none but that the digest lies there.
-/
import Derived.Test.YtdojalhaklkegaaDoorShaMem
import Derived.Test.YtdojalhaklkegaaDoorWordB
import Derived.Deep.QuietTactic
import Derived.BigQuiet
import Derived.RegionTactic
import Derived.StillTailTactics
namespace Go.Proofs.YtdojalhaklkegaaDoor
open Go.RowKit
set_option linter.unusedVariables false
set_option maxRecDepth 100000

theorem w_shr3 (x : UInt32) : (x.toNat : Int) / (8 : Int) = ((x >>> 3).toNat : Int) := by
  rw [UInt32.toNat_shiftRight, Nat.shiftRight_eq_div_pow]
  rfl

theorem w_shr10 (x : UInt32) : (x.toNat : Int) / (1024 : Int) = ((x >>> 10).toNat : Int) := by
  rw [UInt32.toNat_shiftRight, Nat.shiftRight_eq_div_pow]
  rfl

theorem w_add4 (a b c d : UInt32) : ((a.toNat : Int) + (b.toNat : Int) + (c.toNat : Int) + (d.toNat : Int)) % 4294967296 = ((a + b + c + d).toNat : Int) := by
  rw [UInt32.toNat_add, UInt32.toNat_add, UInt32.toNat_add]
  omega

theorem sched_value (x16 x15 x7 x2 : UInt32) :
    Value.int IntKind.u32 (((x16.toNat : Int) + bits BinOp.xor IntKind.u32 (bits BinOp.xor IntKind.u32 (M.ror x15 7).toNat (M.ror x15 18).toNat) ((x15.toNat : Int) / 8) + (x7.toNat : Int) +
      bits BinOp.xor IntKind.u32 (bits BinOp.xor IntKind.u32 (M.ror x2 17).toNat (M.ror x2 19).toNat) ((x2.toNat : Int) / 1024)) % 4294967296) = c32 (x16 + M.s0 x15 + x7 + M.s1 x2) := by
  rw [w_shr3, w_shr10, w_xor, w_xor, w_xor, w_xor, w_add4]
  rfl

theorem schedule_any (g n : Nat) (s : List UInt32) (wait : List UInt8) (w : World) (hs : s.length = 8) (hw : wait.length = 64) (h : Blk w g 156 (Hc s wait n)) :
    Calls Tryd.prog 114 #[.pointer (some ⟨g, 0, none⟩)] w fun e w' => e = .returned (.agg (wc (M.ws wait 64)).toArray) ∧ Below w.heap.size w w' := by
  have H : Hid (Blk w g 156 (Hc s wait n)) := h
  have HS : Hid (s.length = 8) := hs
  have HW : Hid (wait.length = 64) := hw
  clear h hs hw
  go_enter Tryd.func114, Tryd.ntmps114
  go_wp2
  go_loopw [8] (fun i wr => ∃ k : Nat, k ≤ 16 ∧ i = .int .i64 k ∧ Hid (Blk wr (w.heap.size + 1) 157 (wc (M.ws wait k) ++ List.replicate (64 - k) (.int .u32 0))) ∧ Hid (Blk wr w.heap.size 157 (List.replicate 64 (.int .u32 0))) ∧ Below w.heap.size w wr)
    (fun i _ => 16 - (intOf i).toNat)
  case atStart =>
    refine ⟨0, by omega, rfl, ?_, ?_, ?_⟩
    · exact Blk.newAt _ _ _ _ _ (by simp) rfl
    · exact (Blk.newAt _ _ _ _ _ rfl rfl).alloc _
    · exact ((Below.refl _ _).alloc (Nat.le_refl _) _).alloc (by simp) _
  case round =>
    rename_i wr
    obtain ⟨k, hk, rfl, hb1, hb0, hb⟩ := hrel
    by_cases hlt : k < 16
    · have hsrc : IsB wr (.slice (some ⟨g, 8 + 4 * k, none⟩) (64 - 4 * k) (64 - 4 * k)) (wait.drop (4 * k)) := by
        have hl : (wait.drop (4 * k)).length = 64 - 4 * k := by rw [List.length_drop, HW.out]
        refine ⟨_, 64 - 4 * k, by rw [hl], by rw [hl]; exact Nat.le_refl _, by unfold maxLen; omega, .inr ⟨g, 8 + 4 * k, rfl, fun i hi => ?_⟩⟩
        rw [(H.out.below hb H.out.lt).cell, Nat.add_assoc, Hc_wait s wait n _ HS.out (by rw [HW.out]; omega)]
        simp [List.getD_eq_getElem?_getD]
      have hc : wr.cell? ⟨w.heap.size + 1, k, none⟩ = some (.int .u32 0) := by
        rw [hb1.out.cell, List.getElem?_append_right (by rw [wc_length, M.ws_length]; omega), wc_length, M.ws_length, Nat.sub_self, List.getElem?_replicate, if_pos (by omega)]
      have hf : wr.frozen? ⟨w.heap.size + 1, k, none⟩ = false := hb1.out.frozen k
      have hsl := slice_wait g (4 * k) (4 * (k : Int)) (by omega) (by omega) wr
      go_wp2_with fail
      refine (getBig32_any _ _ _ hsrc).mono ?_
      rintro e w1 ⟨rfl, rfl⟩
      go_wp2
      go_roundw
      case rel =>
        refine ⟨k + 1, by omega, by go_num, ?_, ?_, hb.setCell (by simp) _⟩
        · refine (hb1.out.set_ k _).eq_ ?_
          rw [M.ws, if_pos (by omega), wc_append, List.append_assoc, List.set_append_right _ _ (by rw [wc_length, M.ws_length]; exact Nat.le_refl _), wc_length, M.ws_length, Nat.sub_self]
          obtain ⟨m, hm⟩ : ∃ m, 64 - k = m + 1 := ⟨63 - k, by omega⟩
          rw [hm, List.replicate_succ, show 64 - (k + 1) = m by omega]
          have hg := M.gb_lt (wait.drop (4 * k)) 4
          simp [wc, c32]
          omega
        · exact hb0.out.far (by simp) _
      case measure => simp [intOf]; omega
    · obtain rfl : k = 16 := by omega
      go_wp2
      rw [show ((16 : Nat) : Int) = 16 from rfl]
      go_loopw [5] (fun i wr => ∃ k : Nat, 16 ≤ k ∧ k ≤ 64 ∧ i = .int .i64 k ∧ Hid (Blk wr (w.heap.size + 1) 157 (wc (M.ws wait k) ++ List.replicate (64 - k) (.int .u32 0))) ∧ Hid (Blk wr w.heap.size 157 (List.replicate 64 (.int .u32 0))) ∧ Below w.heap.size w wr)
        (fun i _ => 64 - (intOf i).toNat)
      case atStart => exact ⟨16, by omega, by omega, rfl, hb1, hb0, hb⟩
      case round =>
        clear hb hb0 hb1
        rename_i wr
        obtain ⟨k, hk16, hk, rfl, hb1, hb0, hb⟩ := hrel
        by_cases hlt : k < 64
        · have hx : ∀ j, j < k → ∃ x : UInt32, Hid (x = (M.ws wait k).getD j 0) ∧ wr.cell? ⟨w.heap.size + 1, j, none⟩ = some (.int .u32 x.toNat) := fun j hj => by
            refine ⟨_, rfl, ?_⟩
            rw [hb1.out.cell, List.getElem?_append_left (by rw [wc_length, M.ws_length]; exact hj), wc_get _ _ (by rw [M.ws_length]; exact hj)]
          obtain ⟨x16, e16, c16⟩ := hx (k - 16) (by omega)
          obtain ⟨x15, e15, c15⟩ := hx (k - 15) (by omega)
          obtain ⟨x7, e7, c7⟩ := hx (k - 7) (by omega)
          obtain ⟨x2, e2, c2⟩ := hx (k - 2) (by omega)
          clear hx
          have hc : wr.cell? ⟨w.heap.size + 1, k, none⟩ = some (.int .u32 0) := by
            rw [hb1.out.cell, List.getElem?_append_right (by rw [wc_length, M.ws_length]; omega), wc_length, M.ws_length, Nat.sub_self, List.getElem?_replicate, if_pos (by omega)]
          have hf : wr.frozen? ⟨w.heap.size + 1, k, none⟩ = false := hb1.out.frozen k
          go_wp2
          go_quiet (fail)
          go_wp2
          have v16 : IntKind.i64.wrap ((k : Int) - 16) = (k : Int) - 16 := IntWalk.i64_in _ (by omega)
          have v7 : IntKind.i64.wrap ((k : Int) - 7) = (k : Int) - 7 := IntWalk.i64_in _ (by omega)
          have r16 : (16 : Int) ≤ (k : Int) := by omega
          have r7 : (7 : Int) ≤ (k : Int) := by omega
          have p16 : (0 : Int) ≤ (k : Int) - 16 := by omega
          have p7 : (0 : Int) ≤ (k : Int) - 7 := by omega
          have q16 : (k : Int) - 16 < 64 := by omega
          have q7 : (k : Int) - 7 < 64 := by omega
          have t16 : ((k : Int) - 16).toNat = k - 16 := by omega
          have t7 : ((k : Int) - 7).toNat = k - 7 := by omega
          refine wp_region_still 29 (by kernel_rfl) (by kernel_rfl) ?_
          simp only [List.take_succ_cons, List.take_zero, List.drop_succ_cons, List.drop_zero]
          repeat (first | still_step | still_call (sror_lit _ _ _ (by decide) (by decide)))
          refine wpStill_nil ?_
          clear v16 v7 r16 r7 p16 p7 q16 q7 t16 t7
          go_wp2
          go_roundw
          case rel =>
            refine ⟨k + 1, by omega, by omega, by go_num, ?_, ?_, (drewN_below hb _).setCell (by simp) _⟩
            · rw [sched_value]
              refine ((hb1.out.drewN _).set_ k _).eq_ ?_
              rw [M.ws, if_neg (by omega), wc_append, List.append_assoc, List.set_append_right _ _ (by rw [wc_length, M.ws_length]; exact Nat.le_refl _), wc_length, M.ws_length, Nat.sub_self]
              obtain ⟨m, hm⟩ : ∃ m, 64 - k = m + 1 := ⟨63 - k, by omega⟩
              rw [hm, List.replicate_succ, show 64 - (k + 1) = m by omega, ← e16.out, ← e15.out, ← e7.out, ← e2.out]
              rfl
            · exact (hb0.out.drewN _).far (by simp) _
          case measure => simp [intOf]; omega
        · obtain rfl : k = 64 := by omega
          obtain ⟨W, hW⟩ : ∃ W, W = M.ws wait 64 := ⟨_, rfl⟩
          have HL : Hid (W.length = 64) := by rw [Hid, hW]; exact M.ws_length wait 64
          have HR : Hid (wr.rangeAt (w.heap.size + 1) 0 (wc W)) := hb1.out.range 0 _ [] (by rw [hW]; simp)
          have HW2 : Hid (W = M.ws wait 64) := hW
          clear hW hb1
          go_wp2_with (first
            | (refine wpList_load_mid rfl 157 (.tmp 3) rfl (w.heap.size + 1) 0 rfl (wc W) _ HR.out Tryd.underlying157 rfl (by rw [wc_length, HL.out]; kernel_rfl) ?_)
            | (refine wpList_store_blk rfl 157 (.tmp 2) (.tmp 62) rfl w.heap.size (wc W).toArray rfl rfl 157 _ hb0.out (by rw [List.size_toArray, wc_length, HL.out]; kernel_rfl) (by rw [List.size_toArray, wc_length, HL.out, List.length_replicate]) (wc_oneCell W) ?_; intro w3 hb3 ho3))
          refine bodyPost_ret (results_cell_row rfl _ _ w.heap.size _ _ _ _ rfl hb3 Tryd.underlying157 rfl (by rw [Array.toArray_toList, List.size_toArray, wc_length, HL.out]; kernel_rfl)) rfl ⟨?_, hb.trans (ho3.below (Nat.le_trans (Nat.le_refl _) hb.size) (Nat.le_refl _))⟩
          rw [HW2.out]

end Go.Proofs.YtdojalhaklkegaaDoor
