/-
  CONTRACT OF (*sha.Hash).schedule: the block that waits as 64 words. Conditions: none but that the digest lies there.
  CONTRACT OF (*sha.Hash).work: the block that waits goes into the state. Conditions: the program's two tables lie as they were laid.
  FROM THE ROW's LISTED VARIABLES TO 'Laid': sha's two tables, cell by cell; and the start that the witness begins in. Conditions: none.
  FROM AN ARGUMENT'S READING TO 'IsB': a slice of bytes that came in. Conditions: none.
-/
import Derived.Test.YtphcbpfpelonaaaGreatDoorPf2
import Derived.Deep.QuietTactic
import Derived.BigQuiet
import Derived.RegionTactic
import Derived.StillTailTactics
import Derived.Test.YtphcbpfpelonaaaGreatDoorRows
import Derived.ProofKit
import Derived.LaidMore
import Derived.OpenShut
import Derived.Stop.Joined
import Derived.Test.YtphcbpfpelonaaaGreatDoorPf1

namespace Go.Proofs.YtphcbpfpelonaaaGreatDoor
open Go.RowKit
set_option linter.unusedVariables false
set_option maxRecDepth 100000

theorem w_shr3 (x : UInt32) : (x.toNat : Int) / (8 : Int) = ((x >>> 3).toNat : Int) := by
  rw [UInt32.toNat_shiftRight, Nat.shiftRight_eq_div_pow]
  rfl

theorem w_shr10 (x : UInt32) : (x.toNat : Int) / (1024 : Int) = ((x >>> 10).toNat : Int) := by
  rw [UInt32.toNat_shiftRight, Nat.shiftRight_eq_div_pow]
  rfl

theorem w_add4 (a b c d : UInt32) : ((a.toNat : Int) + (b.toNat : Int) + (c.toNat : Int) + (d.toNat : Int)) % 4294967296 = ((a + b + c + d).toNat : Int) := by
  rw [UInt32.toNat_add, UInt32.toNat_add, UInt32.toNat_add]
  omega

theorem sched_value (x16 x15 x7 x2 : UInt32) :
    Value.int IntKind.u32 (((x16.toNat : Int) + bits BinOp.xor IntKind.u32 (bits BinOp.xor IntKind.u32 (M.ror x15 7).toNat (M.ror x15 18).toNat) ((x15.toNat : Int) / 8) + (x7.toNat : Int) +
      bits BinOp.xor IntKind.u32 (bits BinOp.xor IntKind.u32 (M.ror x2 17).toNat (M.ror x2 19).toNat) ((x2.toNat : Int) / 1024)) % 4294967296) = c32 (x16 + M.s0 x15 + x7 + M.s1 x2) := by
  rw [w_shr3, w_shr10, w_xor, w_xor, w_xor, w_xor, w_add4]
  rfl

theorem schedule_any (g n : Nat) (s : List UInt32) (wait : List UInt8) (w : World) (hs : s.length = 8) (hw : wait.length = 64) (h : Blk w g 193 (Hc s wait n)) :
    Calls Tryz.prog 139 #[.pointer (some ⟨g, 0, none⟩)] w fun e w' => e = .returned (.agg (wc (M.ws wait 64)).toArray) ∧ Below w.heap.size w w' := by
  have H : Hid (Blk w g 193 (Hc s wait n)) := h
  have HS : Hid (s.length = 8) := hs
  have HW : Hid (wait.length = 64) := hw
  clear h hs hw
  go_enter Tryz.func139, Tryz.ntmps139
  go_wp2
  go_loopw [8] (fun i wr => ∃ k : Nat, k ≤ 16 ∧ i = .int .i64 k ∧ Hid (Blk wr (w.heap.size + 1) 198 (wc (M.ws wait k) ++ List.replicate (64 - k) (.int .u32 0))) ∧ Hid (Blk wr w.heap.size 198 (List.replicate 64 (.int .u32 0))) ∧ Below w.heap.size w wr)
    (fun i _ => 16 - (intOf i).toNat)
  case atStart =>
    refine ⟨0, by omega, rfl, ?_, ?_, ?_⟩
    · exact Blk.newAt _ _ _ _ _ (by simp) rfl
    · exact (Blk.newAt _ _ _ _ _ rfl rfl).alloc _
    · exact ((Below.refl _ _).alloc (Nat.le_refl _) _).alloc (by simp) _
  case round =>
    rename_i wr
    obtain ⟨k, hk, rfl, hb1, hb0, hb⟩ := hrel
    by_cases hlt : k < 16
    · have hsrc : IsB wr (.slice (some ⟨g, 8 + 4 * k, none⟩) (64 - 4 * k) (64 - 4 * k)) (wait.drop (4 * k)) := by
        have hl : (wait.drop (4 * k)).length = 64 - 4 * k := by rw [List.length_drop, HW.out]
        refine ⟨_, 64 - 4 * k, by rw [hl], by rw [hl]; exact Nat.le_refl _, by unfold maxLen; omega, .inr ⟨g, 8 + 4 * k, rfl, fun i hi => ?_⟩⟩
        rw [(H.out.below hb H.out.lt).cell, Nat.add_assoc, Hc_wait s wait n _ HS.out (by rw [HW.out]; omega)]
        simp [List.getD_eq_getElem?_getD]
      have hc : wr.cell? ⟨w.heap.size + 1, k, none⟩ = some (.int .u32 0) := by
        rw [hb1.out.cell, List.getElem?_append_right (by rw [wc_length, M.ws_length]; omega), wc_length, M.ws_length, Nat.sub_self, List.getElem?_replicate, if_pos (by omega)]
      have hf : wr.frozen? ⟨w.heap.size + 1, k, none⟩ = false := hb1.out.frozen k
      have hsl := slice_wait g (4 * k) (4 * (k : Int)) (by omega) (by omega) wr
      go_wp2_with fail
      refine (getBig32_any _ _ _ hsrc).mono ?_
      rintro e w1 ⟨rfl, rfl⟩
      go_wp2
      go_roundw
      case rel =>
        refine ⟨k + 1, by omega, by go_num, ?_, ?_, hb.setCell (by simp) _⟩
        · refine (hb1.out.set_ k _).eq_ ?_
          rw [M.ws, if_pos (by omega), wc_append, List.append_assoc, List.set_append_right _ _ (by rw [wc_length, M.ws_length]; exact Nat.le_refl _), wc_length, M.ws_length, Nat.sub_self]
          obtain ⟨m, hm⟩ : ∃ m, 64 - k = m + 1 := ⟨63 - k, by omega⟩
          rw [hm, List.replicate_succ, show 64 - (k + 1) = m by omega]
          have hg := M.gb_lt (wait.drop (4 * k)) 4
          simp [wc, c32]
          omega
        · exact hb0.out.far (by simp) _
      case measure => simp [intOf]; omega
    · obtain rfl : k = 16 := by omega
      go_wp2
      rw [show ((16 : Nat) : Int) = 16 from rfl]
      go_loopw [5] (fun i wr => ∃ k : Nat, 16 ≤ k ∧ k ≤ 64 ∧ i = .int .i64 k ∧ Hid (Blk wr (w.heap.size + 1) 198 (wc (M.ws wait k) ++ List.replicate (64 - k) (.int .u32 0))) ∧ Hid (Blk wr w.heap.size 198 (List.replicate 64 (.int .u32 0))) ∧ Below w.heap.size w wr)
        (fun i _ => 64 - (intOf i).toNat)
      case atStart => exact ⟨16, by omega, by omega, rfl, hb1, hb0, hb⟩
      case round =>
        clear hb hb0 hb1
        rename_i wr
        obtain ⟨k, hk16, hk, rfl, hb1, hb0, hb⟩ := hrel
        by_cases hlt : k < 64
        · have hx : ∀ j, j < k → ∃ x : UInt32, Hid (x = (M.ws wait k).getD j 0) ∧ wr.cell? ⟨w.heap.size + 1, j, none⟩ = some (.int .u32 x.toNat) := fun j hj => by
            refine ⟨_, rfl, ?_⟩
            rw [hb1.out.cell, List.getElem?_append_left (by rw [wc_length, M.ws_length]; exact hj), wc_get _ _ (by rw [M.ws_length]; exact hj)]
          obtain ⟨x16, e16, c16⟩ := hx (k - 16) (by omega)
          obtain ⟨x15, e15, c15⟩ := hx (k - 15) (by omega)
          obtain ⟨x7, e7, c7⟩ := hx (k - 7) (by omega)
          obtain ⟨x2, e2, c2⟩ := hx (k - 2) (by omega)
          clear hx
          have hc : wr.cell? ⟨w.heap.size + 1, k, none⟩ = some (.int .u32 0) := by
            rw [hb1.out.cell, List.getElem?_append_right (by rw [wc_length, M.ws_length]; omega), wc_length, M.ws_length, Nat.sub_self, List.getElem?_replicate, if_pos (by omega)]
          have hf : wr.frozen? ⟨w.heap.size + 1, k, none⟩ = false := hb1.out.frozen k
          go_wp2
          go_quiet (fail)
          go_wp2
          have v16 : IntKind.i64.wrap ((k : Int) - 16) = (k : Int) - 16 := IntWalk.i64_in _ (by omega)
          have v7 : IntKind.i64.wrap ((k : Int) - 7) = (k : Int) - 7 := IntWalk.i64_in _ (by omega)
          have r16 : (16 : Int) ≤ (k : Int) := by omega
          have r7 : (7 : Int) ≤ (k : Int) := by omega
          have p16 : (0 : Int) ≤ (k : Int) - 16 := by omega
          have p7 : (0 : Int) ≤ (k : Int) - 7 := by omega
          have q16 : (k : Int) - 16 < 64 := by omega
          have q7 : (k : Int) - 7 < 64 := by omega
          have t16 : ((k : Int) - 16).toNat = k - 16 := by omega
          have t7 : ((k : Int) - 7).toNat = k - 7 := by omega
          refine wp_region_still 29 (by kernel_rfl) (by kernel_rfl) ?_
          simp only [List.take_succ_cons, List.take_zero, List.drop_succ_cons, List.drop_zero]
          repeat (first | still_step | still_call (sror_lit _ _ _ (by decide) (by decide)))
          refine wpStill_nil ?_
          clear v16 v7 r16 r7 p16 p7 q16 q7 t16 t7
          go_wp2
          go_roundw
          case rel =>
            refine ⟨k + 1, by omega, by omega, by go_num, ?_, ?_, (drewN_below hb _).setCell (by simp) _⟩
            · rw [sched_value]
              refine ((hb1.out.drewN _).set_ k _).eq_ ?_
              rw [M.ws, if_neg (by omega), wc_append, List.append_assoc, List.set_append_right _ _ (by rw [wc_length, M.ws_length]; exact Nat.le_refl _), wc_length, M.ws_length, Nat.sub_self]
              obtain ⟨m, hm⟩ : ∃ m, 64 - k = m + 1 := ⟨63 - k, by omega⟩
              rw [hm, List.replicate_succ, show 64 - (k + 1) = m by omega, ← e16.out, ← e15.out, ← e7.out, ← e2.out]
              rfl
            · exact (hb0.out.drewN _).far (by simp) _
          case measure => simp [intOf]; omega
        · obtain rfl : k = 64 := by omega
          obtain ⟨W, hW⟩ : ∃ W, W = M.ws wait 64 := ⟨_, rfl⟩
          have HL : Hid (W.length = 64) := by rw [Hid, hW]; exact M.ws_length wait 64
          have HR : Hid (wr.rangeAt (w.heap.size + 1) 0 (wc W)) := hb1.out.range 0 _ [] (by rw [hW]; simp)
          have HW2 : Hid (W = M.ws wait 64) := hW
          clear hW hb1
          go_wp2_with (first
            | (refine wpList_load_mid rfl 198 (.tmp 3) rfl (w.heap.size + 1) 0 rfl (wc W) _ HR.out Tryz.underlying198 rfl (by rw [wc_length, HL.out]; kernel_rfl) ?_)
            | (refine wpList_store_blk rfl 198 (.tmp 2) (.tmp 62) rfl w.heap.size (wc W).toArray rfl rfl 198 _ hb0.out (by rw [List.size_toArray, wc_length, HL.out]; kernel_rfl) (by rw [List.size_toArray, wc_length, HL.out, List.length_replicate]) (wc_oneCell W) ?_; intro w3 hb3 ho3))
          refine bodyPost_ret (results_cell_row rfl _ _ w.heap.size _ _ _ _ rfl hb3 Tryz.underlying198 rfl (by rw [Array.toArray_toList, List.size_toArray, wc_length, HL.out]; kernel_rfl)) rfl ⟨?_, hb.trans (ho3.below (Nat.le_trans (Nat.le_refl _) hb.size) (Nat.le_refl _))⟩
          rw [HW2.out]

end Go.Proofs.YtphcbpfpelonaaaGreatDoor

namespace Go.Proofs.YtphcbpfpelonaaaGreatDoor
open Go.RowKit
set_option linter.unusedVariables false

/-- The package's two tables lie as the program's text lays them. -/
structure Laid (w : World) : Prop where
  beg : ∀ i, i < 8 → w.cell? ⟨0, i, none⟩ = some (.int .u32 ((M.H0.l.getD i 0).toNat : Int))
  con : ∀ i, i < 64 → w.cell? ⟨1, i, none⟩ = some (.int .u32 ((M.tK.getD i 0).toNat : Int))
  size : 2 ≤ w.heap.size

theorem Laid.below {B : Nat} {w w' : World} (h : Laid w) (k : Below B w w') (hB : 2 ≤ B) : Laid w' :=
  ⟨fun i hi => by rw [k.cell (Nat.lt_of_lt_of_le (show 0 < 2 by decide) hB)]; exact h.beg i hi, fun i hi => by rw [k.cell (Nat.lt_of_lt_of_le (show 1 < 2 by decide) hB)]; exact h.con i hi, Nat.le_trans h.size k.size⟩

theorem mix_set (p q : List UInt32) (k : Nat) (hp : k < p.length) (hq : k < q.length) : (q.take k ++ p.drop k).set k (q.getD k 0) = q.take (k + 1) ++ p.drop (k + 1) := by
  rw [List.set_append_right _ _ (by rw [List.length_take]; omega), List.length_take, Nat.min_eq_left (by omega), Nat.sub_self, List.drop_eq_getElem_cons hp, List.set_cons_zero, List.take_succ_eq_append_getElem hq, show q.getD k 0 = q[k] by simp [hq], List.append_assoc]
  rfl

theorem Hc_set (l : List UInt32) (wait : List UInt8) (n k : Nat) (x : UInt32) (h : k < l.length) : (Hc l wait n).set k (c32 x) = Hc (l.set k x) wait n := by
  rw [Hc, List.set_append_left _ _ (by rw [wc_length]; exact h), Hc, wc, wc, List.map_set]

theorem add_get (s r : M.St) (k : Nat) (h : k < 8) : s.l.getD k 0 + r.l.getD k 0 = (M.add s r).l.getD k 0 := by
  match k, h with
  | 0, _ => rfl
  | 1, _ => rfl
  | 2, _ => rfl
  | 3, _ => rfl
  | 4, _ => rfl
  | 5, _ => rfl
  | 6, _ => rfl
  | 7, _ => rfl

set_option maxRecDepth 100000 in
set_option maxHeartbeats 1000000 in
theorem work_any (g n : Nat) (s : M.St) (wait : List UInt8) (w : World) (hL : Laid w) (hw : wait.length = 64) (h : Blk w g 193 (Hc s.l wait n)) :
    Calls Tryz.prog 135 #[.pointer (some ⟨g, 0, none⟩)] w fun e w' => e = .returned (.tuple #[]) ∧ Blk w' g 193 (Hc (M.work s wait).l wait n) ∧ Only g w w' := by
  have H : Hid (Blk w g 193 (Hc s.l wait n)) := h
  have HW : Hid (wait.length = 64) := hw
  have HL : Hid (Laid w) := hL
  have hglt := h.lt
  clear h hw hL
  go_enter Tryz.func135, Tryz.ntmps135
  go_wp2_with fail
  refine (schedule_any g n s.l wait w rfl HW.out H.out).mono ?_
  rintro e w1 ⟨rfl, hb1⟩
  obtain ⟨W, hW⟩ : ∃ W, W = M.ws wait 64 := ⟨_, rfl⟩
  rw [← hW]
  have HWS : Hid (W = M.ws wait 64) := hW
  have HWL : Hid (W.length = 64) := by rw [Hid, hW]; exact M.ws_length wait 64
  clear hW
  have hs1 : w.heap.size ≤ w1.heap.size := hb1.size
  have nW := Blk.newAt w1 198 (Array.replicate 64 (.int .u32 0)) w1.heap.size _ rfl rfl
  go_upto_region 1 with (refine wpList_store_blk rfl 198 (.tmp 2) (.tmp 15) rfl w1.heap.size (wc W).toArray rfl rfl 198 _ nW (by rw [List.size_toArray, wc_length, HWL.out]; kernel_rfl) (by rw [List.size_toArray, wc_length, HWL.out]; rfl) (wc_oneCell W) ?_; intro w2 hbW ho2)
  clear nW
  have HBW : Hid (Blk w2 w1.heap.size 198 (wc W)) := hbW.eq_ (by simp)
  have kk : Below w.heap.size w w2 := ((hb1.alloc hs1 _).trans (ho2.below (by simp; omega) hs1))
  have hs2 : w1.heap.size < w2.heap.size := by have := ho2.size; simp at this; omega
  have HG : Hid (Blk w2 g 193 (Hc s.l wait n)) := H.out.below kk hglt
  have HR : Hid (w2.rangeAt g 0 (wc s.l)) := HG.out.range 0 (wc s.l) _ rfl
  clear hbW ho2
  go_wp2_with (first
    | (refine wpList_load_mid rfl 190 (.tmp 18) rfl g 0 rfl (wc s.l) _ HR.out Tryz.underlying190 rfl (by kernel_rfl) ?_)
    | (refine wpList_store_blk rfl 190 (.tmp 3) (.tmp 19) rfl w2.heap.size (wc s.l).toArray rfl rfl 190 (List.replicate 8 (.int .u32 0)) (Blk.newAt _ _ _ _ _ rfl rfl) (by kernel_rfl) rfl (wc_oneCell s.l) ?_; intro w3 hbV ho3))
  have hbV2 : Blk w3 w2.heap.size 190 (wc (M.rounds s W 0).l) := hbV.eq_ (by simp [M.rounds])
  have kv : Below w2.heap.size w2 w3 := ((Below.refl _ _).alloc (Nat.le_refl _) _).trans (ho3.below (by simp) (Nat.le_refl _))
  clear hbV ho3
  go_loopw [20] (fun i wr => ∃ k : Nat, k ≤ 64 ∧ i = .int .i64 k ∧ Hid (Blk wr w2.heap.size 190 (wc (M.rounds s W k).l)) ∧ Below w2.heap.size w2 wr)
    (fun i _ => 64 - (intOf i).toNat)
  case atStart => exact ⟨0, by omega, rfl, hbV2, kv⟩
  case round =>
    clear hbV2 kv
    rename_i wr
    obtain ⟨k, hk, rfl, hbV, kv⟩ := hrel
    by_cases hlt : k < 64
    · obtain ⟨⟨a, b, c, d, e, f, g7, h8⟩, hst⟩ : ∃ st, st = M.rounds s W k := ⟨_, rfl⟩
      have hbv := hbV.out
      rw [← hst] at hbv
      have c0 : wr.cell? ⟨w2.heap.size, 0, none⟩ = some (.int .u32 a.toNat) := hbv.cell 0
      have c1 : wr.cell? ⟨w2.heap.size, 1, none⟩ = some (.int .u32 b.toNat) := hbv.cell 1
      have c2 : wr.cell? ⟨w2.heap.size, 2, none⟩ = some (.int .u32 c.toNat) := hbv.cell 2
      have c3 : wr.cell? ⟨w2.heap.size, 3, none⟩ = some (.int .u32 d.toNat) := hbv.cell 3
      have c4 : wr.cell? ⟨w2.heap.size, 4, none⟩ = some (.int .u32 e.toNat) := hbv.cell 4
      have c5 : wr.cell? ⟨w2.heap.size, 5, none⟩ = some (.int .u32 f.toNat) := hbv.cell 5
      have c6 : wr.cell? ⟨w2.heap.size, 6, none⟩ = some (.int .u32 g7.toNat) := hbv.cell 6
      have c7 : wr.cell? ⟨w2.heap.size, 7, none⟩ = some (.int .u32 h8.toNat) := hbv.cell 7
      obtain ⟨K, hK⟩ : ∃ K, K = M.tK.getD k 0 := ⟨_, rfl⟩
      obtain ⟨x, hx⟩ : ∃ x, x = W.getD k 0 := ⟨_, rfl⟩
      have cK : wr.cell? ⟨1, k, none⟩ = some (.int .u32 K.toNat) := by
        rw [hK]; exact ((HL.out.below kk (HL.out.size)).below kv (Nat.le_trans HL.out.size kk.size)).con k hlt
      have cW : wr.cell? ⟨w1.heap.size, k, none⟩ = some (.int .u32 x.toNat) := by
        rw [(HBW.out.below kv hs2).cell, wc_get W k (by rw [HWL.out]; exact hlt), hx]
      have HST : Hid ((⟨a, b, c, d, e, f, g7, h8⟩ : M.St) = M.rounds s W k) := hst
      have HK : Hid (K = M.tK.getD k 0) := hK
      have HX : Hid (x = W.getD k 0) := hx
      have HBV : Hid (Blk wr w2.heap.size 190 (wc (M.St.l ⟨a, b, c, d, e, f, g7, h8⟩))) := hbv
      clear hst hK hx hbv hbV
      have i1 : (k : Int) < 64 := by omega
      go_wp2
      go_quiet (fail)
      go_wp2
      refine wp_region_still 28 (by kernel_rfl) (by kernel_rfl) ?_
      simp only [List.take_succ_cons, List.take_zero, List.drop_succ_cons, List.drop_zero]
      repeat (first | still_step | still_call (sror_lit _ _ _ (by decide) (by decide)))
      refine wpStill_nil ?_
      go_wp2_with (go_at_call 140; go_must (refine (sror_lit _ _ _ (by decide) (by decide)).mono ?_); rintro e w4 ⟨rfl, rfl⟩)
      simp only [w_wrap, w_xor, w_and, w_not, w_add]
      obtain ⟨t, ht⟩ : ∃ t, t = M.t1 ⟨a, b, c, d, e, f, g7, h8⟩ K x := ⟨_, rfl⟩
      obtain ⟨u, hu⟩ : ∃ u, u = M.t2 ⟨a, b, c, d, e, f, g7, h8⟩ := ⟨_, rfl⟩
      rw [show h8 + (M.ror e 6 ^^^ M.ror e 11 ^^^ M.ror e 25) + ((e &&& f) ^^^ (~~~ e &&& g7)) + K + x = t from ht.symm, show (M.ror a 2 ^^^ M.ror a 13 ^^^ M.ror a 22) + ((a &&& b) ^^^ (a &&& c) ^^^ (b &&& c)) = u from hu.symm]
      have HT : Hid (t = M.t1 ⟨a, b, c, d, e, f, g7, h8⟩ K x) := ht
      have HU : Hid (u = M.t2 ⟨a, b, c, d, e, f, g7, h8⟩) := hu
      clear ht hu
      refine wp_region_still 2 (by kernel_rfl) (by kernel_rfl) ?_
      simp only [List.take_succ_cons, List.take_zero, List.drop_succ_cons, List.drop_zero]
      repeat still_step
      refine wpStill_nil ?_
      refine wpList_copy_blk rfl (.tmp 83) (.tmp 84) 201 201 rfl 155 Tryz.underlying201 (by kernel_rfl) (some ⟨w2.heap.size, 1, none⟩) (some ⟨w2.heap.size, 0, none⟩) 7 7 7 8 rfl rfl
        w2.heap.size 1 _ 190 HBV.out (wc [a, b, c, d, e, f, g7]) rfl (fun _ => ⟨rfl, _, rfl, fun j v hj => ?_⟩) (show 1 + 7 ≤ 8 by decide) (fun v hv => wc_oneCell [a, b, c, d, e, f, g7] v (by simpa using hv)) ?_
      · rw [Addr.add_lit, Nat.zero_add]
        exact (HBV.out.cell j).trans ((List.getElem?_append_left (l₂ := [c32 h8]) (List.getElem?_eq_some_iff.1 hj).1).trans hj)
      intro w5 hb5 ho5
      have hb5' : Blk w5 w2.heap.size 190 (wc [a, a, b, c, d, e, f, g7]) := hb5
      have d0 : w5.cell? ⟨w2.heap.size, 0, none⟩ = some (.int .u32 a.toNat) := hb5'.cell 0
      have d4 : w5.cell? ⟨w2.heap.size, 4, none⟩ = some (.int .u32 d.toNat) := hb5'.cell 4
      have f0 : w5.frozen? ⟨w2.heap.size, 0, none⟩ = false := hb5'.frozen 0
      have f4 : w5.frozen? ⟨w2.heap.size, 4, none⟩ = false := hb5'.frozen 4
      have k5 : Below w2.heap.size w2 w5 := (drewN_below kv _).drew.trans (ho5.below kv.size (Nat.le_refl _))
      have HB5 : Hid (Blk w5 w2.heap.size 190 (wc [a, a, b, c, d, e, f, g7])) := hb5'
      clear hb5 hb5' ho5 c0 c1 c2 c3 c4 c5 c6 c7 cK cW HBV kv
      go_wp2
      go_roundw
      case rel =>
        refine ⟨k + 1, by omega, by go_num, ?_, (k5.setCell (Nat.le_refl _) _).setCell (Nat.le_refl _) _⟩
        rw [w_add, w_add]
        refine ((HB5.out.set_ 0 _).set_ 4 _).eq_ ?_
        rw [M.rounds, ← HST.out, ← HK.out, ← HX.out, M.rnd, ← HT.out, ← HU.out]
        rfl
      case measure => simp [intOf]; omega
    · obtain rfl : k = 64 := by omega
      go_wp2
      rw [show ((64 : Nat) : Int) = 64 from rfl]
      obtain ⟨r, hr⟩ : ∃ r, r = M.rounds s W 64 := ⟨_, rfl⟩
      have HRR : Hid (r = M.rounds s W 64) := hr
      have hbR : Blk wr w2.heap.size 190 (wc r.l) := by rw [hr]; exact hbV.out
      have hwk : w.heap.size ≤ w2.heap.size := kk.size
      have gS : Blk wr g 193 (Hc ((M.add s r).l.take 0 ++ s.l.drop 0) wait n) := HG.out.below kv (Nat.lt_of_lt_of_le hglt hwk)
      have oS : Only g w wr := Only.of_below (kk.trans (kv.mono hwk))
      clear hr hbV kv
      go_loopw [96] (fun i wr => ∃ k : Nat, k ≤ 8 ∧ i = .int .i64 k ∧ Hid (Blk wr g 193 (Hc ((M.add s r).l.take k ++ s.l.drop k) wait n)) ∧ Hid (Blk wr w2.heap.size 190 (wc r.l)) ∧ Only g w wr)
        (fun i _ => 8 - (intOf i).toNat)
      case atStart => exact ⟨0, by omega, rfl, gS, hbR, oS⟩
      case round =>
        clear gS hbR oS
        rename_i wr
        obtain ⟨k, hk, rfl, gS, hbR, oS⟩ := hrel
        by_cases hlt : k < 8
        · obtain ⟨x, hx⟩ : ∃ x, x = s.l.getD k 0 := ⟨_, rfl⟩
          obtain ⟨y, hy⟩ : ∃ y, y = r.l.getD k 0 := ⟨_, rfl⟩
          have cx : wr.cell? ⟨g, k, none⟩ = some (.int .u32 x.toNat) := by
            rw [gS.out.cell, Hc_state _ _ _ _ (by simp [M.l_length]; omega), hx]
            simp [List.getD_eq_getElem?_getD, List.getElem?_append_right, M.l_length, show min k 8 = k by omega]
          have cy : wr.cell? ⟨w2.heap.size, k, none⟩ = some (.int .u32 y.toNat) := by
            rw [hbR.out.cell, wc_get _ _ (by rw [M.l_length]; exact hlt), hy]
          have fx : wr.frozen? ⟨g, k, none⟩ = false := gS.out.frozen k
          have HX : Hid (x = s.l.getD k 0) := hx
          have HY : Hid (y = r.l.getD k 0) := hy
          clear hx hy
          have i1 : (k : Int) < 8 := by omega
          go_wp2
          refine wp_region_still 13 (by kernel_rfl) (by kernel_rfl) ?_
          simp only [List.take_succ_cons, List.take_zero, List.drop_succ_cons, List.drop_zero]
          repeat still_step
          refine wpStill_nil ?_
          go_wp2
          go_roundw
          case rel =>
            refine ⟨k + 1, by omega, by go_num, ?_, ?_, (oS.setCell (p := ⟨g, k, none⟩) (.inl rfl) _).drew⟩
            · rw [w_add]
              refine ((gS.out.set_ k _).drew).eq_ ?_
              rw [show Value.int IntKind.u32 ((x + y).toNat : Int) = c32 (x + y) from rfl, Hc_set _ _ _ _ _ (by simp [M.l_length]; omega), HX.out, HY.out, add_get s r k hlt, mix_set _ _ _ (by rw [M.l_length]; exact hlt) (by rw [M.l_length]; exact hlt)]
            · exact ((hbR.out.far (p := ⟨g, k, none⟩) (fun e => by have e' : w2.heap.size = g := e; omega) _)).drew
          case measure => simp [intOf]; omega
        · obtain rfl : k = 8 := by omega
          go_wp2
          go_end0
          refine ⟨rfl, ?_, oS⟩
          refine gS.out.eq_ ?_
          rw [List.take_of_length_le (by rw [M.l_length]; exact Nat.le_refl _), List.drop_eq_nil_of_le (by rw [M.l_length]; exact Nat.le_refl _), List.append_nil, M.work, HRR.out, HWS.out]

end Go.Proofs.YtphcbpfpelonaaaGreatDoor

namespace Go.Proofs.YtphcbpfpelonaaaGreatDoor
open Go.ChangeShapes Go.WideShapes Go.ChangeAt Go.WideMaps Go.WideElems Go.RowKit
set_option linter.unusedVariables false

theorem gBeg : Tryz.prog.globalNamed "orlop/sha.beginning" = some 0 := by kernel_rfl
theorem gCon : Tryz.prog.globalNamed "orlop/sha.constants" = some 1 := by kernel_rfl
theorem tBeg : (Tryz.prog.globals[0]?).map (·.type) = some 190 := by kernel_rfl
theorem tCon : (Tryz.prog.globals[1]?).map (·.type) = some 198 := by kernel_rfl

/-- What the rows list. -/
def laidSha : List (String × DataW Unit) := [("orlop/sha.beginning", Rows.laid_orlop_sha_beginning), ("orlop/sha.constants", Rows.laid_orlop_sha_constants)]

/-- The cells of an array of words that reads as known words. -/
theorem words_of_trod {W : World} {enc : TypeId × Value → Unit} {sp : Nat → Bool} {held : Bool} {fuel n : Nat} {t : TypeId} {cs : List Value} {p : List MemPlace} {l : List UInt32} (ht : Tryz.prog.underlying t = some (.array n 155))
    (hl : l.length = n) (hd : DataW.trod enc Tryz.prog W 0 sp held fuel t cs = some (.agg (l.map fun x => .lit (.int .u32 (x.toNat : Int))), p)) : ∀ i, i < n → cs[i]? = some (.int .u32 ((l.getD i 0).toNat : Int)) := by
  intro i hi
  obtain ⟨xs, m, rfl, hx, hlen, hn, hel⟩ := DataW.trod_array ht hd
  have c1 : Tryz.prog.cellsOf 155 = 1 := by kernel_rfl
  have h := hel i hi
  rw [c1, Nat.mul_one] at h
  simp only [Prod.mk.injEq, DataW.agg.injEq] at hx
  have hxi : i < xs.length := by omega
  rw [List.getElem?_eq_getElem hxi] at h
  obtain ⟨k, e1, e2, _⟩ := DataW.trod_int Tryz.underlying155 h
  have e3 := congrArg (fun q => q[i]?) hx.1
  simp only [List.getElem?_map, List.getElem?_eq_getElem hxi, e2, Option.map_some] at e3
  have hli : i < l.length := by omega
  rw [List.getElem?_eq_getElem hli] at e3
  simp only [Option.map_some, Option.some.injEq, DataW.lit.injEq, Lit.int.injEq, true_and] at e3
  have e4 : (List.take 1 (List.drop i cs))[0]? = cs[i]? := by
    rw [List.getElem?_take_of_lt (by omega), List.getElem?_drop, Nat.add_zero]
  rw [← e4, e1, ← e3]
  simp [List.getD_eq_getElem?_getD, hli]

theorem of_laid {W : World} (h : laidMetH Tryz.prog laidSha W) : Laid W := by
  rw [MakeChecks.laidMetH_plain _ _ _ (by kernel_rfl)] at h
  obtain ⟨ps, ⟨g0, t0, cs0, f0, p0, q0, hg0, ht0, hv0, hd0, ⟨g1, t1, cs1, f1, p1, q1, hg1, ht1, hv1, hd1, _, _⟩, _⟩, _, _⟩ := h
  obtain rfl := Option.some.inj (gBeg.symm.trans hg0)
  obtain rfl := Option.some.inj (gCon.symm.trans hg1)
  obtain rfl := Option.some.inj (tBeg.symm.trans ht0)
  obtain rfl := Option.some.inj (tCon.symm.trans ht1)
  have w0 := words_of_trod (l := M.H0.l) Tryz.underlying190 rfl hd0
  have w1 := words_of_trod (l := M.tK) Tryz.underlying198 rfl hd1
  have b : ∀ i, i < 8 → W.cell? ⟨0, i, none⟩ = some (.int .u32 ((M.H0.l.getD i 0).toNat : Int)) := fun i hi => by
    have := World.var?_cell hg0 hv0 i
    rw [this]
    simpa using w0 i hi
  have c : ∀ i, i < 64 → W.cell? ⟨1, i, none⟩ = some (.int .u32 ((M.tK.getD i 0).toNat : Int)) := fun i hi => by
    have := World.var?_cell hg1 hv1 i
    rw [this]
    simpa using w1 i hi
  exact ⟨b, c, World.block_lt_of_cell? W _ (c 0 (by decide))⟩

/-- The door's own heap meets the condition. -/
theorem door_met (os : Os) (args : Array Value) : laidMetH Tryz.prog laidSha ((World.doorLaid Tryz.prog 19 os).forCall (fun _ _ => 0) ⟨#[], args, []⟩).memory :=
  laidMetH_of_parts3 (fuel := 8) (laidMet_of_run' 8 (by kernel_rfl) (by kernel_rfl)) (by kernel_rfl) (by kernel_rfl)

end Go.Proofs.YtphcbpfpelonaaaGreatDoor

namespace Go.Proofs.YtphcbpfpelonaaaGreatDoor
open Go.RowKit

theorem isB_of_ints {w : World} {x : Addr} {len cap : Nat} {zs : List Int} (hl : len ≤ cap) (hm : cap ≤ maxLen) (hz : zs.length = cap)
    (hcell : ∀ i, i < zs.length → w.cell? (x.add i) = some (.int .u8 (zs.getD i 0))) (hwz : ∀ n ∈ zs, (Lit.int .u8 n).wf = true) :
    ∃ bs : List UInt8, bs.length = len ∧ IsB w (.slice (some x) len cap) bs := by
  refine ⟨(zs.take len).map fun z => UInt8.ofNat z.toNat, by simp; omega, some x, cap, by simp; omega, by simp; omega, hm, ?_⟩
  by_cases h0 : len = 0
  · subst h0
    exact .inl (by simp)
  · obtain ⟨b, off, spot⟩ := x
    have hc := hcell 0 (by omega)
    have hspot : spot = none := by simpa [Addr.add] using World.cell?_spot hc
    subst hspot
    refine .inr ⟨b, off, rfl, fun i hi => ?_⟩
    have hi' : i < len := by simp at hi; omega
    have h1 := hcell i (by omega)
    have h2 : w.cell? ⟨b, off + i, none⟩ = some (.int .u8 (zs.getD i 0)) := by rw [← Addr.add_lit]; exact h1
    rw [h2]
    have hi2 : i < zs.length := by omega
    have hb := bounds_u8 (hwz zs[i] (List.getElem_mem hi2))
    have e : zs.getD i 0 = zs[i] := by simp [hi2]
    have e2 : (((zs.take len).map fun z => UInt8.ofNat z.toNat).getD i 0) = UInt8.ofNat zs[i].toNat := by
      simp [List.getD_eq_getElem?_getD, hi', hi2]
    rw [e, e2]
    have e3 : (UInt8.ofNat zs[i].toNat).toNat = zs[i].toNat % 256 := by simp
    rw [e3]
    congr 2
    omega

end Go.Proofs.YtphcbpfpelonaaaGreatDoor
