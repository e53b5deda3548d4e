/-
  CONTRACTS OF word.ofLeastFirst, word.ofGreatestFirst, Get32, Get64, GetBig32, GetBig64 and of orlopref01.Get, GetBig: the numbers of the first bytes of a row. Conditions: none but n up to 8, which is all that is asked for.
  CONTRACT OF (*sha.Hash).schedule: the block that waits as 64 words. Conditions: none but that the digest lies there.
  CONTRACT OF (*sha.Hash).work: the block that waits goes into the state. Conditions: the program's two tables lie as they were laid.
-/
import Derived.Test.YtdojalhaklkegaaDoorPn1
import Derived.WalkSpells
import Derived.Test.YtdojalhaklkegaaDoorPn2
import Derived.Deep.QuietTactic
import Derived.BigQuiet
import Derived.RegionTactic
import Derived.StillTailTactics

namespace Go.Proofs.YtdojalhaklkegaaDoor
open Go.RowKit

theorem ret_u64 {a b : Int} (h : a = b) : Ending.returned (.int .u64 a) = .returned (.int .u64 b) := by rw [h]
theorem ret_u32 {a b : Int} (h : a = b) : Ending.returned (.int .u32 a) = .returned (.int .u32 b) := by rw [h]

theorem ofLeastFirst_any (ao : Option Addr) (cap n : Nat) (bs : List UInt8) (w : World) (hn : n ≤ 8) (hl : bs.length ≤ cap) (hm : cap ≤ maxLen) (h : At w ao bs) :
    Calls Tryd.prog 83 #[.slice ao bs.length cap, .int .i64 n] w fun e w' => e = .returned (.int .u64 (M.gl bs n : Nat)) ∧ w = w' := by
  unfold maxLen at hm
  have H : Hid (At w ao bs) := h
  clear h
  by_cases hmin : n ≤ bs.length
  all_goals
    go_enter Tryd.func83, Tryd.ntmps83
    go_wp2
    go_loop [5, 11] (fun v i => ∃ k : Nat, k ≤ n ∧ k ≤ bs.length ∧ i = .int .i64 k ∧ v = .int .u64 (M.gl bs k : Nat)) (fun _ i => n - (intOf i).toNat)
    case atStart => exact ⟨0, Nat.zero_le _, Nat.zero_le _, rfl, rfl⟩
    case round =>
      obtain ⟨k, hk, hk2, rfl, rfl⟩ := hrel
      by_cases hlt : k < n ∧ k < bs.length
      · obtain ⟨h1, h2⟩ := hlt
        rcases H.out with h0 | ⟨b, off, rfl, hc0⟩
        · subst h0; simp at h2
        · have hc := hc0 k h2
          clear hc0
          obtain ⟨c, hcc⟩ : ∃ c, c = (bs.getD k 0).toNat := ⟨_, rfl⟩
          rw [← hcc] at hc
          have HC : Hid (c = (bs.getD k 0).toNat) := hcc
          clear hcc
          go_wp2
          go_round
          case rel =>
            refine ⟨k + 1, by omega, by omega, by go_num, ?_⟩
            rw [or_byte_up _ c k (M.gl_lt bs k) (by omega) (by have := (bs.getD k 0).toNat_lt; have := HC.out; omega), HC.out]
            rfl
          case measure => simp [intOf]; omega
      · go_wp2
        go_ret
        refine ⟨ret_u64 ?_, rfl⟩
        by_cases hkn : k = n
        · rw [hkn]
        · have e := M.gl_past bs k (by omega) (n - k)
          rw [show k + (n - k) = n by omega] at e
          rw [e]

theorem gb_up (bs : List UInt8) (k n : Nat) (h : k ≤ n) (hn : n ≤ 8) : M.gb bs k * 256 ^ (n - k) < 18446744073709551616 := by
  have h1 : M.gb bs k * 256 ^ (n - k) < 256 ^ k * 256 ^ (n - k) := (Nat.mul_lt_mul_right (M.pow_pos _)).2 (M.gb_lt bs k)
  rw [← Nat.pow_add, show k + (n - k) = n by omega] at h1
  have h2 : (256 : Nat) ^ n ≤ 256 ^ 8 := Nat.pow_le_pow_right (by omega) (by omega)
  have h3 : (256 : Nat) ^ 8 = 18446744073709551616 := by decide
  omega

theorem ofGreatestFirst_any (ao : Option Addr) (cap n : Nat) (bs : List UInt8) (w : World) (hn : n ≤ 8) (hl : bs.length ≤ cap) (hm : cap ≤ maxLen) (h : At w ao bs) :
    Calls Tryd.prog 98 #[.slice ao bs.length cap, .int .i64 n] w fun e w' => e = .returned (.int .u64 (M.gb bs n : Nat)) ∧ w = w' := by
  unfold maxLen at hm
  have H : Hid (At w ao bs) := h
  clear h
  by_cases hmin : n ≤ bs.length
  all_goals
    go_enter Tryd.func98, Tryd.ntmps98
    go_wp2
    go_loop [5, 11] (fun v i => ∃ k : Nat, k ≤ n ∧ k ≤ bs.length ∧ i = .int .i64 k ∧ v = .int .u64 (M.gb bs k * 256 ^ (n - k) : Nat)) (fun _ i => n - (intOf i).toNat)
    case atStart => exact ⟨0, Nat.zero_le _, Nat.zero_le _, rfl, by simp [M.gb]⟩
    case round =>
      obtain ⟨k, hk, hk2, rfl, rfl⟩ := hrel
      by_cases hlt : k < n ∧ k < bs.length
      · obtain ⟨h1, h2⟩ := hlt
        rcases H.out with h0 | ⟨b, off, rfl, hc0⟩
        · subst h0; simp at h2
        · have hc := hc0 k h2
          clear hc0
          obtain ⟨c, hcc⟩ : ∃ c, c = (bs.getD k 0).toNat := ⟨_, rfl⟩
          rw [← hcc] at hc
          have HC : Hid (c = (bs.getD k 0).toNat) := hcc
          clear hcc
          obtain ⟨g, hg⟩ : ∃ g, g = M.gb bs k * 256 ^ (n - k) := ⟨_, rfl⟩
          rw [← hg]
          have HG : Hid (g = M.gb bs k * 256 ^ (n - k)) := hg
          clear hg
          go_wp2
          go_round
          case rel =>
            refine ⟨k + 1, by omega, by omega, by go_num, ?_⟩
            have e := HG.out
            have hb := gb_up bs k n hk hn
            rw [show n - k = n - 1 - k + 1 by omega] at e hb
            rw [e, or_byte_down _ c (n - 1 - k) hb (by omega) (by have := (bs.getD k 0).toNat_lt; have := HC.out; omega), HC.out]
            rw [show n - (k + 1) = n - 1 - k by omega]
            rfl
          case measure => simp [intOf]; omega
      · go_wp2
        go_ret
        refine ⟨ret_u64 ?_, rfl⟩
        by_cases hkn : k = n
        · rw [hkn]; simp
        · have e := M.gb_past bs k (by omega) (n - k)
          rw [show k + (n - k) = n by omega] at e
          rw [e]
          simp

theorem get32_any (v : Value) (bs : List UInt8) (w : World) (h : IsB w v bs) :
    Calls Tryd.prog 73 #[v] w fun e w' => e = .returned (.int .u32 (M.gl bs 4 : Nat)) ∧ w = w' := by
  obtain ⟨ao, cap, rfl, h1, h2, h3⟩ := h
  go_enter Tryd.func73, Tryd.ntmps73
  go_wp2_with (go_at_call 83; go_must (refine (ofLeastFirst_any ao cap 4 bs _ (by omega) h1 h2 h3).mono ?_); rintro e w1 ⟨rfl, rfl⟩)
  go_ret
  refine ⟨ret_u32 ?_, rfl⟩
  have := M.gl_lt bs 4
  omega

theorem getBig32_any (v : Value) (bs : List UInt8) (w : World) (h : IsB w v bs) :
    Calls Tryd.prog 70 #[v] w fun e w' => e = .returned (.int .u32 (M.gb bs 4 : Nat)) ∧ w = w' := by
  obtain ⟨ao, cap, rfl, h1, h2, h3⟩ := h
  go_enter Tryd.func70, Tryd.ntmps70
  go_wp2_with (go_at_call 98; go_must (refine (ofGreatestFirst_any ao cap 4 bs _ (by omega) h1 h2 h3).mono ?_); rintro e w1 ⟨rfl, rfl⟩)
  go_ret
  refine ⟨ret_u32 ?_, rfl⟩
  have := M.gb_lt bs 4
  omega

theorem get64_any (v : Value) (bs : List UInt8) (w : World) (h : IsB w v bs) :
    Calls Tryd.prog 58 #[v] w fun e w' => e = .returned (.int .u64 (M.gl bs 8 : Nat)) ∧ w = w' := by
  obtain ⟨ao, cap, rfl, h1, h2, h3⟩ := h
  go_enter Tryd.func58, Tryd.ntmps58
  go_wp2_with (go_at_call 83; go_must (refine (ofLeastFirst_any ao cap 8 bs _ (by omega) h1 h2 h3).mono ?_); rintro e w1 ⟨rfl, rfl⟩)
  go_ret
  exact ⟨rfl, rfl⟩

end Go.Proofs.YtdojalhaklkegaaDoor

namespace Go.Proofs.YtdojalhaklkegaaDoor
open Go.RowKit
set_option linter.unusedVariables false
set_option maxRecDepth 100000

theorem w_shr3 (x : UInt32) : (x.toNat : Int) / (8 : Int) = ((x >>> 3).toNat : Int) := by
  rw [UInt32.toNat_shiftRight, Nat.shiftRight_eq_div_pow]
  rfl

theorem w_shr10 (x : UInt32) : (x.toNat : Int) / (1024 : Int) = ((x >>> 10).toNat : Int) := by
  rw [UInt32.toNat_shiftRight, Nat.shiftRight_eq_div_pow]
  rfl

theorem w_add4 (a b c d : UInt32) : ((a.toNat : Int) + (b.toNat : Int) + (c.toNat : Int) + (d.toNat : Int)) % 4294967296 = ((a + b + c + d).toNat : Int) := by
  rw [UInt32.toNat_add, UInt32.toNat_add, UInt32.toNat_add]
  omega

theorem sched_value (x16 x15 x7 x2 : UInt32) :
    Value.int IntKind.u32 (((x16.toNat : Int) + bits BinOp.xor IntKind.u32 (bits BinOp.xor IntKind.u32 (M.ror x15 7).toNat (M.ror x15 18).toNat) ((x15.toNat : Int) / 8) + (x7.toNat : Int) +
      bits BinOp.xor IntKind.u32 (bits BinOp.xor IntKind.u32 (M.ror x2 17).toNat (M.ror x2 19).toNat) ((x2.toNat : Int) / 1024)) % 4294967296) = c32 (x16 + M.s0 x15 + x7 + M.s1 x2) := by
  rw [w_shr3, w_shr10, w_xor, w_xor, w_xor, w_xor, w_add4]
  rfl

theorem schedule_any (g n : Nat) (s : List UInt32) (wait : List UInt8) (w : World) (hs : s.length = 8) (hw : wait.length = 64) (h : Blk w g 156 (Hc s wait n)) :
    Calls Tryd.prog 114 #[.pointer (some ⟨g, 0, none⟩)] w fun e w' => e = .returned (.agg (wc (M.ws wait 64)).toArray) ∧ Below w.heap.size w w' := by
  have H : Hid (Blk w g 156 (Hc s wait n)) := h
  have HS : Hid (s.length = 8) := hs
  have HW : Hid (wait.length = 64) := hw
  clear h hs hw
  go_enter Tryd.func114, Tryd.ntmps114
  go_wp2
  go_loopw [8] (fun i wr => ∃ k : Nat, k ≤ 16 ∧ i = .int .i64 k ∧ Hid (Blk wr (w.heap.size + 1) 157 (wc (M.ws wait k) ++ List.replicate (64 - k) (.int .u32 0))) ∧ Hid (Blk wr w.heap.size 157 (List.replicate 64 (.int .u32 0))) ∧ Below w.heap.size w wr)
    (fun i _ => 16 - (intOf i).toNat)
  case atStart =>
    refine ⟨0, by omega, rfl, ?_, ?_, ?_⟩
    · exact Blk.newAt _ _ _ _ _ (by simp) rfl
    · exact (Blk.newAt _ _ _ _ _ rfl rfl).alloc _
    · exact ((Below.refl _ _).alloc (Nat.le_refl _) _).alloc (by simp) _
  case round =>
    rename_i wr
    obtain ⟨k, hk, rfl, hb1, hb0, hb⟩ := hrel
    by_cases hlt : k < 16
    · have hsrc : IsB wr (.slice (some ⟨g, 8 + 4 * k, none⟩) (64 - 4 * k) (64 - 4 * k)) (wait.drop (4 * k)) := by
        have hl : (wait.drop (4 * k)).length = 64 - 4 * k := by rw [List.length_drop, HW.out]
        refine ⟨_, 64 - 4 * k, by rw [hl], by rw [hl]; exact Nat.le_refl _, by unfold maxLen; omega, .inr ⟨g, 8 + 4 * k, rfl, fun i hi => ?_⟩⟩
        rw [(H.out.below hb H.out.lt).cell, Nat.add_assoc, Hc_wait s wait n _ HS.out (by rw [HW.out]; omega)]
        simp [List.getD_eq_getElem?_getD]
      have hc : wr.cell? ⟨w.heap.size + 1, k, none⟩ = some (.int .u32 0) := by
        rw [hb1.out.cell, List.getElem?_append_right (by rw [wc_length, M.ws_length]; omega), wc_length, M.ws_length, Nat.sub_self, List.getElem?_replicate, if_pos (by omega)]
      have hf : wr.frozen? ⟨w.heap.size + 1, k, none⟩ = false := hb1.out.frozen k
      have hsl := slice_wait g (4 * k) (4 * (k : Int)) (by omega) (by omega) wr
      go_wp2_with fail
      refine (getBig32_any _ _ _ hsrc).mono ?_
      rintro e w1 ⟨rfl, rfl⟩
      go_wp2
      go_roundw
      case rel =>
        refine ⟨k + 1, by omega, by go_num, ?_, ?_, hb.setCell (by simp) _⟩
        · refine (hb1.out.set_ k _).eq_ ?_
          rw [M.ws, if_pos (by omega), wc_append, List.append_assoc, List.set_append_right _ _ (by rw [wc_length, M.ws_length]; exact Nat.le_refl _), wc_length, M.ws_length, Nat.sub_self]
          obtain ⟨m, hm⟩ : ∃ m, 64 - k = m + 1 := ⟨63 - k, by omega⟩
          rw [hm, List.replicate_succ, show 64 - (k + 1) = m by omega]
          have hg := M.gb_lt (wait.drop (4 * k)) 4
          simp [wc, c32]
          omega
        · exact hb0.out.far (by simp) _
      case measure => simp [intOf]; omega
    · obtain rfl : k = 16 := by omega
      go_wp2
      rw [show ((16 : Nat) : Int) = 16 from rfl]
      go_loopw [5] (fun i wr => ∃ k : Nat, 16 ≤ k ∧ k ≤ 64 ∧ i = .int .i64 k ∧ Hid (Blk wr (w.heap.size + 1) 157 (wc (M.ws wait k) ++ List.replicate (64 - k) (.int .u32 0))) ∧ Hid (Blk wr w.heap.size 157 (List.replicate 64 (.int .u32 0))) ∧ Below w.heap.size w wr)
        (fun i _ => 64 - (intOf i).toNat)
      case atStart => exact ⟨16, by omega, by omega, rfl, hb1, hb0, hb⟩
      case round =>
        clear hb hb0 hb1
        rename_i wr
        obtain ⟨k, hk16, hk, rfl, hb1, hb0, hb⟩ := hrel
        by_cases hlt : k < 64
        · have hx : ∀ j, j < k → ∃ x : UInt32, Hid (x = (M.ws wait k).getD j 0) ∧ wr.cell? ⟨w.heap.size + 1, j, none⟩ = some (.int .u32 x.toNat) := fun j hj => by
            refine ⟨_, rfl, ?_⟩
            rw [hb1.out.cell, List.getElem?_append_left (by rw [wc_length, M.ws_length]; exact hj), wc_get _ _ (by rw [M.ws_length]; exact hj)]
          obtain ⟨x16, e16, c16⟩ := hx (k - 16) (by omega)
          obtain ⟨x15, e15, c15⟩ := hx (k - 15) (by omega)
          obtain ⟨x7, e7, c7⟩ := hx (k - 7) (by omega)
          obtain ⟨x2, e2, c2⟩ := hx (k - 2) (by omega)
          clear hx
          have hc : wr.cell? ⟨w.heap.size + 1, k, none⟩ = some (.int .u32 0) := by
            rw [hb1.out.cell, List.getElem?_append_right (by rw [wc_length, M.ws_length]; omega), wc_length, M.ws_length, Nat.sub_self, List.getElem?_replicate, if_pos (by omega)]
          have hf : wr.frozen? ⟨w.heap.size + 1, k, none⟩ = false := hb1.out.frozen k
          go_wp2
          go_quiet (fail)
          go_wp2
          have v16 : IntKind.i64.wrap ((k : Int) - 16) = (k : Int) - 16 := IntWalk.i64_in _ (by omega)
          have v7 : IntKind.i64.wrap ((k : Int) - 7) = (k : Int) - 7 := IntWalk.i64_in _ (by omega)
          have r16 : (16 : Int) ≤ (k : Int) := by omega
          have r7 : (7 : Int) ≤ (k : Int) := by omega
          have p16 : (0 : Int) ≤ (k : Int) - 16 := by omega
          have p7 : (0 : Int) ≤ (k : Int) - 7 := by omega
          have q16 : (k : Int) - 16 < 64 := by omega
          have q7 : (k : Int) - 7 < 64 := by omega
          have t16 : ((k : Int) - 16).toNat = k - 16 := by omega
          have t7 : ((k : Int) - 7).toNat = k - 7 := by omega
          refine wp_region_still 29 (by kernel_rfl) (by kernel_rfl) ?_
          simp only [List.take_succ_cons, List.take_zero, List.drop_succ_cons, List.drop_zero]
          repeat (first | still_step | still_call (sror_lit _ _ _ (by decide) (by decide)))
          refine wpStill_nil ?_
          clear v16 v7 r16 r7 p16 p7 q16 q7 t16 t7
          go_wp2
          go_roundw
          case rel =>
            refine ⟨k + 1, by omega, by omega, by go_num, ?_, ?_, (drewN_below hb _).setCell (by simp) _⟩
            · rw [sched_value]
              refine ((hb1.out.drewN _).set_ k _).eq_ ?_
              rw [M.ws, if_neg (by omega), wc_append, List.append_assoc, List.set_append_right _ _ (by rw [wc_length, M.ws_length]; exact Nat.le_refl _), wc_length, M.ws_length, Nat.sub_self]
              obtain ⟨m, hm⟩ : ∃ m, 64 - k = m + 1 := ⟨63 - k, by omega⟩
              rw [hm, List.replicate_succ, show 64 - (k + 1) = m by omega, ← e16.out, ← e15.out, ← e7.out, ← e2.out]
              rfl
            · exact (hb0.out.drewN _).far (by simp) _
          case measure => simp [intOf]; omega
        · obtain rfl : k = 64 := by omega
          obtain ⟨W, hW⟩ : ∃ W, W = M.ws wait 64 := ⟨_, rfl⟩
          have HL : Hid (W.length = 64) := by rw [Hid, hW]; exact M.ws_length wait 64
          have HR : Hid (wr.rangeAt (w.heap.size + 1) 0 (wc W)) := hb1.out.range 0 _ [] (by rw [hW]; simp)
          have HW2 : Hid (W = M.ws wait 64) := hW
          clear hW hb1
          go_wp2_with (first
            | (refine wpList_load_mid rfl 157 (.tmp 3) rfl (w.heap.size + 1) 0 rfl (wc W) _ HR.out Tryd.underlying157 rfl (by rw [wc_length, HL.out]; kernel_rfl) ?_)
            | (refine wpList_store_blk rfl 157 (.tmp 2) (.tmp 62) rfl w.heap.size (wc W).toArray rfl rfl 157 _ hb0.out (by rw [List.size_toArray, wc_length, HL.out]; kernel_rfl) (by rw [List.size_toArray, wc_length, HL.out, List.length_replicate]) (wc_oneCell W) ?_; intro w3 hb3 ho3))
          refine bodyPost_ret (results_cell_row rfl _ _ w.heap.size _ _ _ _ rfl hb3 Tryd.underlying157 rfl (by rw [Array.toArray_toList, List.size_toArray, wc_length, HL.out]; kernel_rfl)) rfl ⟨?_, hb.trans (ho3.below (Nat.le_trans (Nat.le_refl _) hb.size) (Nat.le_refl _))⟩
          rw [HW2.out]

end Go.Proofs.YtdojalhaklkegaaDoor

namespace Go.Proofs.YtdojalhaklkegaaDoor
open Go.RowKit
set_option linter.unusedVariables false

/-- The package's two tables lie as the program's text lays them. -/
structure Laid (w : World) : Prop where
  beg : ∀ i, i < 8 → w.cell? ⟨1, i, none⟩ = some (.int .u32 ((M.H0.l.getD i 0).toNat : Int))
  con : ∀ i, i < 64 → w.cell? ⟨2, i, none⟩ = some (.int .u32 ((M.tK.getD i 0).toNat : Int))
  size : 3 ≤ w.heap.size

theorem Laid.below {B : Nat} {w w' : World} (h : Laid w) (k : Below B w w') (hB : 3 ≤ B) : Laid w' :=
  ⟨fun i hi => by rw [k.cell (Nat.lt_of_lt_of_le (show 1 < 3 by decide) hB)]; exact h.beg i hi, fun i hi => by rw [k.cell (Nat.lt_of_lt_of_le (show 2 < 3 by decide) hB)]; exact h.con i hi, Nat.le_trans h.size k.size⟩

theorem mix_set (p q : List UInt32) (k : Nat) (hp : k < p.length) (hq : k < q.length) : (q.take k ++ p.drop k).set k (q.getD k 0) = q.take (k + 1) ++ p.drop (k + 1) := by
  rw [List.set_append_right _ _ (by rw [List.length_take]; omega), List.length_take, Nat.min_eq_left (by omega), Nat.sub_self, List.drop_eq_getElem_cons hp, List.set_cons_zero, List.take_succ_eq_append_getElem hq, show q.getD k 0 = q[k] by simp [hq], List.append_assoc]
  rfl

theorem Hc_set (l : List UInt32) (wait : List UInt8) (n k : Nat) (x : UInt32) (h : k < l.length) : (Hc l wait n).set k (c32 x) = Hc (l.set k x) wait n := by
  rw [Hc, List.set_append_left _ _ (by rw [wc_length]; exact h), Hc, wc, wc, List.map_set]

theorem add_get (s r : M.St) (k : Nat) (h : k < 8) : s.l.getD k 0 + r.l.getD k 0 = (M.add s r).l.getD k 0 := by
  match k, h with
  | 0, _ => rfl
  | 1, _ => rfl
  | 2, _ => rfl
  | 3, _ => rfl
  | 4, _ => rfl
  | 5, _ => rfl
  | 6, _ => rfl
  | 7, _ => rfl

set_option maxRecDepth 100000 in
set_option maxHeartbeats 1000000 in
theorem work_any (g n : Nat) (s : M.St) (wait : List UInt8) (w : World) (hL : Laid w) (hw : wait.length = 64) (h : Blk w g 156 (Hc s.l wait n)) :
    Calls Tryd.prog 112 #[.pointer (some ⟨g, 0, none⟩)] w fun e w' => e = .returned (.tuple #[]) ∧ Blk w' g 156 (Hc (M.work s wait).l wait n) ∧ Only g w w' := by
  have H : Hid (Blk w g 156 (Hc s.l wait n)) := h
  have HW : Hid (wait.length = 64) := hw
  have HL : Hid (Laid w) := hL
  have hglt := h.lt
  clear h hw hL
  go_enter Tryd.func112, Tryd.ntmps112
  go_wp2_with fail
  refine (schedule_any g n s.l wait w rfl HW.out H.out).mono ?_
  rintro e w1 ⟨rfl, hb1⟩
  obtain ⟨W, hW⟩ : ∃ W, W = M.ws wait 64 := ⟨_, rfl⟩
  rw [← hW]
  have HWS : Hid (W = M.ws wait 64) := hW
  have HWL : Hid (W.length = 64) := by rw [Hid, hW]; exact M.ws_length wait 64
  clear hW
  have hs1 : w.heap.size ≤ w1.heap.size := hb1.size
  have nW := Blk.newAt w1 157 (Array.replicate 64 (.int .u32 0)) w1.heap.size _ rfl rfl
  go_upto_region 1 with (refine wpList_store_blk rfl 157 (.tmp 2) (.tmp 15) rfl w1.heap.size (wc W).toArray rfl rfl 157 _ nW (by rw [List.size_toArray, wc_length, HWL.out]; kernel_rfl) (by rw [List.size_toArray, wc_length, HWL.out]; rfl) (wc_oneCell W) ?_; intro w2 hbW ho2)
  clear nW
  have HBW : Hid (Blk w2 w1.heap.size 157 (wc W)) := hbW.eq_ (by simp)
  have kk : Below w.heap.size w w2 := ((hb1.alloc hs1 _).trans (ho2.below (by simp; omega) hs1))
  have hs2 : w1.heap.size < w2.heap.size := by have := ho2.size; simp at this; omega
  have HG : Hid (Blk w2 g 156 (Hc s.l wait n)) := H.out.below kk hglt
  have HR : Hid (w2.rangeAt g 0 (wc s.l)) := HG.out.range 0 (wc s.l) _ rfl
  clear hbW ho2
  go_wp2_with (first
    | (refine wpList_load_mid rfl 154 (.tmp 18) rfl g 0 rfl (wc s.l) _ HR.out Tryd.underlying154 rfl (by kernel_rfl) ?_)
    | (refine wpList_store_blk rfl 154 (.tmp 3) (.tmp 19) rfl w2.heap.size (wc s.l).toArray rfl rfl 154 (List.replicate 8 (.int .u32 0)) (Blk.newAt _ _ _ _ _ rfl rfl) (by kernel_rfl) rfl (wc_oneCell s.l) ?_; intro w3 hbV ho3))
  have hbV2 : Blk w3 w2.heap.size 154 (wc (M.rounds s W 0).l) := hbV.eq_ (by simp [M.rounds])
  have kv : Below w2.heap.size w2 w3 := ((Below.refl _ _).alloc (Nat.le_refl _) _).trans (ho3.below (by simp) (Nat.le_refl _))
  clear hbV ho3
  go_loopw [20] (fun i wr => ∃ k : Nat, k ≤ 64 ∧ i = .int .i64 k ∧ Hid (Blk wr w2.heap.size 154 (wc (M.rounds s W k).l)) ∧ Below w2.heap.size w2 wr)
    (fun i _ => 64 - (intOf i).toNat)
  case atStart => exact ⟨0, by omega, rfl, hbV2, kv⟩
  case round =>
    clear hbV2 kv
    rename_i wr
    obtain ⟨k, hk, rfl, hbV, kv⟩ := hrel
    by_cases hlt : k < 64
    · obtain ⟨⟨a, b, c, d, e, f, g7, h8⟩, hst⟩ : ∃ st, st = M.rounds s W k := ⟨_, rfl⟩
      have hbv := hbV.out
      rw [← hst] at hbv
      have c0 : wr.cell? ⟨w2.heap.size, 0, none⟩ = some (.int .u32 a.toNat) := hbv.cell 0
      have c1 : wr.cell? ⟨w2.heap.size, 1, none⟩ = some (.int .u32 b.toNat) := hbv.cell 1
      have c2 : wr.cell? ⟨w2.heap.size, 2, none⟩ = some (.int .u32 c.toNat) := hbv.cell 2
      have c3 : wr.cell? ⟨w2.heap.size, 3, none⟩ = some (.int .u32 d.toNat) := hbv.cell 3
      have c4 : wr.cell? ⟨w2.heap.size, 4, none⟩ = some (.int .u32 e.toNat) := hbv.cell 4
      have c5 : wr.cell? ⟨w2.heap.size, 5, none⟩ = some (.int .u32 f.toNat) := hbv.cell 5
      have c6 : wr.cell? ⟨w2.heap.size, 6, none⟩ = some (.int .u32 g7.toNat) := hbv.cell 6
      have c7 : wr.cell? ⟨w2.heap.size, 7, none⟩ = some (.int .u32 h8.toNat) := hbv.cell 7
      obtain ⟨K, hK⟩ : ∃ K, K = M.tK.getD k 0 := ⟨_, rfl⟩
      obtain ⟨x, hx⟩ : ∃ x, x = W.getD k 0 := ⟨_, rfl⟩
      have cK : wr.cell? ⟨2, k, none⟩ = some (.int .u32 K.toNat) := by
        rw [hK]; exact ((HL.out.below kk (HL.out.size)).below kv (Nat.le_trans HL.out.size kk.size)).con k hlt
      have cW : wr.cell? ⟨w1.heap.size, k, none⟩ = some (.int .u32 x.toNat) := by
        rw [(HBW.out.below kv hs2).cell, wc_get W k (by rw [HWL.out]; exact hlt), hx]
      have HST : Hid ((⟨a, b, c, d, e, f, g7, h8⟩ : M.St) = M.rounds s W k) := hst
      have HK : Hid (K = M.tK.getD k 0) := hK
      have HX : Hid (x = W.getD k 0) := hx
      have HBV : Hid (Blk wr w2.heap.size 154 (wc (M.St.l ⟨a, b, c, d, e, f, g7, h8⟩))) := hbv
      clear hst hK hx hbv hbV
      have i1 : (k : Int) < 64 := by omega
      go_wp2
      go_quiet (fail)
      go_wp2
      refine wp_region_still 28 (by kernel_rfl) (by kernel_rfl) ?_
      simp only [List.take_succ_cons, List.take_zero, List.drop_succ_cons, List.drop_zero]
      repeat (first | still_step | still_call (sror_lit _ _ _ (by decide) (by decide)))
      refine wpStill_nil ?_
      go_wp2_with (go_at_call 115; go_must (refine (sror_lit _ _ _ (by decide) (by decide)).mono ?_); rintro e w4 ⟨rfl, rfl⟩)
      simp only [w_wrap, w_xor, w_and, w_not, w_add]
      obtain ⟨t, ht⟩ : ∃ t, t = M.t1 ⟨a, b, c, d, e, f, g7, h8⟩ K x := ⟨_, rfl⟩
      obtain ⟨u, hu⟩ : ∃ u, u = M.t2 ⟨a, b, c, d, e, f, g7, h8⟩ := ⟨_, rfl⟩
      rw [show h8 + (M.ror e 6 ^^^ M.ror e 11 ^^^ M.ror e 25) + ((e &&& f) ^^^ (~~~ e &&& g7)) + K + x = t from ht.symm, show (M.ror a 2 ^^^ M.ror a 13 ^^^ M.ror a 22) + ((a &&& b) ^^^ (a &&& c) ^^^ (b &&& c)) = u from hu.symm]
      have HT : Hid (t = M.t1 ⟨a, b, c, d, e, f, g7, h8⟩ K x) := ht
      have HU : Hid (u = M.t2 ⟨a, b, c, d, e, f, g7, h8⟩) := hu
      clear ht hu
      refine wp_region_still 2 (by kernel_rfl) (by kernel_rfl) ?_
      simp only [List.take_succ_cons, List.take_zero, List.drop_succ_cons, List.drop_zero]
      repeat still_step
      refine wpStill_nil ?_
      refine wpList_copy_blk rfl (.tmp 83) (.tmp 84) 159 159 rfl 58 Tryd.underlying159 (by kernel_rfl) (some ⟨w2.heap.size, 1, none⟩) (some ⟨w2.heap.size, 0, none⟩) 7 7 7 8 rfl rfl
        w2.heap.size 1 _ 154 HBV.out (wc [a, b, c, d, e, f, g7]) rfl (fun _ => ⟨rfl, _, rfl, fun j v hj => ?_⟩) (show 1 + 7 ≤ 8 by decide) (fun v hv => wc_oneCell [a, b, c, d, e, f, g7] v (by simpa using hv)) ?_
      · rw [Addr.add_lit, Nat.zero_add]
        exact (HBV.out.cell j).trans ((List.getElem?_append_left (l₂ := [c32 h8]) (List.getElem?_eq_some_iff.1 hj).1).trans hj)
      intro w5 hb5 ho5
      have hb5' : Blk w5 w2.heap.size 154 (wc [a, a, b, c, d, e, f, g7]) := hb5
      have d0 : w5.cell? ⟨w2.heap.size, 0, none⟩ = some (.int .u32 a.toNat) := hb5'.cell 0
      have d4 : w5.cell? ⟨w2.heap.size, 4, none⟩ = some (.int .u32 d.toNat) := hb5'.cell 4
      have f0 : w5.frozen? ⟨w2.heap.size, 0, none⟩ = false := hb5'.frozen 0
      have f4 : w5.frozen? ⟨w2.heap.size, 4, none⟩ = false := hb5'.frozen 4
      have k5 : Below w2.heap.size w2 w5 := (drewN_below kv _).drew.trans (ho5.below kv.size (Nat.le_refl _))
      have HB5 : Hid (Blk w5 w2.heap.size 154 (wc [a, a, b, c, d, e, f, g7])) := hb5'
      clear hb5 hb5' ho5 c0 c1 c2 c3 c4 c5 c6 c7 cK cW HBV kv
      go_wp2
      go_roundw
      case rel =>
        refine ⟨k + 1, by omega, by go_num, ?_, (k5.setCell (Nat.le_refl _) _).setCell (Nat.le_refl _) _⟩
        rw [w_add, w_add]
        refine ((HB5.out.set_ 0 _).set_ 4 _).eq_ ?_
        rw [M.rounds, ← HST.out, ← HK.out, ← HX.out, M.rnd, ← HT.out, ← HU.out]
        rfl
      case measure => simp [intOf]; omega
    · obtain rfl : k = 64 := by omega
      go_wp2
      rw [show ((64 : Nat) : Int) = 64 from rfl]
      obtain ⟨r, hr⟩ : ∃ r, r = M.rounds s W 64 := ⟨_, rfl⟩
      have HRR : Hid (r = M.rounds s W 64) := hr
      have hbR : Blk wr w2.heap.size 154 (wc r.l) := by rw [hr]; exact hbV.out
      have hwk : w.heap.size ≤ w2.heap.size := kk.size
      have gS : Blk wr g 156 (Hc ((M.add s r).l.take 0 ++ s.l.drop 0) wait n) := HG.out.below kv (Nat.lt_of_lt_of_le hglt hwk)
      have oS : Only g w wr := Only.of_below (kk.trans (kv.mono hwk))
      clear hr hbV kv
      go_loopw [96] (fun i wr => ∃ k : Nat, k ≤ 8 ∧ i = .int .i64 k ∧ Hid (Blk wr g 156 (Hc ((M.add s r).l.take k ++ s.l.drop k) wait n)) ∧ Hid (Blk wr w2.heap.size 154 (wc r.l)) ∧ Only g w wr)
        (fun i _ => 8 - (intOf i).toNat)
      case atStart => exact ⟨0, by omega, rfl, gS, hbR, oS⟩
      case round =>
        clear gS hbR oS
        rename_i wr
        obtain ⟨k, hk, rfl, gS, hbR, oS⟩ := hrel
        by_cases hlt : k < 8
        · obtain ⟨x, hx⟩ : ∃ x, x = s.l.getD k 0 := ⟨_, rfl⟩
          obtain ⟨y, hy⟩ : ∃ y, y = r.l.getD k 0 := ⟨_, rfl⟩
          have cx : wr.cell? ⟨g, k, none⟩ = some (.int .u32 x.toNat) := by
            rw [gS.out.cell, Hc_state _ _ _ _ (by simp [M.l_length]; omega), hx]
            simp [List.getD_eq_getElem?_getD, List.getElem?_append_right, M.l_length, show min k 8 = k by omega]
          have cy : wr.cell? ⟨w2.heap.size, k, none⟩ = some (.int .u32 y.toNat) := by
            rw [hbR.out.cell, wc_get _ _ (by rw [M.l_length]; exact hlt), hy]
          have fx : wr.frozen? ⟨g, k, none⟩ = false := gS.out.frozen k
          have HX : Hid (x = s.l.getD k 0) := hx
          have HY : Hid (y = r.l.getD k 0) := hy
          clear hx hy
          have i1 : (k : Int) < 8 := by omega
          go_wp2
          refine wp_region_still 13 (by kernel_rfl) (by kernel_rfl) ?_
          simp only [List.take_succ_cons, List.take_zero, List.drop_succ_cons, List.drop_zero]
          repeat still_step
          refine wpStill_nil ?_
          go_wp2
          go_roundw
          case rel =>
            refine ⟨k + 1, by omega, by go_num, ?_, ?_, (oS.setCell (p := ⟨g, k, none⟩) (.inl rfl) _).drew⟩
            · rw [w_add]
              refine ((gS.out.set_ k _).drew).eq_ ?_
              rw [show Value.int IntKind.u32 ((x + y).toNat : Int) = c32 (x + y) from rfl, Hc_set _ _ _ _ _ (by simp [M.l_length]; omega), HX.out, HY.out, add_get s r k hlt, mix_set _ _ _ (by rw [M.l_length]; exact hlt) (by rw [M.l_length]; exact hlt)]
            · exact ((hbR.out.far (p := ⟨g, k, none⟩) (fun e => by have e' : w2.heap.size = g := e; omega) _)).drew
          case measure => simp [intOf]; omega
        · obtain rfl : k = 8 := by omega
          go_wp2
          go_end0
          refine ⟨rfl, ?_, oS⟩
          refine gS.out.eq_ ?_
          rw [List.take_of_length_le (by rw [M.l_length]; exact Nat.le_refl _), List.drop_eq_nil_of_le (by rw [M.l_length]; exact Nat.le_refl _), List.append_nil, M.work, HRR.out, HWS.out]

end Go.Proofs.YtdojalhaklkegaaDoor
