/-
  CONTRACTS OF poly.pieces AND OF WHAT IT HANDS BACK: a loop's body is called with what each piece of 16 bytes adds, in order. Conditions: messages of up to 2^46 bytes.
  CONTRACT OF poly.left: what is left by 2^130 - 5, as the plain mathematics has it. Conditions: five limbs.
  CONTRACTS OF math/bits.Add64 AND poly.withS: the first 16 bytes of a sum. Conditions: five limbs; a row of 16 bytes.
  LAWS FOR REGIONS THAT DRAW THEIR ORDER: a whole row stored and loaded as one step; an operation that yields in every world that meets S, taken first. Nothing of the program. Conditions: as each says.
-/
import Derived.Test.YtdojalhaklkegaaDoorPn8
import Derived.Test.YtdojalhaklkegaaDoorPolyB
import Derived.RangeFuncBound
import Derived.RangeFuncLeaves
import Derived.RangeFuncBox
import Derived.Shelf.Abstract
import Derived.Shelf.RegionOpen
import Derived.WalkKit
import Derived.OwnWalkIn
import Derived.TacticsInMore
import Derived.LoopNIn
import Derived.LoopIn
import Derived.Deep.Cut
import Derived.Lib.Hide
import Derived.Deep.RegionHeld3
import Derived.Test.YtdojalhaklkegaaDoorPn5
import Derived.Test.YtdojalhaklkegaaDoorPn1
import Derived.Laws.Externs
import Derived.Test.YtdojalhaklkegaaDoorPn2

set_option maxRecDepth 100000
namespace Go.Proofs.YtdojalhaklkegaaDoor
open Go.RowKit Go.Shelf
set_option linter.unusedVariables false

attribute [local go_sem] Oper.semAt_some

namespace M

/-- Piece c of a message: its bytes and a byte 1 behind them, in 17 bytes. -/
def chk16 (text : List UInt8) (c : Nat) : List UInt8 := (text.drop (16 * c)).take 16

def pcP (text : List UInt8) (c : Nat) : List UInt8 := chk16 text c ++ 1 :: List.replicate (16 - (chk16 text c).length) 0

theorem chk16_length (text : List UInt8) (c : Nat) : (chk16 text c).length = min 16 (text.length - 16 * c) := by simp [chk16]

theorem pcP_length (text : List UInt8) (c : Nat) : (pcP text c).length = 17 := by
  have := chk16_length text c
  simp [pcP]
  omega

end M

theorem ppieces_any (a : Option Addr) (n c : Nat) (w : World) :
    Calls Tryd.prog 78 #[.slice a n c] w fun e w' =>
      e = .returned (.func (.func 107) #[] #[.pointer (some ⟨w.heap.size, 0, none⟩)]) ∧ w' = w.alloc (.cells #[.slice a n c] 24) := by
  have hmf : ∀ (fn : Fn) (first cap : Array Value) (w : World), (Instr.makeFunc fn first cap).run Tryd.prog w = .ok (.func fn first cap) w := fun _ _ _ _ => rfl
  go_enter Tryd.func78, Tryd.ntmps78
  go_wp2
  go_ret
  exact ⟨by simp, rfl⟩

theorem blk_cell_ex {w : World} {g : Nat} {t : TypeId} {cs : List Value} (h : Blk w g t cs) (i : Nat) (hi : i < cs.length) : ∃ u, w.cell? ⟨g, i, none⟩ = some u := ⟨cs[i], by rw [h.cell, List.getElem?_eq_getElem hi]⟩

def lenOf5 : Value → Nat
  | .slice _ x _ => x
  | _ => 0

/-- What is left of a row behind its first bytes. -/
theorem isB_behind {w : World} {ao : Option Addr} {bs : List UInt8} {cap q : Nat} (h : IsB w (.slice ao bs.length cap) bs) (hq : q ≤ bs.length) (hq0 : 0 < bs.length) :
    ∃ a', (∀ w', (Instr.slice 24 (.slice ao bs.length cap) (some (.int .i64 q)) none none).run Tryd.prog w' = .ok (.slice a' (bs.length - q) (cap - q)) w') ∧ IsB w (.slice a' (bs.drop q).length (cap - q)) (bs.drop q) := by
  obtain ⟨ao', cap', e, h1, h2, h3⟩ := h
  injection e with e1 e2 e3
  subst e1 e3
  rcases h3 with h3 | ⟨b, off, rfl, hc⟩
  · rw [h3] at hq0; simp at hq0
  have hl : (bs.drop q).length = bs.length - q := List.length_drop
  have hr : ∀ w', (Instr.slice 24 (.slice (some ⟨b, off, none⟩) bs.length cap) (some (.int .i64 q)) none none).run Tryd.prog w' = .ok (sliced (some ⟨b, off, none⟩) q bs.length cap 1) w' := by
    intro w'
    have hel : Tryd.prog.elem 24 = 5 := by simp [Program.elem, Tryd.underlying24]
    rw [run_slice_l w' 24 (some ⟨b, off, none⟩) bs.length cap (by rw [hel]; exact Tryd.underlying24) .i64 (q : Int) (by omega) (by omega), hel, Tryd.sizeOf5]
    simp
  by_cases hcq : cap = q
  · refine ⟨some ⟨b, off, none⟩, fun w' => ?_, ?_⟩
    · rw [hr w', sliced, if_pos hcq]
    · exact ⟨_, cap - q, rfl, by omega, by omega, .inl (List.eq_nil_of_length_eq_zero (by omega))⟩
  · refine ⟨some ⟨b, off + q, none⟩, fun w' => ?_, ?_⟩
    · rw [hr w', sliced, if_neg hcq]
      simp [Addr.add]
    · refine ⟨_, cap - q, rfl, by omega, by omega, .inr ⟨b, off + q, rfl, fun i hi => ?_⟩⟩
      rw [Nat.add_assoc, hc (q + i) (by omega)]
      simp [List.getD_eq_getElem?_getD, List.getElem?_drop]

set_option maxRecDepth 100000 in
set_option maxHeartbeats 2000000 in
theorem pieces1_in (n l B1 : Nat) (hn : 1 ≤ n) (v : Value) (text : List UInt8) (w0 : World) (hv : IsB w0 v text) (hsm : text.length ≤ 70368744177664) (J Jx : List Nat → World → Prop)
    (hJ : ∀ s W W', J s W → Below W.heap.size W W' → J s W')
    (hY : ∀ pre x W, J pre W → pre.length < (text.length + 15) / 16 → YieldAt Fence.wide (n - 1) Tryd.prog l #[.agg (dc (M.num (M.pcP text x))).toArray] W fun e W' =>
      (e = .returned (.bool true) ∧ J (pre ++ [x]) W' ∧ Below w0.heap.size W W') ∨ (e = .returned (.bool false) ∧ Jx (pre ++ [x]) W'))
    (W : World) (hB : Below w0.heap.size w0 W) (h1 : W.cell? ⟨B1, 0, none⟩ = some v) (h0 : J [] W) :
    CallsIn Fence.wide n Tryd.prog 107 #[.func (.yield l) #[] #[], .pointer (some ⟨B1, 0, none⟩)] W fun e W' => (∃ v, e = .returned v) ∧
      ((∃ ys, ys = List.range ((text.length + 15) / 16) ∧ J ys W') ∨ (∃ pre, (∃ k, k ≤ (text.length + 15) / 16 ∧ pre = List.range k) ∧ Jx pre W')) := by
  have HY := Lib.hid hY
  have HJ := Lib.hid hJ
  have HV : Hid (IsB w0 v (text.drop (16 * 0))) := by rw [Hid]; simpa using hv
  clear hY hJ hv
  refine callsIn_of_wp Tryd.func107 rfl trivial ?_ rfl
  simp only [Tryd.ntmps107, List.size_toArray, List.length_cons, List.length_nil, Nat.reduceAdd, Nat.reduceSub, Array.replicate_succ, Array.replicate_zero, List.push_toArray, List.append_toArray, List.nil_append, List.cons_append]
  refine wpIn_wide.2 ?_
  go_wp2
  go_loopw [3] (fun r wr => ∃ k : Nat, Hid (k ≤ (text.length + 15) / 16) ∧ Hid (IsB w0 r (text.drop (16 * k))) ∧ J (List.range k) wr ∧ Below w0.heap.size w0 wr)
    (fun r _ => lenOf5 r)
  case atStart => exact ⟨0, Nat.zero_le _, HV, h0, hB⟩
  case round =>
    clear h0 h1 hB HV
    obtain ⟨wz, rfl⟩ : ∃ x, x = wr := ⟨_, rfl⟩
    obtain ⟨k, hk, hi, hJ, hb⟩ := hrel
    obtain ⟨D, hD⟩ : ∃ D, Hid (D = text.drop (16 * k)) := ⟨_, rfl⟩
    rw [← hD.out] at hi
    obtain ⟨ao, cap, rfl, hcap, hmax, hat⟩ := hi.out
    obtain ⟨L, hL⟩ : ∃ L, L = D.length := ⟨_, rfl⟩
    have HL := Lib.hid hL
    have hDl : Hid (D.length = text.length - 16 * k) := by rw [Hid, hD.out, List.length_drop]
    by_cases hpos : 0 < L
    · obtain ⟨q, hq⟩ : ∃ q, q = min L 16 := ⟨_, rfl⟩
      have hq1 : 1 ≤ q := by omega
      have hqL : q ≤ L := by omega
      have hq16 : q ≤ 16 := by omega
      have hq17 : q < 17 := by omega
      have HQ := Lib.hid hq
      obtain ⟨a', hsl, hi'⟩ := isB_behind hi.out (by omega : q ≤ D.length) (by omega)
      rcases hat with hat | ⟨b, off, rfl, hc⟩
      · rw [hat] at hL; simp at hL; omega
      obtain ⟨ch, hch⟩ : ∃ ch, Hid (ch = M.chk16 text k) := ⟨_, rfl⟩
      have hchD : ch = D.take 16 := by rw [hch.out, hD.out, M.chk16]
      have HCL : Hid (ch.length = q) := by rw [Hid, hchD, List.length_take]; omega
      have HC : Hid (∀ w', Below w0.heap.size w0 w' → ∀ (j : Nat) (u : Value), (Lib.byteCells ch)[j]? = some u → w'.cell? (Addr.add ⟨b, off, none⟩ j) = some u) := by
        intro w' kw j u hu
        have hj : j < (Lib.byteCells ch).length := (List.getElem?_eq_some_iff.1 hu).1
        rw [byteCells_length] at hj
        have hj2 : j < D.length ∧ j < 16 := by rw [HCL.out] at hj; omega
        have hx := hc j hj2.1
        rw [Addr.add_lit, kw.cell (by exact World.block_lt_of_cell? w0 _ hx), hx, ← hu, byteCells_getElem? _ _ hj, hchD]
        simp [List.getD_eq_getElem?_getD, hj2.2]
      rw [← hL] at hsl hcap ⊢
      have HPC : Hid (M.pcP text k = ch ++ 1 :: List.replicate (16 - q) 0) := by rw [Hid, M.pcP, ← hch.out, HCL.out]
      have HPL : Hid ((M.pcP text k).length = 17) := M.pcP_length text k
      obtain ⟨pcb, hpcb⟩ : ∃ p, Hid (p = M.pcP text k) := ⟨_, rfl⟩
      obtain ⟨num, hnum⟩ : ∃ p, Hid (p = M.num pcb) := ⟨_, rfl⟩
      have hlk : (List.range k).length < (text.length + 15) / 16 := by have := hDl.out; simp; omega
      have hs16 := slice17_to wz.heap.size
      have hnz : ¬ L = 0 := by omega
      have HZ : Hid (Blk (wz.alloc (.cells #[.int .u8 0, .int .u8 0, .int .u8 0, .int .u8 0, .int .u8 0, .int .u8 0, .int .u8 0, .int .u8 0, .int .u8 0, .int .u8 0, .int .u8 0, .int .u8 0, .int .u8 0, .int .u8 0, .int .u8 0, .int .u8 0, .int .u8 0] 148)) wz.heap.size 148 (List.replicate 17 (.int .u8 0))) := Blk.newAt _ _ _ _ _ rfl rfl
      have HSP : Hid ((splice (List.replicate 17 (Value.int .u8 0)) 0 (Lib.byteCells ch)).set q (.int .u8 1) = Lib.byteCells pcb) := by
        have e1 : (Lib.byteCells ch).length = q := by rw [byteCells_length, HCL.out]
        have e2 : List.drop (0 + q) (List.replicate 17 (Value.int IntKind.u8 0)) = .int .u8 0 :: List.replicate (16 - q) (.int .u8 0) := by
          rw [Nat.zero_add, List.drop_replicate, show 17 - q = (16 - q) + 1 by omega, List.replicate_succ]
        rw [Hid, hpcb.out, HPC.out, splice, e1, e2, List.take_zero, List.nil_append, List.set_append_right _ _ (by omega), e1, Nat.sub_self, List.set_cons_zero]
        simp [Lib.byteCells]
      have HSL : Hid (q < (splice (List.replicate 17 (Value.int .u8 0)) 0 (Lib.byteCells ch)).length) := by rw [Hid]; simp [splice, byteCells_length, HCL.out]; omega
      have HDR : Hid (D.drop q = text.drop (16 * (k + 1))) := by
        rw [Hid]
        by_cases h16 : 16 ≤ L
        · rw [show q = 16 by omega, hD.out, List.drop_drop, show 16 * k + 16 = 16 * (k + 1) by omega]
        · have := hDl.out
          rw [List.drop_eq_nil_of_le (by omega), List.drop_eq_nil_of_le (by omega)]
      clear hq hL hchD hch hc hD
      go_upto_region 5 with (refine wpList_copy_blk rfl (.tmp 10) (.tmp 11) 24 24 rfl 5 Tryd.underlying24 (by kernel_rfl) (some ⟨wz.heap.size, 0, none⟩) (some ⟨b, off, none⟩) 16 17 L cap rfl rfl wz.heap.size 0 _ 148 HZ.out (Lib.byteCells ch) (by rw [byteCells_length, HCL.out]; exact HQ.out) (fun _ => ⟨rfl, _, rfl, HC.out _ (hb.alloc hb.size _)⟩) (by rw [byteCells_length, HCL.out]; simp; omega) (byteCells_oneCell _) ?_; rw [byteCells_length, HCL.out]; intro w2 hb2 ho2; have hf2 : w2.frozen? ⟨wz.heap.size, q, none⟩ = false := hb2.frozen q; obtain ⟨u2, hu2⟩ := blk_cell_ex hb2 q HSL.out)
      have HB3 : Hid (Blk (w2.setCell ⟨wz.heap.size, q, none⟩ (.int .u8 1)) wz.heap.size 148 (Lib.byteCells pcb)) := (hb2.set_ q _).eq_ HSP.out
      have k3 : Below wz.heap.size wz (w2.setCell ⟨wz.heap.size, q, none⟩ (.int .u8 1)) := below_set (((Below.refl _ _).alloc (Nat.le_refl _) _).trans (ho2.below (by simp) (Nat.le_refl _))) (Nat.le_refl _) _
      have HR3 : Hid ((w2.setCell ⟨wz.heap.size, q, none⟩ (.int .u8 1)).rangeAt wz.heap.size 0 (Lib.byteCells pcb)) := HB3.out.range 0 _ [] (by simp)
      have HPB : Hid (pcb.length = 17) := by rw [Hid, hpcb.out]; exact HPL.out
      have HNO : Hid (∀ W, Calls Tryd.prog 106 #[.agg (Lib.byteCells pcb).toArray] W fun e w' => e = .returned (.agg (dc num).toArray) ∧ Below W.heap.size W w') := fun W => by
        rw [hnum.out]
        exact numberOf_any pcb W HPB.out
      clear hb2 ho2 hf2 hu2 HZ HSP HC HB3
      refine (wpIn_wide (n := n)).1 ?_
      refine wpIn_region_lit (wpListInW_split (fun hlo => by obtain ⟨_, _, ⟨_, hlo⟩, _⟩ := hlo; cases hlo) 3 ?_)
      simp only [List.take_succ_cons, List.take_zero, List.drop_succ_cons, List.drop_zero]
      go_wp2_with (refine wpList_load_mid rfl 148 (.tmp 4) rfl wz.heap.size 0 rfl (Lib.byteCells pcb) _ HR3.out Tryd.underlying148 rfl (by rw [byteCells_length, HPB.out]; kernel_rfl) ?_)
      refine (HNO.out _).mono ?_
      rintro e w4 ⟨rfl, k4⟩
      have k5 : Below wz.heap.size wz w4 := k3.trans (k4.mono k3.size)
      have b5 : Below w0.heap.size w0 w4 := hb.trans (k5.mono hb.size)
      have J4 : J (List.range k) w4 := HJ.out _ _ _ hJ k5
      obtain ⟨fn, tmps, assign, body, hy, hR⟩ := HY.out (List.range k) k w4 J4 hlk
      rw [← hpcb.out, ← hnum.out] at hy
      clear HNO HR3 k3 k4 hJ
      go_wp2
      gi_wp2
      refine hR.mono ?_
      rintro e w6 (⟨rfl, hJ6, hk6⟩ | ⟨rfl, hJx6⟩)
      · have b6 : Below w0.heap.size w0 w6 := b5.trans hk6
        clear hR hy
        gi_wp2
        go_wp2
        refine ⟨⟨k + 1, ?_, ?_, by rw [List.range_succ]; exact hJ6, b6⟩, by simp only [lenOf5]; omega⟩
        · rw [Hid]; have := hDl.out; have := HL.out; omega
        · rw [Hid, ← HDR.out]
          have e : (D.drop q).length = L - q := by rw [List.length_drop, HL.out]
          rw [e] at hi'
          exact hi'
      · gi_wp2
        go_wp2
        refine bodyPost_ret (results_none rfl _ _ _) rfl ⟨⟨_, rfl⟩, .inr ⟨_, ⟨k + 1, ?_, rfl⟩, by rw [List.range_succ]; exact hJx6⟩⟩
        have := hDl.out
        have := HL.out
        omega
    · go_wp2
      go_end0
      refine ⟨⟨_, rfl⟩, .inl ⟨_, rfl, ?_⟩⟩
      rw [show (text.length + 15) / 16 = k by have := hDl.out; have := hk.out; omega]
      exact hJ

/-- What pieces hands back calls a loop's body for each piece. -/
theorem pieces_stops (n B1 : Nat) (hn : 1 ≤ n) (v : Value) (text : List UInt8) (w0 w : World) (hv : IsB w0 v text) (hsm : text.length ≤ 70368744177664) (hb : Below w0.heap.size w0 w) (hB1 : B1 < w.heap.size) (h1 : w.cell? ⟨B1, 0, none⟩ = some v) :
    SeqStopsK Fence.wide n Tryd.prog 107 #[.pointer (some ⟨B1, 0, none⟩)] (fun c : Nat => #[.agg (dc (M.num (M.pcP text c))).toArray]) (Below w0.heap.size)
      (fun ys => ys = List.range ((text.length + 15) / 16)) (fun pre => ∃ k, k ≤ (text.length + 15) / 16 ∧ pre = List.range k) ((text.length + 15) / 16) w := by
  intro l J Jx W hW hJ hJx hY h0
  have c1 : W.cell? ⟨B1, 0, none⟩ = some v := (hW.cell (p := ⟨B1, 0, none⟩) hB1).trans h1
  exact pieces1_in n l B1 hn v text w0 hv hsm J Jx (fun s X Y hs k => hJ s X Y none hs ⟨k.os, k.tape, k.output, k.size, fun i hi _ => k.block i hi⟩ (fun r e => by cases e)) hY W (hb.trans (hW.mono hb.size)) c1 h0

end Go.Proofs.YtdojalhaklkegaaDoor

set_option maxRecDepth 100000
namespace Go.Proofs.YtdojalhaklkegaaDoor
open Go.RowKit
set_option linter.unusedVariables false

set_option maxHeartbeats 2000000 in
theorem pleft_any (n : List UInt64) (w : World) (hn : n.length = 5) :
    Calls Tryd.prog 82 #[.agg (dc n).toArray] w fun e w' => e = .returned (.agg (dc (M.left n)).toArray) ∧ Below w.heap.size w w' := by
  have HN := Lib.hid hn
  obtain ⟨c, hc⟩ : ∃ c, Hid (c = M.carried n) := ⟨_, rfl⟩
  have HCL : Hid (c.length = 5) := by rw [Hid, hc.out, M.carried_length, HN.out]
  obtain ⟨o1, ho1⟩ : ∃ o, o = Obj.cells (dc n).toArray 122 := ⟨_, rfl⟩
  have A0 : ∀ o, Hid (Blk ((w.alloc o1).alloc o) w.heap.size 122 (dc n)) := fun o => by
    rw [ho1]; exact (Blk.newAt w _ (dc n).toArray w.heap.size (dc n) rfl (by simp)).alloc _
  have A1 : Hid (Blk ((w.alloc o1).alloc (.cells #[.int .u64 0, .int .u64 0, .int .u64 0, .int .u64 0, .int .u64 0] 122)) (w.heap.size + 1) 122 (dc (List.replicate 5 0))) := blk_zeroL _ _ (by simp)
  have k0 : ∀ o, Below w.heap.size w ((w.alloc o1).alloc o) := fun o => ((Below.refl _ _).alloc (Nat.le_refl _) o1).alloc (by simp) o
  have HS2 : ∀ o, ((w.alloc o1).alloc o).heap.size = w.heap.size + 1 + 1 := fun o => by simp
  have R0 : Hid (∀ o, ((w.alloc o1).alloc o).rangeAt w.heap.size 0 (dc n)) := fun o => (A0 o).out.range 0 (dc n) [] (by simp)
  have HC : Hid (∀ w0, Calls Tryd.prog 108 #[.agg (dc n).toArray] w0 fun e w' => e = .returned (.agg (dc c).toArray) ∧ Below w0.heap.size w0 w') := fun w0 => by
    rw [hc.out]
    exact carried_any n w0 HN.out
  subst ho1
  clear hn
  go_enter Tryd.func82, Tryd.ntmps82
  go_wp2_with (refine wpList_load_mid rfl 122 (.tmp 1) rfl w.heap.size 0 rfl (dc n) _ (R0.out _) Tryd.underlying122 rfl (by rw [dc_length, HN.out]; kernel_rfl) ?_)
  refine (HC.out _).mono ?_
  rintro e w5 ⟨rfl, k5⟩
  have b5 : Blk w5 w.heap.size 122 (dc n) := (A0 _).out.below k5 (A0 _).out.lt
  have b5' : Blk w5 (w.heap.size + 1) 122 (dc (List.replicate 5 0)) := A1.out.below k5 A1.out.lt
  have kk5 : Below w.heap.size w w5 := (k0 _).trans (k5.mono (k0 _).size)
  clear k5 A0 A1 k0 R0 HS2
  go_wp2_with (first
    | (refine wpList_store_blk rfl 122 (.tmp 1) (.tmp 9) rfl w.heap.size (dc c).toArray rfl rfl 122 (dc n) ?b1 ?b2 ?b3 ?b4 ?_; go_must (exact b5); go_must (rw [List.size_toArray, dc_length, HCL.out]; kernel_rfl); go_must (rw [List.size_toArray, dc_length, dc_length, HCL.out, HN.out]); go_must (exact dc_oneCell c); intro w3 hb3 ho3)
    | (refine wpList_load_mid rfl 122 (.tmp 1) rfl w.heap.size 0 rfl (dc c) _ ((hb3.alloc _).range 0 (dc c) [] (by simp)) Tryd.underlying122 rfl (by rw [dc_length, HCL.out]; kernel_rfl) ?_))
  have hl3 : w.heap.size + 1 < w3.heap.size := Nat.lt_of_lt_of_le b5'.lt ho3.size
  have D0 : Hid (Blk (w3.alloc (.cells #[.int .u64 0, .int .u64 0, .int .u64 0, .int .u64 0, .int .u64 0] 122)) w.heap.size 122 (dc c)) := hb3.alloc _
  have D1 : Hid (Blk (w3.alloc (.cells #[.int .u64 0, .int .u64 0, .int .u64 0, .int .u64 0, .int .u64 0] 122)) (w.heap.size + 1) 122 (dc (List.replicate 5 0))) := (b5'.grown ho3 (by intro e; injection e with e; omega)).alloc _
  have k3 : Below w.heap.size w (w3.alloc (.cells #[.int .u64 0, .int .u64 0, .int .u64 0, .int .u64 0, .int .u64 0] 122)) := (kk5.trans (ho3.below kk5.size (Nat.le_refl _))).alloc (by omega) _
  have D2 : Hid (Blk (w3.alloc (.cells #[.int .u64 0, .int .u64 0, .int .u64 0, .int .u64 0, .int .u64 0] 122)) w3.heap.size 122 (dc (M.cs c (List.replicate 5 0) 5 0).1)) := blk_zeroL _ _ rfl
  obtain ⟨g3, hg3⟩ : ∃ g, g = w3.heap.size := ⟨_, rfl⟩
  rw [← hg3] at D2 hl3 ⊢
  clear hb3 ho3 b5 b5' kk5
  go_loopw [3, 11] (fun o i wr => ∃ k : Nat, k ≤ 5 ∧ i = .int .i64 k ∧ o = .int .u64 ((M.cs c (List.replicate 5 0) 5 k).2.toNat : Int) ∧ Hid (Blk wr w.heap.size 122 (dc c)) ∧ Hid (Blk wr (w.heap.size + 1) 122 (dc (List.replicate 5 0))) ∧ Hid (Blk wr g3 122 (dc (M.cs c (List.replicate 5 0) 5 k).1)) ∧ Below w.heap.size w wr)
    (fun _ i _ => 5 - (intOf i).toNat)
  case atStart => exact ⟨0, by omega, rfl, rfl, D0, D1, D2, k3⟩
  case round =>
    clear D0 D1 D2 k3 hg3
    obtain ⟨wA, rfl⟩ : ∃ x, x = wr := ⟨_, rfl⟩
    obtain ⟨k, hk, rfl, rfl, b0, b1, b2, kk⟩ := hrel
    by_cases hlt : k < 5
    · obtain ⟨x, hx⟩ : ∃ x, Hid (x = c.getD k 0) := ⟨_, rfl⟩
      obtain ⟨o, ho⟩ : ∃ x, Hid (x = (M.cs c (List.replicate 5 0) 5 k).2) := ⟨_, rfl⟩
      rw [← ho.out]
      have hrun := run_index_limbs wA c k hlt x (by rw [dc_get _ _ (by rw [HCL.out]; exact hlt), hx.out])
      obtain ⟨u, hcu⟩ : ∃ u, wA.cell? ⟨g3, k, none⟩ = some u := ⟨_, by rw [b2.out.cell, dc_get _ _ (by rw [M.cs_length, List.length_replicate]; exact hlt)]⟩
      have hf : wA.frozen? ⟨g3, k, none⟩ = false := b2.out.frozen k
      obtain ⟨y, hy⟩ : ∃ y, Hid (y = x + o) := ⟨_, rfl⟩
      obtain ⟨m, hm⟩ : ∃ m, Hid (m = y &&& 67108863) := ⟨_, rfl⟩
      obtain ⟨q, hq⟩ : ∃ q, Hid (q = y >>> 26) := ⟨_, rfl⟩
      have s1 : IntKind.u64.wrap ((x.toNat : Int) + (o.toNat : Int)) = (y.toNat : Int) := by rw [hy.out]; exact d_wrap x o
      have s2 : ((x.toNat : Int) + (o.toNat : Int)) % 18446744073709551616 = (y.toNat : Int) := by rw [hy.out]; exact d_wrap x o
      have s3 : bits BinOp.and .u64 (y.toNat : Int) 67108863 = (m.toNat : Int) := by rw [hm.out]; exact d_mask y
      have s4 : (y.toNat : Int) / 67108864 = (q.toNat : Int) := by rw [hq.out]; exact d_shr y
      have HNX : Hid (M.cs c (List.replicate 5 0) 5 (k + 1) = ((M.cs c (List.replicate 5 0) 5 k).1.set k m, q)) := by rw [Hid, M.cs, hm.out, hq.out, hy.out, hx.out, ho.out]
      go_wp2
      go_roundw
      case rel =>
        refine ⟨k + 1, by omega, by go_num, by rw [HNX.out], blk_far b0.out (by omega) _, blk_far b1.out (by omega) _, ?_, below_set kk (by omega) _⟩
        rw [Hid, HNX.out, ← dc_set]
        exact b2.out.set_ k _
      case measure => simp [intOf]; omega
    · obtain rfl : k = 5 := by omega
      obtain ⟨l, hl⟩ : ∃ l, Hid (l = (M.cs c (List.replicate 5 0) 5 5).1) := ⟨_, rfl⟩
      obtain ⟨o, ho⟩ : ∃ x, Hid (x = (M.cs c (List.replicate 5 0) 5 5).2) := ⟨_, rfl⟩
      have HLL : Hid (l.length = 5) := by rw [Hid, hl.out, M.cs_length, List.length_replicate]
      rw [← ho.out]
      rw [← hl.out] at b2
      have B0 : Hid (Blk wA w.heap.size 122 (dc (M.sel c l o 0))) := b0.out
      clear b0
      go_wp2
      rw [show ((5 : Nat) : Int) = 5 from rfl]
      go_loopw [25] (fun i wr => ∃ k : Nat, k ≤ 5 ∧ i = .int .i64 k ∧ Hid (Blk wr w.heap.size 122 (dc (M.sel c l o k))) ∧ Hid (Blk wr (w.heap.size + 1) 122 (dc (List.replicate 5 0))) ∧ Hid (Blk wr g3 122 (dc l)) ∧ Below w.heap.size w wr)
        (fun i _ => 5 - (intOf i).toNat)
      case atStart => exact ⟨0, by omega, rfl, B0, b1, b2, kk⟩
      case round =>
        clear B0 b1 b2 kk
        obtain ⟨wz, rfl⟩ : ∃ x, x = wr := ⟨_, rfl⟩
        obtain ⟨k, hk, rfl, b0, b1, b2, kk⟩ := hrel
        by_cases hlt2 : k < 5
        · obtain ⟨x, hx⟩ : ∃ x, Hid (x = (M.sel c l o k).getD k 0) := ⟨_, rfl⟩
          obtain ⟨y, hy⟩ : ∃ x, Hid (x = l.getD k 0) := ⟨_, rfl⟩
          have hcx : wz.cell? ⟨w.heap.size, k, none⟩ = some (.int .u64 (x.toNat : Int)) := by rw [b0.out.cell, dc_get _ _ (by rw [M.sel_length, HCL.out]; exact hlt2), hx.out]
          have hcy : wz.cell? ⟨g3, k, none⟩ = some (.int .u64 (y.toNat : Int)) := by rw [b2.out.cell, dc_get _ _ (by rw [HLL.out]; exact hlt2), hy.out]
          have hfx : wz.frozen? ⟨w.heap.size, k, none⟩ = false := b0.out.frozen k
          obtain ⟨a1, ha1⟩ : ∃ q, Hid (q = x ^^^ y) := ⟨_, rfl⟩
          obtain ⟨a2, ha2⟩ : ∃ q, Hid (q = 0 - o) := ⟨_, rfl⟩
          obtain ⟨a3, ha3⟩ : ∃ q, Hid (q = a1 &&& a2) := ⟨_, rfl⟩
          obtain ⟨m, hm⟩ : ∃ m, Hid (m = x ^^^ a3) := ⟨_, rfl⟩
          have s1 : bits BinOp.xor .u64 (x.toNat : Int) (y.toNat : Int) = (a1.toNat : Int) := by rw [ha1.out]; exact d_xor x y
          have s2 : IntKind.u64.wrap (-(o.toNat : Int)) = (a2.toNat : Int) := by rw [ha2.out]; exact d_negw o
          have s2' : (-(o.toNat : Int)) % 18446744073709551616 = (a2.toNat : Int) := by rw [ha2.out]; exact d_negw o
          have s3 : bits BinOp.and .u64 (a1.toNat : Int) (a2.toNat : Int) = (a3.toNat : Int) := by rw [ha3.out]; exact d_and a1 a2
          have s4 : bits BinOp.xor .u64 (x.toNat : Int) (a3.toNat : Int) = (m.toNat : Int) := by rw [hm.out]; exact d_xor x a3
          have HNX : Hid (M.sel c l o (k + 1) = (M.sel c l o k).set k m) := by
            rw [Hid, M.sel, ← hx.out, ← hy.out, ← ha1.out, ← ha2.out, ← ha3.out, ← hm.out]
          go_wp2
          refine wp_region_still 15 (by kernel_rfl) (by kernel_rfl) ?_
          simp only [List.take_succ_cons, List.take_zero, List.drop_succ_cons, List.drop_zero]
          repeat still_step
          refine wpStill_nil ?_
          go_wp2
          go_roundw
          case rel =>
            refine ⟨k + 1, by omega, by go_num, ?_, (blk_far b1.out (by omega) _).drew, (blk_far b2.out (by omega) _).drew, drewN_below (below_set kk (by omega) _) 1⟩
            rw [Hid, HNX.out, ← dc_set]
            exact (b0.out.set_ k _).drew
          case measure => simp [intOf]; omega
        · obtain rfl : k = 5 := by omega
          obtain ⟨r, hr⟩ : ∃ r, Hid (r = M.left n) := ⟨_, rfl⟩
          have HRL : Hid (r.length = 5) := by rw [Hid, hr.out, M.left_length, HN.out]
          have N0 : Hid (Blk wz w.heap.size 122 (dc r)) := by rw [hr.out, M.left, ← hc.out, ← hl.out, ← ho.out]; exact b0
          have NR : Hid (wz.rangeAt w.heap.size 0 (dc r)) := N0.out.range 0 (dc r) [] (by simp)
          clear N0 b0
          go_wp2_with (first
            | (refine wpList_load_mid rfl 122 (.tmp 1) rfl w.heap.size 0 rfl (dc r) _ NR.out Tryd.underlying122 rfl (by rw [dc_length, HRL.out]; kernel_rfl) ?_)
            | (refine wpList_store_blk rfl 122 (.tmp 2) (.tmp 44) rfl (w.heap.size + 1) (dc r).toArray rfl rfl 122 (dc (List.replicate 5 0)) b1.out (by rw [List.size_toArray, dc_length, HRL.out]; kernel_rfl) (by rw [List.size_toArray, dc_length, dc_length, HRL.out]; rfl) (dc_oneCell r) ?_; intro w3 hb3 ho3))
          have k3 : Below w.heap.size w w3 := kk.trans (ho3.below kk.size (by omega))
          exact bodyPost_ret (results_cell_row rfl _ _ (w.heap.size + 1) _ _ _ _ rfl hb3 Tryd.underlying122 rfl (by rw [Array.toArray_toList, List.size_toArray, dc_length, HRL.out]; kernel_rfl)) rfl ⟨by rw [Array.toArray_toList, ← hr.out], k3⟩

end Go.Proofs.YtdojalhaklkegaaDoor

namespace Go.Proofs.YtdojalhaklkegaaDoor
open Go.RowKit
set_option linter.unusedVariables false

namespace M

def low (n : List UInt64) : UInt64 := n.getD 0 0 ||| (n.getD 1 0 <<< 26) ||| (n.getD 2 0 <<< 52)
def high (n : List UInt64) : UInt64 := (n.getD 2 0 >>> 12) ||| (n.getD 3 0 <<< 14) ||| (n.getD 4 0 <<< 40)
def sumA (n : List UInt64) (s : List UInt8) : Nat := (low n).toNat + gl s 8
def sumB (n : List UInt64) (s : List UInt8) : Nat := (high n).toNat + gl (s.drop 8) 8 + sumA n s / 18446744073709551616
def withS (n : List UInt64) (s : List UInt8) : List UInt8 := le (sumA n s % 18446744073709551616) 8 ++ le (sumB n s % 18446744073709551616) 8

end M

theorem d_shl26 (x : UInt64) : (x.toNat : Int) * 67108864 % 18446744073709551616 = ((x <<< 26).toNat : Int) := by
  rw [UInt64.toNat_shiftLeft, show ((26 : UInt64).toNat % 64) = 26 from rfl, Nat.shiftLeft_eq]
  omega

theorem d_shl52 (x : UInt64) : (x.toNat : Int) * 4503599627370496 % 18446744073709551616 = ((x <<< 52).toNat : Int) := by
  rw [UInt64.toNat_shiftLeft, show ((52 : UInt64).toNat % 64) = 52 from rfl, Nat.shiftLeft_eq]
  omega

theorem d_shl14 (x : UInt64) : (x.toNat : Int) * 16384 % 18446744073709551616 = ((x <<< 14).toNat : Int) := by
  rw [UInt64.toNat_shiftLeft, show ((14 : UInt64).toNat % 64) = 14 from rfl, Nat.shiftLeft_eq]
  omega

theorem d_shl40 (x : UInt64) : (x.toNat : Int) * 1099511627776 % 18446744073709551616 = ((x <<< 40).toNat : Int) := by
  rw [UInt64.toNat_shiftLeft, show ((40 : UInt64).toNat % 64) = 40 from rfl, Nat.shiftLeft_eq]
  omega

theorem d_shr12 (x : UInt64) : (x.toNat : Int) / 4096 = ((x >>> 12).toNat : Int) := by
  rw [M.u_shr x 12 (by decide), show (12 : UInt64).toNat = 12 from rfl]
  omega

theorem withS_any (n : List UInt64) (sv : Value) (s : List UInt8) (w : World) (hn : n.length = 5) (hs : IsB w sv s) (hsl : s.length = 16) :
    Calls Tryd.prog 81 #[.agg (dc n).toArray, sv] w (Makes w (M.withS n s)) := by
  have HN := Lib.hid hn
  have HS := Lib.hid hs
  obtain ⟨n0, hn0⟩ : ∃ x, Hid (x = n.getD 0 0) := ⟨_, rfl⟩
  obtain ⟨n1, hn1⟩ : ∃ x, Hid (x = n.getD 1 0) := ⟨_, rfl⟩
  obtain ⟨n2, hn2⟩ : ∃ x, Hid (x = n.getD 2 0) := ⟨_, rfl⟩
  obtain ⟨n3, hn3⟩ : ∃ x, Hid (x = n.getD 3 0) := ⟨_, rfl⟩
  obtain ⟨n4, hn4⟩ : ∃ x, Hid (x = n.getD 4 0) := ⟨_, rfl⟩
  obtain ⟨w1, hw1⟩ : ∃ x, x = w.alloc (.cells (dc n).toArray 122) := ⟨_, rfl⟩
  have A0 : Blk w1 w.heap.size 122 (dc n) := by rw [hw1]; exact Blk.newAt _ _ _ _ _ rfl (by simp)
  have k1 : Below w.heap.size w w1 := by rw [hw1]; exact (Below.refl _ _).alloc (Nat.le_refl _) _
  have c0 : w1.cell? ⟨w.heap.size, 0, none⟩ = some (.int .u64 (n0.toNat : Int)) := by rw [A0.cell, dc_get _ _ (by rw [hn]; decide), hn0.out]
  have c1 : w1.cell? ⟨w.heap.size, 1, none⟩ = some (.int .u64 (n1.toNat : Int)) := by rw [A0.cell, dc_get _ _ (by rw [hn]; decide), hn1.out]
  have c2 : w1.cell? ⟨w.heap.size, 2, none⟩ = some (.int .u64 (n2.toNat : Int)) := by rw [A0.cell, dc_get _ _ (by rw [hn]; decide), hn2.out]
  have c3 : w1.cell? ⟨w.heap.size, 3, none⟩ = some (.int .u64 (n3.toNat : Int)) := by rw [A0.cell, dc_get _ _ (by rw [hn]; decide), hn3.out]
  have c4 : w1.cell? ⟨w.heap.size, 4, none⟩ = some (.int .u64 (n4.toNat : Int)) := by rw [A0.cell, dc_get _ _ (by rw [hn]; decide), hn4.out]
  obtain ⟨ao, cap, rfl, h1, h2, hat⟩ := hs
  rw [hsl] at h1 HS ⊢
  unfold maxLen at h2
  have HS1 : Hid (IsB w1 (.slice ao 16 cap) s) := HS.out.below k1
  obtain ⟨b, o, rfl, hcs⟩ : ∃ b off, ao = some ⟨b, off, none⟩ ∧ ∀ i, i < s.length → w.cell? ⟨b, off + i, none⟩ = some (.int .u8 ((s.getD i 0).toNat : Int)) := by
    rcases hat with h | h
    · rw [h] at hsl; simp at hsl
    · exact h
  have HS2 : Hid (IsB w1 (.slice (some ⟨b, o + 8, none⟩) 8 (cap - 8)) (s.drop 8)) := by
    have hl : (s.drop 8).length = 8 := by rw [List.length_drop, hsl]
    refine ⟨_, cap - 8, by rw [hl], by rw [hl]; omega, by unfold maxLen; omega, .inr ⟨b, o + 8, rfl, fun i hi => ?_⟩⟩
    rw [hl] at hi
    have hx := hcs (8 + i) (by omega)
    rw [Nat.add_assoc, k1.cell (by exact World.block_lt_of_cell? w _ hx), hx]
    simp [List.getD_eq_getElem?_getD, List.getElem?_drop]
  have hne : ¬ cap = 8 := by omega
  have hne2 : ¬ cap - 8 = 0 := by omega
  have HW1 := Lib.hid hw1
  clear hn hsl A0 hw1 hcs
  go_enter Tryd.func81, Tryd.ntmps81
  go_wp2
  rw [← HW1.out]
  obtain ⟨a1, ha1⟩ : ∃ x, Hid (x = n1 <<< 26) := ⟨_, rfl⟩
  obtain ⟨a2, ha2⟩ : ∃ x, Hid (x = n0 ||| a1) := ⟨_, rfl⟩
  obtain ⟨a3, ha3⟩ : ∃ x, Hid (x = n2 <<< 52) := ⟨_, rfl⟩
  obtain ⟨lo, hlo⟩ : ∃ x, Hid (x = a2 ||| a3) := ⟨_, rfl⟩
  have s1 : (n1.toNat : Int) * 67108864 % 18446744073709551616 = (a1.toNat : Int) := by rw [ha1.out]; exact d_shl26 n1
  have s1' : IntKind.u64.wrap ((n1.toNat : Int) * 67108864) = (a1.toNat : Int) := s1
  have s2 : bits BinOp.or .u64 (n0.toNat : Int) (a1.toNat : Int) = (a2.toNat : Int) := by rw [ha2.out]; exact d_or n0 a1
  have s3 : (n2.toNat : Int) * 4503599627370496 % 18446744073709551616 = (a3.toNat : Int) := by rw [ha3.out]; exact d_shl52 n2
  have s3' : IntKind.u64.wrap ((n2.toNat : Int) * 4503599627370496) = (a3.toNat : Int) := s3
  have s4 : bits BinOp.or .u64 (a2.toNat : Int) (a3.toNat : Int) = (lo.toNat : Int) := by rw [hlo.out]; exact d_or a2 a3
  obtain ⟨b1, hb1⟩ : ∃ x, Hid (x = n2 >>> 12) := ⟨_, rfl⟩
  obtain ⟨b2, hb2⟩ : ∃ x, Hid (x = n3 <<< 14) := ⟨_, rfl⟩
  obtain ⟨b3, hb3⟩ : ∃ x, Hid (x = b1 ||| b2) := ⟨_, rfl⟩
  obtain ⟨b4, hb4⟩ : ∃ x, Hid (x = n4 <<< 40) := ⟨_, rfl⟩
  obtain ⟨hi, hhi⟩ : ∃ x, Hid (x = b3 ||| b4) := ⟨_, rfl⟩
  have t1 : (n2.toNat : Int) / 4096 = (b1.toNat : Int) := by rw [hb1.out]; exact d_shr12 n2
  have t2 : (n3.toNat : Int) * 16384 % 18446744073709551616 = (b2.toNat : Int) := by rw [hb2.out]; exact d_shl14 n3
  have t2' : IntKind.u64.wrap ((n3.toNat : Int) * 16384) = (b2.toNat : Int) := t2
  have t3 : bits BinOp.or .u64 (b1.toNat : Int) (b2.toNat : Int) = (b3.toNat : Int) := by rw [hb3.out]; exact d_or b1 b2
  have t4 : (n4.toNat : Int) * 1099511627776 % 18446744073709551616 = (b4.toNat : Int) := by rw [hb4.out]; exact d_shl40 n4
  have t4' : IntKind.u64.wrap ((n4.toNat : Int) * 1099511627776) = (b4.toNat : Int) := t4
  have t5 : bits BinOp.or .u64 (b3.toNat : Int) (b4.toNat : Int) = (hi.toNat : Int) := by rw [hhi.out]; exact d_or b3 b4
  obtain ⟨S0, hS0⟩ : ∃ G, Hid (G = M.gl s 8) := ⟨_, rfl⟩
  obtain ⟨S1, hS1⟩ : ∃ G, Hid (G = M.gl (s.drop 8) 8) := ⟨_, rfl⟩
  have hS0b : S0 < 18446744073709551616 := by rw [hS0.out]; exact Nat.lt_of_lt_of_eq (M.gl_lt _ 8) (by decide)
  have hS1b : S1 < 18446744073709551616 := by rw [hS1.out]; exact Nat.lt_of_lt_of_eq (M.gl_lt _ 8) (by decide)
  obtain ⟨x1, hx1⟩ : ∃ G, G = (lo.toNat + S0 + 0) % 18446744073709551616 := ⟨_, rfl⟩
  obtain ⟨y1, hy1⟩ : ∃ G, G = (lo.toNat + S0 + 0) / 18446744073709551616 := ⟨_, rfl⟩
  have hlob := d_lt lo
  have hhib := d_lt hi
  have hy1b : y1 ≤ 1 := by omega
  obtain ⟨x2, hx2⟩ : ∃ G, G = (hi.toNat + S1 + y1) % 18446744073709551616 := ⟨_, rfl⟩
  obtain ⟨y2, hy2⟩ : ∃ G, G = (hi.toNat + S1 + y1) / 18446744073709551616 := ⟨_, rfl⟩
  have hadd1 : ∀ w, (callFunc 109 #[.int .u64 (lo.toNat : Int), .int .u64 (S0 : Int), .int .u64 0]).run Tryd.prog w = .ok (.value (.tuple #[.int .u64 (x1 : Int), .int .u64 (y1 : Int)])) w := by
    intro w; rw [hx1, hy1]; exact add64_any lo.toNat S0 0 (by omega) w
  have hadd2 : ∀ w, (callFunc 109 #[.int .u64 (hi.toNat : Int), .int .u64 (S1 : Int), .int .u64 (y1 : Int)]).run Tryd.prog w = .ok (.value (.tuple #[.int .u64 (x2 : Int), .int .u64 (y2 : Int)])) w := by
    intro w; rw [hx2, hy2]; exact add64_any hi.toNat S1 y1 hy1b w
  have HX1 := Lib.hid hx1
  have HY1 := Lib.hid hy1
  have HX2 := Lib.hid hx2
  clear hx1 hy1 hx2 hy2 hS0b hS1b hlob hhib
  have HG0 : Hid (∀ W, Below w1.heap.size w1 W → Calls Tryd.prog 58 #[.slice (some ⟨b, o, none⟩) 16 cap] W fun e w' => e = .returned (.int .u64 (S0 : Int)) ∧ w' = W) := fun W kW => by
    rw [hS0.out]
    exact (get64_any _ _ _ (HS1.out.below kW)).mono fun e w' ⟨h, k⟩ => ⟨h, k.symm⟩
  go_quiet ((go_at_call 58; exact Calls.quiet_of_same (HG0.out _ (below_draws _ _))))
  go_wp2
  obtain ⟨w2, hw2⟩ : ∃ x, Hid (x = w1.drewN nq) := ⟨_, rfl⟩
  rw [← hw2.out]
  have k2 : Below w.heap.size w w2 := by rw [hw2.out]; exact drewN_below k1 nq
  have c2' : w2.cell? ⟨w.heap.size, 2, none⟩ = some (.int .u64 (n2.toNat : Int)) := by rw [hw2.out]; exact c2
  have c3' : w2.cell? ⟨w.heap.size, 3, none⟩ = some (.int .u64 (n3.toNat : Int)) := by rw [hw2.out]; exact c3
  have c4' : w2.cell? ⟨w.heap.size, 4, none⟩ = some (.int .u64 (n4.toNat : Int)) := by rw [hw2.out]; exact c4
  have HG1 : Hid (∀ W, Below w2.heap.size w2 W → Calls Tryd.prog 58 #[.slice (some ⟨b, o + 8, none⟩) 8 (cap - 8)] W fun e w' => e = .returned (.int .u64 (S1 : Int)) ∧ w' = W) := fun W kW => by
    rw [hS1.out]
    have h2 : IsB w2 (.slice (some ⟨b, o + 8, none⟩) 8 (cap - 8)) (s.drop 8) := by rw [hw2.out]; exact HS2.out.below (below_draws _ _)
    exact (get64_any _ _ _ (h2.below kW)).mono fun e w' ⟨h, k⟩ => ⟨h, k.symm⟩
  clear c0 c1 c2 c3 c4
  go_quiet ((go_at_call 58; exact Calls.quiet_of_same (HG1.out _ (below_draws _ _))))
  obtain ⟨w3, hw3⟩ : ∃ x, Hid (x = w2.drewN nq) := ⟨_, rfl⟩
  rw [← hw3.out]
  have k3 : Below w.heap.size w w3 := by rw [hw3.out]; exact drewN_below k2 _
  clear c2' c3' c4'
  go_wp2_with fail
  refine (put64_any x1 _).mono ?_
  rintro e w4 ⟨r4, rfl, o4, k4⟩
  go_wp2_with fail
  refine (put64_any x2 _).mono ?_
  rintro e w5 ⟨r5, rfl, o5, k5⟩
  have o4' : Own w5 w.heap.size r4 (M.le x1 8) := (o4.below k5).mono k3.size
  have i5 : IsB w5 r5 (M.le x2 8) := o5.isB
  have n5 := o5.nil0
  have k45 : Below w.heap.size w w5 := (k3.trans (k4.mono k3.size)).trans (k5.mono (Nat.le_trans k3.size k4.size))
  go_wp2_with (refine wpList_app _ rfl (.tmp 45) (.tmp 47) rfl w.heap.size r4 (M.le x1 8) rfl o4' r5 (M.le x2 8) rfl i5 n5 (by rw [M.le_length, M.le_length]; decide) k45.size ?_)
  intro v6 w6 o6 k6 _
  go_wp2
  go_ret
  refine ⟨_, rfl, ?_, k45.trans k6⟩
  have e : M.withS n s = M.le x1 8 ++ M.le x2 8 := by
    rw [M.withS, M.sumB, M.sumA, M.low, M.high, HX2.out, HX1.out, HY1.out, hhi.out, hlo.out, hb3.out, hb4.out, hb1.out, hb2.out, ha2.out, ha1.out, ha3.out, hS0.out, hS1.out, hn0.out, hn1.out, hn2.out, hn3.out, hn4.out, Nat.add_zero]
  rw [e]
  exact o6

end Go.Proofs.YtdojalhaklkegaaDoor

namespace Go.Proofs.YtdojalhaklkegaaDoor
open Go.RowKit
set_option linter.unusedVariables false

/-- A whole array into a block that is known, as one step of a region that draws. -/
theorem step_store_blk {P : Program} {ops : Array Oper} {o : Oper} {a : Act} {w : World} {K : Act → World → Prop} {Q : Exit → Act → World → Prop} {E : Prop} (hgd : o.guard = none) (ty : TypeId) (x y : Operand) (ho : o.op = .store ty x y)
    (g : Nat) (cells : Array Value) (hx : a.eval x = .pointer (some ⟨g, 0, none⟩)) (hy : a.eval y = .agg cells) (t : TypeId) (cs : List Value) (hg : Blk w g t cs)
    (hi : (P.info? ty).map (·.size) = some cells.size) (hl : cs.length = cells.size) (h1 : ∀ v ∈ cells.toList, v.oneCell' = true)
    (h : ∀ w', Blk w' g t cells.toList → Only g w w' → K (a.put o.dst undef) w') : if Region.wanted o (yielded ops a.tmps) = true then Oper.wp P o a w K Q else E := by
  have hw : Region.wanted o (yielded ops a.tmps) = true := by simp [Region.wanted, hgd]
  rw [if_pos hw]
  unfold Oper.wp execOp
  have h1' : cells.all (·.oneCell') = true := Array.all_eq_true_iff_forall_mem.2 fun v hv => h1 v (by simpa using hv)
  simp only [ho, hx, hy, Instr.storeAt, Instr.sureAddr, Sem.run_bind, Sem.run_pure, Result.andThen_ok, run_storeVar_row w g t ty cs.toArray cells hg hi (by simpa using hl) h1']
  refine h _ ?_ ⟨rfl, rfl, rfl, by simp, fun k _ hne => ?_⟩
  · have := setRow_heap w g cs.toArray cells t (0, 0) hg
    simpa [Blk] using this
  · exact setRow_other w g k cells (fun e => hne (by rw [e]))

/-- A whole array out of a block, likewise. -/
theorem step_load_mid {P : Program} {ops : Array Oper} {o : Oper} {a : Act} {w : World} {K : Act → World → Prop} {Q : Exit → Act → World → Prop} {E : Prop} (hgd : o.guard = none) (ty : TypeId) (x : Operand) (ho : o.op = .load ty x)
    (b off : Nat) (hx : a.eval x = .pointer (some ⟨b, off, none⟩)) (cs : List Value) (d : TypeDesc) (hS : w.rangeAt b off cs)
    (hu : P.underlying ty = some d) (hd : d.isRow = true) (hi : (P.info? ty).map (·.size) = some cs.length) (h : K (a.put o.dst (.agg cs.toArray)) w) : if Region.wanted o (yielded ops a.tmps) = true then Oper.wp P o a w K Q else E := by
  have hw : Region.wanted o (yielded ops a.tmps) = true := by simp [Region.wanted, hgd]
  rw [if_pos hw]
  unfold Oper.wp execOp
  simp only [ho, hx, Instr.loadAt, Instr.sureAddr, Sem.run_bind, Sem.run_pure, Result.andThen_ok, run_loadVar_mid w b off ty cs d hS hu hd hi]
  exact h

/-- An operation that yields in every world that meets S, taken first; the slot that it writes known. -/
theorem wpAnyH_take_at {P : Program} {ops : Array Oper} {md : Region.Mode} {Q : Exit → Act → World → Prop} {S : World → Prop} {i d : Nat} {oi : Oper} {v : Value} {fuel : Nat} {listed : Array Bool} {tmps : Array Value} {defers : List Deferred} {w : World} (hi : ops[i]? = some oi) (hdst : oi.dst = some d)
    (hs : Region.noSelect ops = true) (hf : Region.free md ops listed i = true) (hr : (Region.ready md ops listed).contains i = true)
    (hQ : ∀ c a w, Q (.panic c) (a.put oi.dst v) w → Q (.panic c) a w) (hy : YieldsIf P ops S oi v { tmps := tmps, defers := defers }) (hS : S w)
    (h : wpAnyH P md ops Q S fuel (listed.setIfInBounds i true) { tmps := tmps.setIfInBounds d v, defers := defers } w) : wpAnyH P md ops Q S (fuel + 1) listed { tmps := tmps, defers := defers } w := by
  refine wpAnyH_take hi hs hf hr hQ hy hS ?_
  rw [hdst]
  exact h

end Go.Proofs.YtdojalhaklkegaaDoor
