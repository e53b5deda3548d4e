/-
  CONTRACTS OF poly.pieces AND OF WHAT IT HANDS BACK: a loop's body is called with what each piece of 16 bytes adds, in order. Conditions: messages of up to 2^46 bytes.
-/
import Derived.Test.YtdojalhaklkegaaDoorInWide
import Derived.Test.YtdojalhaklkegaaDoorPolyB
import Derived.RangeFuncBound
import Derived.RangeFuncLeaves
import Derived.RangeFuncBox
import Derived.Shelf.Abstract
import Derived.Shelf.RegionOpen
import Derived.WalkKit
import Derived.OwnWalkIn
import Derived.TacticsInMore
import Derived.LoopNIn
import Derived.LoopIn
import Derived.Deep.Cut
set_option maxRecDepth 100000
namespace Go.Proofs.YtdojalhaklkegaaDoor
open Go.RowKit Go.Shelf
set_option linter.unusedVariables false

attribute [local go_sem] Oper.semAt_some

namespace M

/-- Piece c of a message: its bytes and a byte 1 behind them, in 17 bytes. -/
def chk16 (text : List UInt8) (c : Nat) : List UInt8 := (text.drop (16 * c)).take 16

def pcP (text : List UInt8) (c : Nat) : List UInt8 := chk16 text c ++ 1 :: List.replicate (16 - (chk16 text c).length) 0

theorem chk16_length (text : List UInt8) (c : Nat) : (chk16 text c).length = min 16 (text.length - 16 * c) := by simp [chk16]

theorem pcP_length (text : List UInt8) (c : Nat) : (pcP text c).length = 17 := by
  have := chk16_length text c
  simp [pcP]
  omega

end M

theorem ppieces_any (a : Option Addr) (n c : Nat) (w : World) :
    Calls Tryd.prog 78 #[.slice a n c] w fun e w' =>
      e = .returned (.func (.func 107) #[] #[.pointer (some ⟨w.heap.size, 0, none⟩)]) ∧ w' = w.alloc (.cells #[.slice a n c] 24) := by
  have hmf : ∀ (fn : Fn) (first cap : Array Value) (w : World), (Instr.makeFunc fn first cap).run Tryd.prog w = .ok (.func fn first cap) w := fun _ _ _ _ => rfl
  go_enter Tryd.func78, Tryd.ntmps78
  go_wp2
  go_ret
  exact ⟨by simp, rfl⟩

theorem blk_cell_ex {w : World} {g : Nat} {t : TypeId} {cs : List Value} (h : Blk w g t cs) (i : Nat) (hi : i < cs.length) : ∃ u, w.cell? ⟨g, i, none⟩ = some u := ⟨cs[i], by rw [h.cell, List.getElem?_eq_getElem hi]⟩

def lenOf5 : Value → Nat
  | .slice _ x _ => x
  | _ => 0

/-- What is left of a row behind its first bytes. -/
theorem isB_behind {w : World} {ao : Option Addr} {bs : List UInt8} {cap q : Nat} (h : IsB w (.slice ao bs.length cap) bs) (hq : q ≤ bs.length) (hq0 : 0 < bs.length) :
    ∃ a', (∀ w', (Instr.slice 24 (.slice ao bs.length cap) (some (.int .i64 q)) none none).run Tryd.prog w' = .ok (.slice a' (bs.length - q) (cap - q)) w') ∧ IsB w (.slice a' (bs.drop q).length (cap - q)) (bs.drop q) := by
  obtain ⟨ao', cap', e, h1, h2, h3⟩ := h
  injection e with e1 e2 e3
  subst e1 e3
  rcases h3 with h3 | ⟨b, off, rfl, hc⟩
  · rw [h3] at hq0; simp at hq0
  have hl : (bs.drop q).length = bs.length - q := List.length_drop
  have hr : ∀ w', (Instr.slice 24 (.slice (some ⟨b, off, none⟩) bs.length cap) (some (.int .i64 q)) none none).run Tryd.prog w' = .ok (sliced (some ⟨b, off, none⟩) q bs.length cap 1) w' := by
    intro w'
    have hel : Tryd.prog.elem 24 = 5 := by simp [Program.elem, Tryd.underlying24]
    rw [run_slice_l w' 24 (some ⟨b, off, none⟩) bs.length cap (by rw [hel]; exact Tryd.underlying24) .i64 (q : Int) (by omega) (by omega), hel, Tryd.sizeOf5]
    simp
  by_cases hcq : cap = q
  · refine ⟨some ⟨b, off, none⟩, fun w' => ?_, ?_⟩
    · rw [hr w', sliced, if_pos hcq]
    · exact ⟨_, cap - q, rfl, by omega, by omega, .inl (List.eq_nil_of_length_eq_zero (by omega))⟩
  · refine ⟨some ⟨b, off + q, none⟩, fun w' => ?_, ?_⟩
    · rw [hr w', sliced, if_neg hcq]
      simp [Addr.add]
    · refine ⟨_, cap - q, rfl, by omega, by omega, .inr ⟨b, off + q, rfl, fun i hi => ?_⟩⟩
      rw [Nat.add_assoc, hc (q + i) (by omega)]
      simp [List.getD_eq_getElem?_getD, List.getElem?_drop]

set_option maxRecDepth 100000 in
set_option maxHeartbeats 2000000 in
theorem pieces1_in (n l B1 : Nat) (hn : 1 ≤ n) (v : Value) (text : List UInt8) (w0 : World) (hv : IsB w0 v text) (hsm : text.length ≤ 70368744177664) (J Jx : List Nat → World → Prop)
    (hJ : ∀ s W W', J s W → Below W.heap.size W W' → J s W')
    (hY : ∀ pre x W, J pre W → pre.length < (text.length + 15) / 16 → YieldAt Fence.wide (n - 1) Tryd.prog l #[.agg (dc (M.num (M.pcP text x))).toArray] W fun e W' =>
      (e = .returned (.bool true) ∧ J (pre ++ [x]) W' ∧ Below w0.heap.size W W') ∨ (e = .returned (.bool false) ∧ Jx (pre ++ [x]) W'))
    (W : World) (hB : Below w0.heap.size w0 W) (h1 : W.cell? ⟨B1, 0, none⟩ = some v) (h0 : J [] W) :
    CallsIn Fence.wide n Tryd.prog 107 #[.func (.yield l) #[] #[], .pointer (some ⟨B1, 0, none⟩)] W fun e W' => (∃ v, e = .returned v) ∧
      ((∃ ys, ys = List.range ((text.length + 15) / 16) ∧ J ys W') ∨ (∃ pre, (∃ k, k ≤ (text.length + 15) / 16 ∧ pre = List.range k) ∧ Jx pre W')) := by
  have HY := Lib.hid hY
  have HJ := Lib.hid hJ
  have HV : Hid (IsB w0 v (text.drop (16 * 0))) := by rw [Hid]; simpa using hv
  clear hY hJ hv
  refine callsIn_of_wp Tryd.func107 rfl trivial ?_ rfl
  simp only [Tryd.ntmps107, List.size_toArray, List.length_cons, List.length_nil, Nat.reduceAdd, Nat.reduceSub, Array.replicate_succ, Array.replicate_zero, List.push_toArray, List.append_toArray, List.nil_append, List.cons_append]
  refine wpIn_wide.2 ?_
  go_wp2
  go_loopw [3] (fun r wr => ∃ k : Nat, Hid (k ≤ (text.length + 15) / 16) ∧ Hid (IsB w0 r (text.drop (16 * k))) ∧ J (List.range k) wr ∧ Below w0.heap.size w0 wr)
    (fun r _ => lenOf5 r)
  case atStart => exact ⟨0, Nat.zero_le _, HV, h0, hB⟩
  case round =>
    clear h0 h1 hB HV
    obtain ⟨wz, rfl⟩ : ∃ x, x = wr := ⟨_, rfl⟩
    obtain ⟨k, hk, hi, hJ, hb⟩ := hrel
    obtain ⟨D, hD⟩ : ∃ D, Hid (D = text.drop (16 * k)) := ⟨_, rfl⟩
    rw [← hD.out] at hi
    obtain ⟨ao, cap, rfl, hcap, hmax, hat⟩ := hi.out
    obtain ⟨L, hL⟩ : ∃ L, L = D.length := ⟨_, rfl⟩
    have HL := Lib.hid hL
    have hDl : Hid (D.length = text.length - 16 * k) := by rw [Hid, hD.out, List.length_drop]
    by_cases hpos : 0 < L
    · obtain ⟨q, hq⟩ : ∃ q, q = min L 16 := ⟨_, rfl⟩
      have hq1 : 1 ≤ q := by omega
      have hqL : q ≤ L := by omega
      have hq16 : q ≤ 16 := by omega
      have hq17 : q < 17 := by omega
      have HQ := Lib.hid hq
      obtain ⟨a', hsl, hi'⟩ := isB_behind hi.out (by omega : q ≤ D.length) (by omega)
      rcases hat with hat | ⟨b, off, rfl, hc⟩
      · rw [hat] at hL; simp at hL; omega
      obtain ⟨ch, hch⟩ : ∃ ch, Hid (ch = M.chk16 text k) := ⟨_, rfl⟩
      have hchD : ch = D.take 16 := by rw [hch.out, hD.out, M.chk16]
      have HCL : Hid (ch.length = q) := by rw [Hid, hchD, List.length_take]; omega
      have HC : Hid (∀ w', Below w0.heap.size w0 w' → ∀ (j : Nat) (u : Value), (Lib.byteCells ch)[j]? = some u → w'.cell? (Addr.add ⟨b, off, none⟩ j) = some u) := by
        intro w' kw j u hu
        have hj : j < (Lib.byteCells ch).length := (List.getElem?_eq_some_iff.1 hu).1
        rw [byteCells_length] at hj
        have hj2 : j < D.length ∧ j < 16 := by rw [HCL.out] at hj; omega
        have hx := hc j hj2.1
        rw [Addr.add_lit, kw.cell (by exact World.block_lt_of_cell? w0 _ hx), hx, ← hu, byteCells_getElem? _ _ hj, hchD]
        simp [List.getD_eq_getElem?_getD, hj2.2]
      rw [← hL] at hsl hcap ⊢
      have HPC : Hid (M.pcP text k = ch ++ 1 :: List.replicate (16 - q) 0) := by rw [Hid, M.pcP, ← hch.out, HCL.out]
      have HPL : Hid ((M.pcP text k).length = 17) := M.pcP_length text k
      obtain ⟨pcb, hpcb⟩ : ∃ p, Hid (p = M.pcP text k) := ⟨_, rfl⟩
      obtain ⟨num, hnum⟩ : ∃ p, Hid (p = M.num pcb) := ⟨_, rfl⟩
      have hlk : (List.range k).length < (text.length + 15) / 16 := by have := hDl.out; simp; omega
      have hs16 := slice17_to wz.heap.size
      have hnz : ¬ L = 0 := by omega
      have HZ : Hid (Blk (wz.alloc (.cells #[.int .u8 0, .int .u8 0, .int .u8 0, .int .u8 0, .int .u8 0, .int .u8 0, .int .u8 0, .int .u8 0, .int .u8 0, .int .u8 0, .int .u8 0, .int .u8 0, .int .u8 0, .int .u8 0, .int .u8 0, .int .u8 0, .int .u8 0] 148)) wz.heap.size 148 (List.replicate 17 (.int .u8 0))) := Blk.newAt _ _ _ _ _ rfl rfl
      have HSP : Hid ((splice (List.replicate 17 (Value.int .u8 0)) 0 (Lib.byteCells ch)).set q (.int .u8 1) = Lib.byteCells pcb) := by
        have e1 : (Lib.byteCells ch).length = q := by rw [byteCells_length, HCL.out]
        have e2 : List.drop (0 + q) (List.replicate 17 (Value.int IntKind.u8 0)) = .int .u8 0 :: List.replicate (16 - q) (.int .u8 0) := by
          rw [Nat.zero_add, List.drop_replicate, show 17 - q = (16 - q) + 1 by omega, List.replicate_succ]
        rw [Hid, hpcb.out, HPC.out, splice, e1, e2, List.take_zero, List.nil_append, List.set_append_right _ _ (by omega), e1, Nat.sub_self, List.set_cons_zero]
        simp [Lib.byteCells]
      have HSL : Hid (q < (splice (List.replicate 17 (Value.int .u8 0)) 0 (Lib.byteCells ch)).length) := by rw [Hid]; simp [splice, byteCells_length, HCL.out]; omega
      have HDR : Hid (D.drop q = text.drop (16 * (k + 1))) := by
        rw [Hid]
        by_cases h16 : 16 ≤ L
        · rw [show q = 16 by omega, hD.out, List.drop_drop, show 16 * k + 16 = 16 * (k + 1) by omega]
        · have := hDl.out
          rw [List.drop_eq_nil_of_le (by omega), List.drop_eq_nil_of_le (by omega)]
      clear hq hL hchD hch hc hD
      go_upto_region 5 with (refine wpList_copy_blk rfl (.tmp 10) (.tmp 11) 24 24 rfl 5 Tryd.underlying24 (by kernel_rfl) (some ⟨wz.heap.size, 0, none⟩) (some ⟨b, off, none⟩) 16 17 L cap rfl rfl wz.heap.size 0 _ 148 HZ.out (Lib.byteCells ch) (by rw [byteCells_length, HCL.out]; exact HQ.out) (fun _ => ⟨rfl, _, rfl, HC.out _ (hb.alloc hb.size _)⟩) (by rw [byteCells_length, HCL.out]; simp; omega) (byteCells_oneCell _) ?_; rw [byteCells_length, HCL.out]; intro w2 hb2 ho2; have hf2 : w2.frozen? ⟨wz.heap.size, q, none⟩ = false := hb2.frozen q; obtain ⟨u2, hu2⟩ := blk_cell_ex hb2 q HSL.out)
      have HB3 : Hid (Blk (w2.setCell ⟨wz.heap.size, q, none⟩ (.int .u8 1)) wz.heap.size 148 (Lib.byteCells pcb)) := (hb2.set_ q _).eq_ HSP.out
      have k3 : Below wz.heap.size wz (w2.setCell ⟨wz.heap.size, q, none⟩ (.int .u8 1)) := below_set (((Below.refl _ _).alloc (Nat.le_refl _) _).trans (ho2.below (by simp) (Nat.le_refl _))) (Nat.le_refl _) _
      have HR3 : Hid ((w2.setCell ⟨wz.heap.size, q, none⟩ (.int .u8 1)).rangeAt wz.heap.size 0 (Lib.byteCells pcb)) := HB3.out.range 0 _ [] (by simp)
      have HPB : Hid (pcb.length = 17) := by rw [Hid, hpcb.out]; exact HPL.out
      have HNO : Hid (∀ W, Calls Tryd.prog 106 #[.agg (Lib.byteCells pcb).toArray] W fun e w' => e = .returned (.agg (dc num).toArray) ∧ Below W.heap.size W w') := fun W => by
        rw [hnum.out]
        exact numberOf_any pcb W HPB.out
      clear hb2 ho2 hf2 hu2 HZ HSP HC HB3
      refine (wpIn_wide (n := n)).1 ?_
      refine wpIn_region_lit (wpListInW_split (fun hlo => by obtain ⟨_, _, ⟨_, hlo⟩, _⟩ := hlo; cases hlo) 3 ?_)
      simp only [List.take_succ_cons, List.take_zero, List.drop_succ_cons, List.drop_zero]
      go_wp2_with (refine wpList_load_mid rfl 148 (.tmp 4) rfl wz.heap.size 0 rfl (Lib.byteCells pcb) _ HR3.out Tryd.underlying148 rfl (by rw [byteCells_length, HPB.out]; kernel_rfl) ?_)
      refine (HNO.out _).mono ?_
      rintro e w4 ⟨rfl, k4⟩
      have k5 : Below wz.heap.size wz w4 := k3.trans (k4.mono k3.size)
      have b5 : Below w0.heap.size w0 w4 := hb.trans (k5.mono hb.size)
      have J4 : J (List.range k) w4 := HJ.out _ _ _ hJ k5
      obtain ⟨fn, tmps, assign, body, hy, hR⟩ := HY.out (List.range k) k w4 J4 hlk
      rw [← hpcb.out, ← hnum.out] at hy
      clear HNO HR3 k3 k4 hJ
      go_wp2
      gi_wp2
      refine hR.mono ?_
      rintro e w6 (⟨rfl, hJ6, hk6⟩ | ⟨rfl, hJx6⟩)
      · have b6 : Below w0.heap.size w0 w6 := b5.trans hk6
        clear hR hy
        gi_wp2
        go_wp2
        refine ⟨⟨k + 1, ?_, ?_, by rw [List.range_succ]; exact hJ6, b6⟩, by simp only [lenOf5]; omega⟩
        · rw [Hid]; have := hDl.out; have := HL.out; omega
        · rw [Hid, ← HDR.out]
          have e : (D.drop q).length = L - q := by rw [List.length_drop, HL.out]
          rw [e] at hi'
          exact hi'
      · gi_wp2
        go_wp2
        refine bodyPost_ret (results_none rfl _ _ _) rfl ⟨⟨_, rfl⟩, .inr ⟨_, ⟨k + 1, ?_, rfl⟩, by rw [List.range_succ]; exact hJx6⟩⟩
        have := hDl.out
        have := HL.out
        omega
    · go_wp2
      go_end0
      refine ⟨⟨_, rfl⟩, .inl ⟨_, rfl, ?_⟩⟩
      rw [show (text.length + 15) / 16 = k by have := hDl.out; have := hk.out; omega]
      exact hJ

/-- What pieces hands back calls a loop's body for each piece. -/
theorem pieces_stops (n B1 : Nat) (hn : 1 ≤ n) (v : Value) (text : List UInt8) (w0 w : World) (hv : IsB w0 v text) (hsm : text.length ≤ 70368744177664) (hb : Below w0.heap.size w0 w) (hB1 : B1 < w.heap.size) (h1 : w.cell? ⟨B1, 0, none⟩ = some v) :
    SeqStopsK Fence.wide n Tryd.prog 107 #[.pointer (some ⟨B1, 0, none⟩)] (fun c : Nat => #[.agg (dc (M.num (M.pcP text c))).toArray]) (Below w0.heap.size)
      (fun ys => ys = List.range ((text.length + 15) / 16)) (fun pre => ∃ k, k ≤ (text.length + 15) / 16 ∧ pre = List.range k) ((text.length + 15) / 16) w := by
  intro l J Jx W hW hJ hJx hY h0
  have c1 : W.cell? ⟨B1, 0, none⟩ = some v := (hW.cell (p := ⟨B1, 0, none⟩) hB1).trans h1
  exact pieces1_in n l B1 hn v text w0 hv hsm J Jx (fun s X Y hs k => hJ s X Y none hs ⟨k.os, k.tape, k.output, k.size, fun i hi _ => k.block i hi⟩ (fun r e => by cases e)) hY W (hb.trans (hW.mono hb.size)) c1 h0

end Go.Proofs.YtdojalhaklkegaaDoor
