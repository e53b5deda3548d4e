/-
  CONTRACTS OF b64.groups AND OF WHAT IT HANDS BACK: a loop's body is called with each group's number and how many bytes it has, in order. Conditions: rows of up to 2^40 bytes.
-/
import Derived.Test.YtmheaefpbebgfaaDoorInWide
import Derived.Test.YtmheaefpbebgfaaDoorB64M2
import Derived.Test.YtmheaefpbebgfaaDoorWordB
import Derived.Test.YtmheaefpbebgfaaDoorShaMem
import Derived.RangeFuncBound
import Derived.RangeFuncLeaves
import Derived.RangeFuncBox
import Derived.Shelf.Abstract
import Derived.Shelf.RegionOpen
import Derived.WalkKit
import Derived.WalkSpells
import Derived.OwnWalkIn
import Derived.TacticsInMore
import Derived.LoopNIn
import Derived.LoopIn
import Derived.Lib.Hide
import Derived.Deep.Cut
namespace Go.Proofs.YtmheaefpbebgfaaDoor
open Go.RowKit Go.Shelf
set_option linter.unusedVariables false
set_option maxRecDepth 100000

attribute [local go_sem] Oper.semAt_some

theorem groups_any (a : Option Addr) (n c : Nat) (w : World) :
    Calls Tryd.prog 14 #[.slice a n c] w fun e w' =>
      e = .returned (.func (.func 23) #[] #[.pointer (some ⟨w.heap.size, 0, none⟩)]) ∧ w' = w.alloc (.cells #[.slice a n c] 22) := by
  have hmf : ∀ (fn : Fn) (first cap : Array Value) (w : World), (Instr.makeFunc fn first cap).run Tryd.prog w = .ok (.func fn first cap) w := fun _ _ _ _ => rfl
  go_enter Tryd.func14, Tryd.ntmps14
  go_wp2
  go_ret
  exact ⟨by simp, rfl⟩

def lenOf64 : Value → Nat
  | .slice _ x _ => x
  | _ => 0

/-- What is left of a row behind its first bytes. -/
theorem isB_rest {w : World} {ao : Option Addr} {bs : List UInt8} {cap q : Nat} (h : IsB w (.slice ao bs.length cap) bs) (hq : q ≤ bs.length) (hq0 : 0 < bs.length) :
    ∃ a', (∀ w', (Instr.slice 22 (.slice ao bs.length cap) (some (.int .i64 q)) none none).run Tryd.prog w' = .ok (.slice a' (bs.length - q) (cap - q)) w') ∧ IsB w (.slice a' (bs.drop q).length (cap - q)) (bs.drop q) := by
  obtain ⟨ao', cap', e, h1, h2, h3⟩ := h
  injection e with e1 e2 e3
  subst e1 e3
  rcases h3 with h3 | ⟨b, off, rfl, hc⟩
  · rw [h3] at hq0; simp at hq0
  have hl : (bs.drop q).length = bs.length - q := List.length_drop
  have hr : ∀ w', (Instr.slice 22 (.slice (some ⟨b, off, none⟩) bs.length cap) (some (.int .i64 q)) none none).run Tryd.prog w' = .ok (sliced (some ⟨b, off, none⟩) q bs.length cap 1) w' := by
    intro w'
    have hel : Tryd.prog.elem 22 = 5 := by simp [Program.elem, Tryd.underlying22]
    rw [run_slice_l w' 22 (some ⟨b, off, none⟩) bs.length cap (by rw [hel]; exact Tryd.underlying22) .i64 (q : Int) (by omega) (by omega), hel, Tryd.sizeOf5]
    simp
  by_cases hcq : cap = q
  · refine ⟨some ⟨b, off, none⟩, fun w' => ?_, ?_⟩
    · rw [hr w', sliced, if_pos hcq]
    · exact ⟨_, cap - q, rfl, by omega, by omega, .inl (List.eq_nil_of_length_eq_zero (by omega))⟩
  · refine ⟨some ⟨b, off + q, none⟩, fun w' => ?_, ?_⟩
    · rw [hr w', sliced, if_neg hcq]
      simp [Addr.add]
    · refine ⟨_, cap - q, rfl, by omega, by omega, .inr ⟨b, off + q, rfl, fun i hi => ?_⟩⟩
      rw [Nat.add_assoc, hc (q + i) (by omega)]
      simp [List.getD_eq_getElem?_getD, List.getElem?_drop]

set_option maxHeartbeats 2000000 in
theorem groups1_in (n l B1 : Nat) (hn : 1 ≤ n) (v : Value) (text : List UInt8) (w0 : World) (hv : IsB w0 v text) (hsm : text.length ≤ 1099511627776) (J Jx : List Nat → World → Prop)
    (hJ : ∀ s W W', J s W → Below W.heap.size W W' → J s W')
    (hY : ∀ pre x W, J pre W → pre.length < (text.length + 2) / 3 → YieldAt Fence.wide (n - 1) Tryd.prog l #[.int .u32 (M.grp text x : Int), .int .i64 (M.gn text x : Int)] W fun e W' =>
      (e = .returned (.bool true) ∧ J (pre ++ [x]) W' ∧ Below w0.heap.size W W') ∨ (e = .returned (.bool false) ∧ Jx (pre ++ [x]) W'))
    (W : World) (hB : Below w0.heap.size w0 W) (h1 : W.cell? ⟨B1, 0, none⟩ = some v) (h0 : J [] W) :
    CallsIn Fence.wide n Tryd.prog 23 #[.func (.yield l) #[] #[], .pointer (some ⟨B1, 0, none⟩)] W fun e W' => (∃ v, e = .returned v) ∧
      ((∃ ys, ys = List.range ((text.length + 2) / 3) ∧ J ys W') ∨ (∃ pre, (∃ k, k ≤ (text.length + 2) / 3 ∧ pre = List.range k) ∧ Jx pre W')) := by
  have HY := Lib.hid hY
  have HJ := Lib.hid hJ
  have HSM := Lib.hid hsm
  have HV : Hid (IsB w0 v (text.drop (3 * 0))) := by rw [Hid]; simpa using hv
  clear hY hJ hv hsm
  refine callsIn_of_wp Tryd.func23 rfl trivial ?_ rfl
  simp only [Tryd.ntmps23, List.size_toArray, List.length_cons, List.length_nil, Nat.reduceAdd, Nat.reduceSub, Array.replicate_succ, Array.replicate_zero, List.push_toArray, List.append_toArray, List.nil_append, List.cons_append]
  refine wpIn_wide.2 ?_
  go_wp2
  go_loopw [3] (fun r wr => ∃ k : Nat, Hid (k ≤ (text.length + 2) / 3) ∧ Hid (IsB w0 r (text.drop (3 * k))) ∧ J (List.range k) wr ∧ Below w0.heap.size w0 wr)
    (fun r _ => lenOf64 r)
  case atStart => exact ⟨0, Nat.zero_le _, HV, h0, hB⟩
  case round =>
    clear h0 h1 hB HV
    obtain ⟨wz, rfl⟩ : ∃ x, x = wr := ⟨_, rfl⟩
    obtain ⟨k, hk, hi, hJ, hb⟩ := hrel
    obtain ⟨D, hD⟩ : ∃ D, Hid (D = text.drop (3 * k)) := ⟨_, rfl⟩
    rw [← hD.out] at hi
    obtain ⟨ao, cap, rfl, hcap, hmax, hat⟩ := hi.out
    obtain ⟨L, hL⟩ : ∃ L, L = D.length := ⟨_, rfl⟩
    have HL := Lib.hid hL
    have hDl : Hid (D.length = text.length - 3 * k) := by rw [Hid, hD.out, List.length_drop]
    by_cases hpos : 0 < L
    · obtain ⟨q, hq⟩ : ∃ q, q = min L 3 := ⟨_, rfl⟩
      have hq1 : 1 ≤ q := by omega
      have hqL : q ≤ L := by omega
      have hq3 : q ≤ 3 := by omega
      obtain ⟨a', hsl, hi'⟩ := isB_rest hi.out (by omega : q ≤ D.length) (by omega)
      obtain ⟨x, hx⟩ : ∃ x, x = M.gb D 4 := ⟨_, rfl⟩
      have CG : Hid (∀ W, Below w0.heap.size w0 W → Calls Tryd.prog 24 #[.slice ao D.length cap] W fun e w' => e = .returned (.int .u32 (x : Int)) ∧ W = w') := fun W kW => by
        rw [hx]
        exact getBig32_any _ D W (hi.out.below kW)
      have hgrp : Hid (M.grp text k = x / 256) := by rw [Hid, M.grp, ← hD.out, hx]
      have hgn : Hid (M.gn text k = q) := by rw [Hid, M.gn, ← hDl.out, hq, HL.out]
      obtain ⟨y, hy⟩ : ∃ y, y = M.grp text k := ⟨_, rfl⟩
      have hyi : (x : Int) / 256 = (y : Int) := by rw [hy, hgrp.out]; simp
      have HY1 := Lib.hid hy
      have HDR : Hid (D.drop q = text.drop (3 * (k + 1))) := by
        rw [Hid]
        by_cases h16 : 3 ≤ L
        · rw [show q = 3 by omega, hD.out, List.drop_drop, show 3 * k + 3 = 3 * (k + 1) by omega]
        · have := hDl.out
          rw [List.drop_eq_nil_of_le (by omega), List.drop_eq_nil_of_le (by omega)]
      have hlk : (List.range k).length < (text.length + 2) / 3 := by have := hDl.out; rw [List.length_range]; omega
      obtain ⟨fn, tmps, assign, body, hyy, hR⟩ := HY.out (List.range k) k wz hJ hlk
      rw [hgn.out, ← hy] at hyy
      rw [← hL] at hsl hcap CG ⊢
      have hnz : (L : Int) > 0 := by omega
      have hmin : (if (3 : Int) < (L : Int) then 3 else (L : Int)) = (q : Int) := by split <;> omega
      have hmin2 : (if (L : Int) < 3 then (L : Int) else 3) = (q : Int) := by split <;> omega
      have hmin3 : min (L : Int) 3 = (q : Int) := by omega
      have hmin4 : (if (L : Int) ≤ 3 then (L : Int) else 3) = (q : Int) := by split <;> omega
      clear hq hL hD hx hy hlk hat
      go_upto_region 3 with fail
      refine (wpIn_wide (n := n)).1 ?_
      refine wpIn_region_lit (wpListInW_split (fun hlo => by obtain ⟨_, _, ⟨_, hlo⟩, _⟩ := hlo; cases hlo) 5 ?_)
      simp only [List.take_succ_cons, List.take_zero, List.drop_succ_cons, List.drop_zero]
      go_wp2_with fail
      refine (CG.out _ hb).mono ?_
      rintro e w4 ⟨rfl, rfl⟩
      clear CG
      go_wp2
      gi_wp2
      refine hR.mono ?_
      rintro e w6 (⟨rfl, hJ6, hk6⟩ | ⟨rfl, hJx6⟩)
      · have b6 : Below w0.heap.size w0 w6 := hb.trans hk6
        clear hR hyy
        gi_wp2
        go_wp2
        refine ⟨⟨k + 1, ?_, ?_, by rw [List.range_succ]; exact hJ6, b6⟩, by simp only [lenOf64]; omega⟩
        · rw [Hid]; have := hDl.out; have := HL.out; omega
        · rw [Hid, ← HDR.out]
          have e : (D.drop q).length = L - q := by rw [List.length_drop, HL.out]
          rw [e] at hi'
          exact hi'
      · gi_wp2
        go_wp2
        refine bodyPost_ret (results_none rfl _ _ _) rfl ⟨⟨_, rfl⟩, .inr ⟨_, ⟨k + 1, ?_, rfl⟩, by rw [List.range_succ]; exact hJx6⟩⟩
        have := hDl.out
        have := HL.out
        omega
    · have hnz : ¬ (L : Int) > 0 := by omega
      rw [← hL]
      go_wp2
      go_end0
      have hkk : (text.length + 2) / 3 = k := by have := hDl.out; have := hk.out; have := HL.out; omega
      refine ⟨⟨_, rfl⟩, .inl ?_⟩
      rw [hkk]
      first | exact hJ | exact ⟨_, rfl, hJ⟩

/-- What groups hands back calls a loop's body for each group. -/
theorem groups_stops (n B1 : Nat) (hn : 1 ≤ n) (v : Value) (text : List UInt8) (w0 w : World) (hv : IsB w0 v text) (hsm : text.length ≤ 1099511627776) (hb : Below w0.heap.size w0 w) (hB1 : B1 < w.heap.size) (h1 : w.cell? ⟨B1, 0, none⟩ = some v) :
    SeqStopsK Fence.wide n Tryd.prog 23 #[.pointer (some ⟨B1, 0, none⟩)] (fun c : Nat => #[.int .u32 (M.grp text c : Int), .int .i64 (M.gn text c : Int)]) (Below w0.heap.size)
      (fun ys => ys = List.range ((text.length + 2) / 3)) (fun pre => ∃ k, k ≤ (text.length + 2) / 3 ∧ pre = List.range k) ((text.length + 2) / 3) w := by
  intro l J Jx W hW hJ hJx hY h0
  have c1 : W.cell? ⟨B1, 0, none⟩ = some v := (hW.cell (p := ⟨B1, 0, none⟩) hB1).trans h1
  exact groups1_in n l B1 hn v text w0 hv hsm J Jx (fun s X Y hs k => hJ s X Y none hs ⟨k.os, k.tape, k.output, k.size, fun i hi _ => k.block i hi⟩ (fun r e => by cases e)) hY W (hb.trans (hW.mono hb.size)) c1 h0

end Go.Proofs.YtmheaefpbebgfaaDoor
