/-
  CONTRACTS OF (*disk.Disk).Sync AND Crash. Conditions: the disk lies so.
  CONTRACT OF (*disk.Disk).Tamper. Conditions: the disk lies so; the bytes lie out of it, fewer than 2^40.
  CONTRACTS OF slices.Backward OVER A SLICE OF WRITES, AND OF WHAT IT HANDS BACK: a loop's body is called with each write and its place, the last one first. Conditions: what lies below where the loop begins stays.
-/
import Derived.Test.YtphcbpfpelonaaaGreatDoorPf8
import Derived.RangeFuncNested
import Derived.RangeFuncBound
import Derived.RangeFuncLeaves
import Derived.RangeFuncBox
import Derived.Shelf.Abstract
import Derived.Shelf.RegionOpen
import Derived.WalkKit
import Derived.OwnWalkIn
import Derived.TacticsInMore
import Derived.LoopNIn
import Derived.LoopIn

namespace Go.Proofs.YtphcbpfpelonaaaGreatDoor
open Go.RowKit
set_option linter.unusedVariables false

set_option maxHeartbeats 2000000 in
theorem sync9_down {T : Nat → Prop} {w : World} {g : Nat} {sv wv : Value} {dvs : List Value} {m : M.Dsk} (h : DkAt T w g sv wv dvs m) (hd : m.down = true) :
    Calls Tryz.prog 72 #[.pointer (some ⟨g, 0, none⟩)] w fun e w' => e = .returned (.int .i64 11) ∧ w' = w := by
  have c3 : w.cell? ⟨g, 3, none⟩ = some (.bool true) := by rw [← hd]; exact h.blk.cell 3
  clear h hd
  go_enter Tryz.func72, Tryz.ntmps72
  go_wp2
  go_ret
  exact ⟨rfl, rfl⟩

set_option maxHeartbeats 2000000 in
theorem sync9_goes {T : Nat → Prop} {w : World} {g : Nat} {sv wv : Value} {dvs : List Value} {m : M.Dsk} (h : DkAt T w g sv wv dvs m) (hd : m.down = false) (hg : m.goes.2 = true) :
    Calls Tryz.prog 72 #[.pointer (some ⟨g, 0, none⟩)] w fun e w' => e = .returned (.int .i64 11) ∧ Chg T w w' ∧ DkAt T w' g sv wv dvs m.goes.1 := by
  have c3 : w.cell? ⟨g, 3, none⟩ = some (.bool false) := by rw [← hd]; exact h.blk.cell 3
  have G := Lib.hid (act9_any h hd)
  have TG := Lib.hid h.tg
  rw [if_pos hg] at G
  clear h hd hg
  go_enter Tryz.func72, Tryz.ntmps72
  go_wp2_with fail
  refine G.out.mono ?_
  rintro e w1 ⟨rfl, r1, k1⟩
  have R1 := Lib.hid r1
  have K1 : Hid (Chg T w w1) := k1.one TG.out
  clear r1 k1 G c3
  go_wp2
  go_ret
  exact ⟨rfl, K1.out, R1.out⟩

set_option maxRecDepth 100000 in
set_option maxHeartbeats 4000000 in
theorem sync9_ok {T : Nat → Prop} {w : World} {g : Nat} {sv wv : Value} {dvs : List Value} {m : M.Dsk} (h : DkAt T w g sv wv dvs m) (hd : m.down = false) (hg : m.goes.2 = false) :
    Calls Tryz.prog 72 #[.pointer (some ⟨g, 0, none⟩)] w fun e w' => e = .returned (.int .i64 0) ∧ Chg T w w' ∧ DkAt T w' g sv (.slice none 0 0) [] m.goes.1.synced := by
  have c3 : w.cell? ⟨g, 3, none⟩ = some (.bool false) := by rw [← hd]; exact h.blk.cell 3
  have G := Lib.hid (act9_any h hd)
  have TG := Lib.hid h.tg
  have TS := Lib.hid h.ts
  rw [if_neg (by rw [hg]; decide)] at G
  obtain ⟨m1, hm1⟩ : ∃ x, x = m.goes.1 := ⟨_, rfl⟩
  have hw1 : m1.wait = m.wait := by rw [hm1, M.Dsk.goes]; split; rfl; split <;> rfl
  rw [← hm1] at G ⊢
  obtain ⟨q, hq⟩ : ∃ q, q = m1.wait.length := ⟨_, rfl⟩
  obtain ⟨wa, wc, ew⟩ := ownShape h.wrow
  rw [← hw1, ← hq] at ew
  subst ew
  have HQ : Hid (q = m1.wait.length) := hq
  clear h hd hg hm1 hw1 hq
  go_enter Tryz.func72, Tryz.ntmps72
  go_wp2_with fail
  refine G.out.mono ?_
  rintro e w1 ⟨rfl, r1, k1⟩
  have R1 := Lib.hid r1
  have K1 : Hid (Chg T w w1) := k1.one TG.out
  have c1 : w1.cell? ⟨g, 1, none⟩ = some (.slice wa q wc) := r1.blk.cell 1
  clear r1 k1 G c3
  go_wp2
  clear c1
  go_loopw [19] (fun i wr => ∃ (j : Nat), j ≤ q ∧ i = .int .i64 (j : Int) ∧ Hid (DkAt T wr g sv (.slice wa q wc) dvs { m1 with safe := M.laid m1.safe (m1.wait.take j) }) ∧ Hid (Chg T w wr))
    (fun i _ => q - (intOf i).toNat)
  case atStart => exact ⟨0, by omega, rfl, R1, K1⟩
  case round =>
    clear R1 K1
    obtain ⟨wz, rfl⟩ : ∃ x, x = wr := ⟨_, rfl⟩
    obtain ⟨j, hj, rfl, rr, kk⟩ := hrel
    by_cases hlt : j < q
    · have hjw : j < m1.wait.length := by have := HQ.out; omega
      obtain ⟨x, hx⟩ : ∃ x, x = m1.wait.getD j (0, []) := ⟨_, rfl⟩
      have hxm : x ∈ m1.wait := by rw [hx, List.getD_eq_getElem?_getD, List.getElem?_eq_getElem hjw]; exact List.getElem_mem hjw
      have hok := rr.out.ok.wat x hxm
      obtain ⟨wb, rfl, hwc, cw, fw⟩ := ownCells (by have := rr.out.wrow; rwa [show ({ m1 with safe := M.laid m1.safe (m1.wait.take j) } : M.Dsk).wait.length = q from HQ.out.symm] at this) (by omega)
      obtain ⟨dv, hdv⟩ : ∃ dv, dv = dvs.getD j undef := ⟨_, rfl⟩
      have hcg := chgs_get m1.wait dvs j rr.out.dlen hjw
      have hcl := chgs_length m1.wait dvs rr.out.dlen
      rw [← hx, ← hdv] at hcg
      have e0 : wz.cell? ⟨wb, j * 2, none⟩ = some (.int .i64 (x.1 : Int)) := by rw [cw _ (by rw [hcl]; omega), Nat.mul_comm]; exact hcg.1
      have e1 : wz.cell? ⟨wb, j * 2 + 1, none⟩ = some dv := by rw [cw _ (by rw [hcl]; omega), Nat.mul_comm]; exact hcg.2
      have dj := (rr.out.dvs_ j hjw).1
      rw [← hdv, ← hx] at dj
      obtain ⟨da, dc, hdd⟩ := dj.shape
      rw [hok.2] at hdd
      obtain ⟨W, hW⟩ : ∃ W, Hid (W = wz.alloc (.cells #[.int .i64 (x.1 : Int), dv] 152)) := ⟨_, rfl⟩
      have kW : Below wz.heap.size wz W := by rw [hW.out]; exact (Below.refl _ _).alloc (Nat.le_refl _) _
      have CL := Lib.hid (lay9_any (rr.out.below kW) x.1 hok.1 dv x.2 (dj.below kW) hok.2)
      have KW : Hid (Chg T w W) := kk.out.trans (Chg.of_below (F := fun _ => False) kW) fun _ _ h => h.elim
      have HE : Hid (({ m1 with safe := (M.laid m1.safe (m1.wait.take j)).set x.1 x.2 } : M.Dsk) = { m1 with safe := M.laid m1.safe (m1.wait.take (j + 1)) }) := by
        rw [Hid, List.take_add_one, List.getElem?_eq_getElem hjw]
        have ex : m1.wait[j] = x := by rw [hx, List.getD_eq_getElem?_getD, List.getElem?_eq_getElem hjw]; rfl
        rw [ex, Option.toList_some, M.laid_snoc]
      obtain ⟨b, hb⟩ : ∃ b, b = x.1 := ⟨_, rfl⟩
      have HBX : Hid (b = x.1) := hb
      rw [← hb] at e0 CL hW
      rw [hdd] at e1 CL hW
      have HJ : Hid (j < q) := hlt
      have b1 : (j : Int) < (q : Int) := by omega
      have b3 : (0 : Int) ≤ (j : Int) := by omega
      have n1 : ((j : Int)).toNat = j := by omega
      have n3 : wrap64 ((j : Int) + 1) = ((j + 1 : Nat) : Int) := by have := hwc.1; have := hwc.2; unfold maxLen at this; unfold wrap64; omega
      clear hcg hcl cw fw hok hxm hx hb hwc kW dj hdv hdd hj hlt hjw
      go_wp2_with fail
      rw [← hW.out]
      refine CL.out.mono ?_
      rintro e w2 ⟨rfl, r2, k2⟩
      have R2 : Hid (DkAt T w2 g sv (.slice (some ⟨wb, 0, none⟩) q wc) dvs { m1 with safe := M.laid m1.safe (m1.wait.take (j + 1)) }) := by rw [← HE.out, ← HBX.out]; exact r2
      have K2 : Hid (Chg T w w2) := KW.out.trans k2 fun k _ e => (TS.out k e).1
      clear r2 k2 CL HE KW hW e0 e1 rr kk
      go_wp2
      go_roundw
      case rel => exact ⟨j + 1, by have := HJ.out; omega, by rw [n3], R2, K2⟩
      case measure => rw [n3]; have := HJ.out; simp only [intOf, Int.toNat_natCast]; omega
    · obtain rfl : j = q := by omega
      have e1 : m1.wait.take j = m1.wait := by rw [HQ.out, List.take_length]
      rw [e1] at rr
      have B0 := rr.out.blk
      have B1 := B0.set_ 1 (.slice none 0 0)
      have k1 : Chg (fun b => b = g) wz (wz.setCell ⟨g, 1, none⟩ (.slice none 0 0)) := (Chg.refl _ wz).cell 1 _
      have R2 := Lib.hid (rr.out.drained k1 m1.left m1.down rr.out.left_ B1)
      have K2 : Hid (Chg T w (wz.setCell ⟨g, 1, none⟩ (.slice none 0 0))) := kk.out.trans (k1.one TG.out) fun _ _ h => h
      have f1 := B0.frozen 1
      have c1 := B0.cell 1
      clear B0 B1 k1 rr kk hlt hj e1
      go_wp2
      go_ret
      exact ⟨rfl, K2.out, R2.out⟩

end Go.Proofs.YtphcbpfpelonaaaGreatDoor

namespace Go.Proofs.YtphcbpfpelonaaaGreatDoor
open Go.RowKit
set_option linter.unusedVariables false

/-- 'b[m:]', whatever b's address is. -/
theorem from9 (ao : Option Addr) (n cap m : Nat) (hm : m ≤ n) (W : World) : (Instr.slice 38 (.slice ao n cap) (some (.int .i64 (m : Int))) none none).run Tryz.prog W = .ok (.slice (if cap = m then ao else ao.map (·.add m)) (n - m) (cap - m)) W := by
  have hel : Tryz.prog.elem 38 = 5 := by simp [Program.elem, Tryz.underlying38]
  rw [run_slice_l W 38 ao n cap (by rw [hel]; exact Tryz.underlying38) .i64 (m : Int) (by omega) (by omega), hel, Tryz.sizeOf5]
  simp only [Result.andThen_ok, sliced, Int.toNat_natCast, Nat.mul_one]

end Go.Proofs.YtphcbpfpelonaaaGreatDoor

namespace Go.Proofs.YtphcbpfpelonaaaGreatDoor
open Go.RowKit Go.Shelf
set_option linter.unusedVariables false

attribute [local go_sem] Oper.semAt_some

/-- The first k of q places, the last one first. -/
def M.down (q k : Nat) : List Nat := (List.range k).map fun j => q - 1 - j

theorem M.down_succ (q k : Nat) : M.down q (k + 1) = M.down q k ++ [q - 1 - k] := by simp [M.down, List.range_succ]

theorem M.down_length (q k : Nat) : (M.down q k).length = k := by simp [M.down]

theorem backward_any (a : Option Addr) (n c : Nat) (w : World) :
    Calls Tryz.prog 121 #[.slice a n c] w fun e w' =>
      e = .returned (.func (.func 134) #[] #[.pointer (some ⟨w.heap.size, 0, none⟩)]) ∧ w' = w.alloc (.cells #[.slice a n c] 64) := by
  have hmf : ∀ (fn : Fn) (first cap : Array Value) (w : World), (Instr.makeFunc fn first cap).run Tryz.prog w = .ok (.func fn first cap) w := fun _ _ _ _ => rfl
  go_enter Tryz.func121, Tryz.ntmps121
  go_wp2
  go_ret
  exact ⟨by simp, rfl⟩

set_option maxRecDepth 100000 in
set_option maxHeartbeats 2000000 in
theorem backward1_in (n l B1 n₀ q sc : Nat) (hn : 1 ≤ n) (hq : q < 1000000) (sa : Option Addr) (nm : Nat → Nat) (dv : Nat → Value) (hd1 : ∀ j, (dv j).oneCell' = true) (w0 : World) (hB1 : B1 < n₀) (J Jx : List Nat → World → Prop)
    (h1 : w0.cell? ⟨B1, 0, none⟩ = some (.slice sa q sc)) (hrow : ∀ j, j < q → ∃ b, sa = some ⟨b, 0, none⟩ ∧ b < n₀ ∧ w0.cell? ⟨b, j * 2, none⟩ = some (.int .i64 (nm j : Int)) ∧ w0.cell? ⟨b, j * 2 + 1, none⟩ = some (dv j))
    (hY : ∀ (pre : List Nat) (x : Nat) (W : World), J pre W → pre.length < q → YieldAt Fence.wide (n - 1) Tryz.prog l #[.int .i64 (x : Int), .agg #[.int .i64 (nm x : Int), dv x]] W fun e W' =>
      (e = .returned (.bool true) ∧ J (pre ++ [x]) W' ∧ Below n₀ W W') ∨ (e = .returned (.bool false) ∧ Jx (pre ++ [x]) W'))
    (W : World) (hB : Below n₀ w0 W) (h0 : J [] W) :
    CallsIn Fence.wide n Tryz.prog 134 #[.func (.yield l) #[] #[], .pointer (some ⟨B1, 0, none⟩)] W fun e W' => (∃ v, e = .returned v) ∧
      ((∃ ys, ys = M.down q q ∧ J ys W') ∨ (∃ pre, (∃ k, k < q ∧ pre = M.down q (k + 1)) ∧ Jx pre W')) := by
  have HY := Lib.hid hY
  have HROW := Lib.hid hrow
  have HBN := Lib.hid hB1
  have HC1 := Lib.hid h1
  have HD1 := Lib.hid hd1
  have c1 : W.cell? ⟨B1, 0, none⟩ = some (.slice sa q sc) := (hB.cell (p := ⟨B1, 0, none⟩) hB1).trans h1
  have t1 : wrap64 ((q : Int) - 1) = (q : Int) - 1 := by unfold wrap64; omega
  clear hY hrow hB1 h1 hd1
  refine callsIn_of_wp Tryz.func134 rfl trivial ?_ rfl
  simp only [Tryz.ntmps134, List.size_toArray, List.length_cons, List.length_nil, Nat.reduceAdd, Nat.reduceSub, Array.replicate_succ, Array.replicate_zero, List.push_toArray, List.append_toArray, List.nil_append, List.cons_append]
  gi_wp2
  clear c1
  gi_loopw [3] (fun i wr => ∃ t : Nat, t ≤ q ∧ i = .int .i64 ((t : Int) - 1) ∧ J (M.down q (q - t)) wr ∧ Below n₀ w0 wr)
    (fun i _ => (intOf i + 1).toNat)
  case atStart => exact ⟨q, Nat.le_refl _, by first | rw [t1] | rfl, by rw [Nat.sub_self]; exact h0, hB⟩
  case round =>
    clear h0 hB t1
    obtain ⟨t, ht, rfl, hJ, hb⟩ := hrel
    cases t with
    | zero =>
      have e0 : ((0 : Nat) : Int) - 1 = -1 := rfl
      rw [e0]
      gi_wp2
      go_end0
      exact ⟨⟨_, rfl⟩, .inl ⟨_, rfl, hJ⟩⟩
    | succ s =>
      have e0 : ((s + 1 : Nat) : Int) - 1 = (s : Int) := by omega
      rw [e0]
      obtain ⟨b, rfl, hbn, r0, r1⟩ := HROW.out s (by omega)
      have c1 : wr.cell? ⟨B1, 0, none⟩ = some (.slice (some ⟨b, 0, none⟩) q sc) := (hb.cell (p := ⟨B1, 0, none⟩) HBN.out).trans HC1.out
      have s0 : wr.cell? ⟨b, s * 2, none⟩ = some (.int .i64 (nm s : Int)) := (hb.cell (p := ⟨b, s * 2, none⟩) hbn).trans r0
      have s1 : wr.cell? ⟨b, s * 2 + 1, none⟩ = some (dv s) := (hb.cell (p := ⟨b, s * 2 + 1, none⟩) hbn).trans r1
      have hlen : (M.down q (q - (s + 1))).length < q := by rw [M.down_length]; omega
      have HDN : Hid (M.down q (q - (s + 1)) ++ [s] = M.down q (q - s)) := by
        rw [Hid, show q - s = q - (s + 1) + 1 by omega, M.down_succ, show q - 1 - (q - (s + 1)) = s by omega]
      obtain ⟨fn, tmps, assign, body, hy, hR⟩ := HY.out (M.down q (q - (s + 1))) s wr hJ hlen
      rw [HDN.out] at hR
      have b1 : (s : Int) < (q : Int) := by omega
      have b2 : (0 : Int) ≤ (s : Int) := by omega
      have b3 : ((s : Int)).toNat = s := by omega
      have n3 : wrap64 ((s : Int) - 1) = (s : Int) - 1 := by unfold wrap64; omega
      have HT : Hid (s + 1 ≤ q) := ht
      obtain ⟨d, hd⟩ : ∃ d, d = dv s := ⟨_, rfl⟩
      rw [← hd] at s1 hy
      clear hd r0 r1 ht hlen
      gi_wp2
      refine hR.mono ?_
      rintro e W3 (⟨rfl, hJ3, hk3⟩ | ⟨rfl, hJx3⟩)
      · have hb3 : Below n₀ w0 W3 := hb.trans hk3
        clear c1 s0 s1 hy hR
        gi_wp2
        go_roundw
        case rel => exact ⟨s, by have := HT.out; omega, rfl, hJ3, hb3⟩
        case measure => simp only [intOf]; omega
      · gi_wp2
        refine bodyPost_ret (results_none rfl _ _ _) rfl ?_
        exact ⟨⟨_, rfl⟩, .inr ⟨_, ⟨q - (s + 1), by have := HT.out; omega, by rw [show q - (s + 1) + 1 = q - s by have := HT.out; omega]⟩, hJx3⟩⟩

/-- What Backward hands back calls a loop's body for each write, the last one first. -/
theorem backward_stops (n B1 q sc : Nat) (hn : 1 ≤ n) (hq : q < 1000000) (sa : Option Addr) (nm : Nat → Nat) (dv : Nat → Value) (hd1 : ∀ j, (dv j).oneCell' = true) (w0 : World) (hB1 : B1 < w0.heap.size)
    (h1 : w0.cell? ⟨B1, 0, none⟩ = some (.slice sa q sc)) (hrow : ∀ j, j < q → ∃ b, sa = some ⟨b, 0, none⟩ ∧ b < w0.heap.size ∧ w0.cell? ⟨b, j * 2, none⟩ = some (.int .i64 (nm j : Int)) ∧ w0.cell? ⟨b, j * 2 + 1, none⟩ = some (dv j)) :
    SeqStopsK Fence.wide n Tryz.prog 134 #[.pointer (some ⟨B1, 0, none⟩)] (fun x : Nat => #[.int .i64 (x : Int), .agg #[.int .i64 (nm x : Int), dv x]]) (Below w0.heap.size)
      (fun ys => ys = M.down q q) (fun pre => ∃ k, k < q ∧ pre = M.down q (k + 1)) q w0 := by
  intro l J Jx W hW hJ hJx hY h0
  exact backward1_in n l B1 w0.heap.size q sc hn hq sa nm dv hd1 w0 hB1 J Jx h1 hrow hY W hW h0

end Go.Proofs.YtphcbpfpelonaaaGreatDoor
