/-
  CONTRACTS OF slices.Backward OVER A SLICE OF WRITES, AND OF WHAT IT HANDS BACK: a loop's body is called with each write and its place, the last one first. Conditions: what lies below where the loop begins stays.
-/
import Derived.Test.YthmamdlhgfkckaaDiskT
import Derived.RangeFuncNested
import Derived.RangeFuncBound
import Derived.RangeFuncLeaves
import Derived.RangeFuncBox
import Derived.Shelf.Abstract
import Derived.Shelf.RegionOpen
import Derived.WalkKit
import Derived.OwnWalkIn
import Derived.TacticsInMore
import Derived.LoopNIn
import Derived.LoopIn
namespace Go.Proofs.Ythmamdlhgfkckaa
open Go.RowKit Go.Shelf
set_option linter.unusedVariables false

attribute [local go_sem] Oper.semAt_some

/-- The first k of q places, the last one first. -/
def M.down (q k : Nat) : List Nat := (List.range k).map fun j => q - 1 - j

theorem M.down_succ (q k : Nat) : M.down q (k + 1) = M.down q k ++ [q - 1 - k] := by simp [M.down, List.range_succ]

theorem M.down_length (q k : Nat) : (M.down q k).length = k := by simp [M.down]

theorem backward_any (a : Option Addr) (n c : Nat) (w : World) :
    Calls Try.prog 41 #[.slice a n c] w fun e w' =>
      e = .returned (.func (.func 42) #[] #[.pointer (some ⟨w.heap.size, 0, none⟩)]) ∧ w' = w.alloc (.cells #[.slice a n c] 58) := by
  have hmf : ∀ (fn : Fn) (first cap : Array Value) (w : World), (Instr.makeFunc fn first cap).run Try.prog w = .ok (.func fn first cap) w := fun _ _ _ _ => rfl
  go_enter Try.func41, Try.ntmps41
  go_wp2
  go_ret
  exact ⟨by simp, rfl⟩

set_option maxRecDepth 100000 in
set_option maxHeartbeats 2000000 in
theorem backward1_in (n l B1 n₀ q sc : Nat) (hn : 1 ≤ n) (hq : q < 1000000) (sa : Option Addr) (nm : Nat → Nat) (dv : Nat → Value) (hd1 : ∀ j, (dv j).oneCell' = true) (w0 : World) (hB1 : B1 < n₀) (J Jx : List Nat → World → Prop)
    (h1 : w0.cell? ⟨B1, 0, none⟩ = some (.slice sa q sc)) (hrow : ∀ j, j < q → ∃ b, sa = some ⟨b, 0, none⟩ ∧ b < n₀ ∧ w0.cell? ⟨b, j * 2, none⟩ = some (.int .i64 (nm j : Int)) ∧ w0.cell? ⟨b, j * 2 + 1, none⟩ = some (dv j))
    (hY : ∀ (pre : List Nat) (x : Nat) (W : World), J pre W → pre.length < q → YieldAt Fence.wide (n - 1) Try.prog l #[.int .i64 (x : Int), .agg #[.int .i64 (nm x : Int), dv x]] W fun e W' =>
      (e = .returned (.bool true) ∧ J (pre ++ [x]) W' ∧ Below n₀ W W') ∨ (e = .returned (.bool false) ∧ Jx (pre ++ [x]) W'))
    (W : World) (hB : Below n₀ w0 W) (h0 : J [] W) :
    CallsIn Fence.wide n Try.prog 42 #[.func (.yield l) #[] #[], .pointer (some ⟨B1, 0, none⟩)] W fun e W' => (∃ v, e = .returned v) ∧
      ((∃ ys, ys = M.down q q ∧ J ys W') ∨ (∃ pre, (∃ k, k < q ∧ pre = M.down q (k + 1)) ∧ Jx pre W')) := by
  have HY := Lib.hid hY
  have HROW := Lib.hid hrow
  have HBN := Lib.hid hB1
  have HC1 := Lib.hid h1
  have HD1 := Lib.hid hd1
  have c1 : W.cell? ⟨B1, 0, none⟩ = some (.slice sa q sc) := (hB.cell (p := ⟨B1, 0, none⟩) hB1).trans h1
  have t1 : wrap64 ((q : Int) - 1) = (q : Int) - 1 := by unfold wrap64; omega
  clear hY hrow hB1 h1 hd1
  refine callsIn_of_wp Try.func42 rfl trivial ?_ rfl
  simp only [Try.ntmps42, List.size_toArray, List.length_cons, List.length_nil, Nat.reduceAdd, Nat.reduceSub, Array.replicate_succ, Array.replicate_zero, List.push_toArray, List.append_toArray, List.nil_append, List.cons_append]
  gi_wp2
  clear c1
  gi_loopw [3] (fun i wr => ∃ t : Nat, t ≤ q ∧ i = .int .i64 ((t : Int) - 1) ∧ J (M.down q (q - t)) wr ∧ Below n₀ w0 wr)
    (fun i _ => (intOf i + 1).toNat)
  case atStart => exact ⟨q, Nat.le_refl _, by first | rw [t1] | rfl, by rw [Nat.sub_self]; exact h0, hB⟩
  case round =>
    clear h0 hB t1
    obtain ⟨t, ht, rfl, hJ, hb⟩ := hrel
    cases t with
    | zero =>
      have e0 : ((0 : Nat) : Int) - 1 = -1 := rfl
      rw [e0]
      gi_wp2
      go_end0
      exact ⟨⟨_, rfl⟩, .inl ⟨_, rfl, hJ⟩⟩
    | succ s =>
      have e0 : ((s + 1 : Nat) : Int) - 1 = (s : Int) := by omega
      rw [e0]
      obtain ⟨b, rfl, hbn, r0, r1⟩ := HROW.out s (by omega)
      have c1 : wr.cell? ⟨B1, 0, none⟩ = some (.slice (some ⟨b, 0, none⟩) q sc) := (hb.cell (p := ⟨B1, 0, none⟩) HBN.out).trans HC1.out
      have s0 : wr.cell? ⟨b, s * 2, none⟩ = some (.int .i64 (nm s : Int)) := (hb.cell (p := ⟨b, s * 2, none⟩) hbn).trans r0
      have s1 : wr.cell? ⟨b, s * 2 + 1, none⟩ = some (dv s) := (hb.cell (p := ⟨b, s * 2 + 1, none⟩) hbn).trans r1
      have hlen : (M.down q (q - (s + 1))).length < q := by rw [M.down_length]; omega
      have HDN : Hid (M.down q (q - (s + 1)) ++ [s] = M.down q (q - s)) := by
        rw [Hid, show q - s = q - (s + 1) + 1 by omega, M.down_succ, show q - 1 - (q - (s + 1)) = s by omega]
      obtain ⟨fn, tmps, assign, body, hy, hR⟩ := HY.out (M.down q (q - (s + 1))) s wr hJ hlen
      rw [HDN.out] at hR
      have b1 : (s : Int) < (q : Int) := by omega
      have b2 : (0 : Int) ≤ (s : Int) := by omega
      have b3 : ((s : Int)).toNat = s := by omega
      have n3 : wrap64 ((s : Int) - 1) = (s : Int) - 1 := by unfold wrap64; omega
      have HT : Hid (s + 1 ≤ q) := ht
      obtain ⟨d, hd⟩ : ∃ d, d = dv s := ⟨_, rfl⟩
      rw [← hd] at s1 hy
      clear hd r0 r1 ht hlen
      gi_wp2
      refine hR.mono ?_
      rintro e W3 (⟨rfl, hJ3, hk3⟩ | ⟨rfl, hJx3⟩)
      · have hb3 : Below n₀ w0 W3 := hb.trans hk3
        clear c1 s0 s1 hy hR
        gi_wp2
        go_roundw
        case rel => exact ⟨s, by have := HT.out; omega, rfl, hJ3, hb3⟩
        case measure => simp only [intOf]; omega
      · gi_wp2
        refine bodyPost_ret (results_none rfl _ _ _) rfl ?_
        exact ⟨⟨_, rfl⟩, .inr ⟨_, ⟨q - (s + 1), by have := HT.out; omega, by rw [show q - (s + 1) + 1 = q - s by have := HT.out; omega]⟩, hJx3⟩⟩

/-- What Backward hands back calls a loop's body for each write, the last one first. -/
theorem backward_stops (n B1 q sc : Nat) (hn : 1 ≤ n) (hq : q < 1000000) (sa : Option Addr) (nm : Nat → Nat) (dv : Nat → Value) (hd1 : ∀ j, (dv j).oneCell' = true) (w0 : World) (hB1 : B1 < w0.heap.size)
    (h1 : w0.cell? ⟨B1, 0, none⟩ = some (.slice sa q sc)) (hrow : ∀ j, j < q → ∃ b, sa = some ⟨b, 0, none⟩ ∧ b < w0.heap.size ∧ w0.cell? ⟨b, j * 2, none⟩ = some (.int .i64 (nm j : Int)) ∧ w0.cell? ⟨b, j * 2 + 1, none⟩ = some (dv j)) :
    SeqStopsK Fence.wide n Try.prog 42 #[.pointer (some ⟨B1, 0, none⟩)] (fun x : Nat => #[.int .i64 (x : Int), .agg #[.int .i64 (nm x : Int), dv x]]) (Below w0.heap.size)
      (fun ys => ys = M.down q q) (fun pre => ∃ k, k < q ∧ pre = M.down q (k + 1)) q w0 := by
  intro l J Jx W hW hJ hJx hY h0
  exact backward1_in n l B1 w0.heap.size q sc hn hq sa nm dv hd1 w0 hB1 J Jx h1 hrow hY W hW h0

end Go.Proofs.Ythmamdlhgfkckaa
