/-
  THE CONTRACT OF slices.Chunk AT BYTES AND 64: what it hands back is called with a loop's body for each piece of at most 64 bytes, in their order. Conditions: none but that the slice lies within its reach.
-/
import Derived.Test.YtdojalhaklkegaaDoorInRound
import Derived.Test.YtdojalhaklkegaaDoorChaBeg
import Derived.RangeFuncBound
import Derived.RangeFuncLeaves
import Derived.RangeFuncBox
import Derived.Shelf.Abstract
import Derived.Shelf.RegionOpen
import Derived.WalkKit
import Derived.OwnWalkIn
import Derived.TacticsInMore
import Derived.LoopNIn
import Derived.LoopIn
set_option maxRecDepth 100000
namespace Go.Proofs.YtdojalhaklkegaaDoor
open Go.RowKit Go.Shelf
set_option linter.unusedVariables false

attribute [local go_sem] Oper.semAt_some

/-- Piece c of a slice. -/
def piece (b off len c : Nat) : Value := .slice (some ⟨b, off + 64 * c, none⟩) (min 64 (len - 64 * c)) (min 64 (len - 64 * c))

/-- What a round that goes on keeps: the iterator's own two variables. -/
def KeepTwo (B1 B2 : Nat) (W W' : World) : Prop := W'.heap[B1]? = W.heap[B1]? ∧ W'.heap[B2]? = W.heap[B2]?

theorem KeepTwo.trans {B1 B2 : Nat} {X Y Z : World} (h : KeepTwo B1 B2 X Y) (k : KeepTwo B1 B2 Y Z) : KeepTwo B1 B2 X Z := ⟨k.1.trans h.1, k.2.trans h.2⟩

theorem cell_same {W W' : World} {B : Nat} (h : W'.heap[B]? = W.heap[B]?) (i : Nat) : W'.cell? ⟨B, i, none⟩ = W.cell? ⟨B, i, none⟩ := by
  simp [World.cell?, h]

theorem chunk_any (a : Option Addr) (n c : Nat) (w : World) :
    Calls Tryd.prog 53 #[.slice a n c, .int .i64 64] w fun e w' =>
      e = .returned (.func (.func 74) #[] #[.pointer (some ⟨w.heap.size, 0, none⟩), .pointer (some ⟨w.heap.size + 1, 0, none⟩)]) ∧ w' = (w.alloc (.cells #[.slice a n c] 24)).alloc (.cells #[.int .i64 64] 3) := by
  have hmf : ∀ (fn : Fn) (first cap : Array Value) (w : World), (Instr.makeFunc fn first cap).run Tryd.prog w = .ok (.func fn first cap) w := fun _ _ _ _ => rfl
  go_enter Tryd.func53, Tryd.ntmps53
  go_wp2
  go_ret
  exact ⟨by simp, rfl⟩

set_option maxRecDepth 100000 in
set_option maxHeartbeats 2000000 in
theorem chunk1_in (n l B1 B2 b off len cap : Nat) (hn : 1 ≤ n) (hlen : 0 < len) (hcap : len ≤ cap) (hmax : cap ≤ maxLen) (hsm : len ≤ 281474976710656) (J Jx : List Nat → World → Prop) (hJA : ∀ s W, J s W → J s W.drew)
    (hY : ∀ pre x W, J pre W → pre.length < (len + 63) / 64 → YieldAt Fence.wide (n - 1) Tryd.prog l #[piece b off len x] W fun e W' =>
      (e = .returned (.bool true) ∧ J (pre ++ [x]) W' ∧ KeepTwo B1 B2 W W') ∨ (e = .returned (.bool false) ∧ Jx (pre ++ [x]) W'))
    (W : World) (h1 : W.cell? ⟨B1, 0, none⟩ = some (.slice (some ⟨b, off, none⟩) len cap)) (h2 : W.cell? ⟨B2, 0, none⟩ = some (.int .i64 64)) (h0 : J [] W) :
    CallsIn Fence.wide n Tryd.prog 74 #[.func (.yield l) #[] #[], .pointer (some ⟨B1, 0, none⟩), .pointer (some ⟨B2, 0, none⟩)] W fun e W' => (∃ v, e = .returned v) ∧
      ((∃ ys, ys = List.range ((len + 63) / 64) ∧ J ys W') ∨ (∃ pre, (∃ k, k ≤ (len + 63) / 64 ∧ pre = List.range k) ∧ Jx pre W')) := by
  have HY := Lib.hid hY
  unfold maxLen at hmax
  clear hY
  refine callsIn_of_wp Tryd.func74 rfl trivial ?_ rfl
  simp only [Tryd.ntmps74, List.size_toArray, List.length_cons, List.length_nil, Nat.reduceAdd, Nat.reduceSub, Array.replicate_succ, Array.replicate_zero, List.push_toArray, List.append_toArray, List.nil_append, List.cons_append]
  gi_wp2
  gi_loopw [4] (fun i wr => ∃ k p : Nat, Hid (p = 64 * k) ∧ p < len + 64 ∧ i = .int .i64 p ∧ J (List.range k) wr ∧ wr.cell? ⟨B1, 0, none⟩ = some (.slice (some ⟨b, off, none⟩) len cap) ∧ wr.cell? ⟨B2, 0, none⟩ = some (.int .i64 64))
    (fun i _ => len + 64 - (intOf i).toNat)
  case atStart => exact ⟨0, 0, rfl, by omega, rfl, h0, h1, h2⟩
  case round =>
    clear h0 h1 h2
    obtain ⟨k, p, hp, hpl, rfl, hJ, h1, h2⟩ := hrel
    by_cases hlt : p < len
    · have hne : ¬ cap = p := by omega
      have hmix : Tryd.prog.follows .mixedOrders = true := by kernel_rfl
      gi_wp2
      gi_region
      obtain ⟨q, hq⟩ : ∃ q, q = min 64 (len - p) := ⟨_, rfl⟩
      have hq1 : 1 ≤ q := by omega
      have hq2 : p + q ≤ len := by omega
      have HQ : Hid (q = min 64 (len - p)) := hq
      rw [show (if ((len - p : Nat) : Int) < 64 then ((len - p : Nat) : Int) else 64) = (q : Int) from by split <;> omega]
      have hlk : (List.range k).length < (len + 63) / 64 := by have := hp.out; simp; omega
      obtain ⟨fn, tmps, assign, body, hy, hR⟩ := HY.out (List.range k) k wr.drew (hJA _ _ hJ) hlk
      have hpc : piece b off len k = .slice (some ⟨b, off + p, none⟩) q q := by rw [piece, hp.out, hq, hp.out]
      rw [hpc] at hy
      have h1' : wr.drew.cell? ⟨B1, 0, none⟩ = some (.slice (some ⟨b, off, none⟩) len cap) := h1
      clear hq hpc
      gi_wp2
      refine hR.mono ?_
      rintro e W3 (⟨rfl, hJ3, hk3⟩ | ⟨rfl, hJx3⟩)
      · have c1 : W3.cell? ⟨B1, 0, none⟩ = some (.slice (some ⟨b, off, none⟩) len cap) := (cell_same hk3.1 0).trans h1
        have c2 : W3.cell? ⟨B2, 0, none⟩ = some (.int .i64 64) := (cell_same hk3.2 0).trans h2
        clear hR hy h1 h2 h1'
        gi_wp2
        go_roundw
        case rel => exact ⟨k + 1, p + 64, by have := hp.out; rw [Hid]; omega, by omega, by go_num, by rw [List.range_succ]; exact hJ3, c1, c2⟩
        case measure => simp [intOf]; omega
      · gi_wp2
        refine bodyPost_ret (results_none rfl _ _ _) rfl ?_
        have e := hp.out
        exact ⟨⟨_, rfl⟩, .inr ⟨_, ⟨k + 1, by omega, rfl⟩, by rw [List.range_succ]; exact hJx3⟩⟩
    · gi_wp2
      go_end0
      have e := hp.out
      exact ⟨⟨_, rfl⟩, .inl ⟨_, rfl, by rw [show (len + 63) / 64 = k by omega]; exact hJ⟩⟩

/-- At no bytes: no round. -/
theorem chunk0_in (n l B1 B2 cap : Nat) (a : Option Addr) (J : List Nat → World → Prop) (W : World) (h1 : W.cell? ⟨B1, 0, none⟩ = some (.slice a 0 cap)) (h0 : J [] W) :
    CallsIn Fence.wide n Tryd.prog 74 #[.func (.yield l) #[] #[], .pointer (some ⟨B1, 0, none⟩), .pointer (some ⟨B2, 0, none⟩)] W fun e W' => (∃ v, e = .returned v) ∧ J [] W' := by
  refine callsIn_of_wp Tryd.func74 rfl trivial ?_ rfl
  simp only [Tryd.ntmps74, List.size_toArray, List.length_cons, List.length_nil, Nat.reduceAdd, Nat.reduceSub, Array.replicate_succ, Array.replicate_zero, List.push_toArray, List.append_toArray, List.nil_append, List.cons_append]
  gi_wp2
  gi_loopw [4] (fun i wr => i = .int .i64 0 ∧ J [] wr ∧ wr.cell? ⟨B1, 0, none⟩ = some (.slice a 0 cap)) (fun _ _ => 0)
  case atStart => exact ⟨rfl, h0, h1⟩
  case round =>
    clear h0 h1
    obtain ⟨rfl, hJ, h1⟩ := hrel
    gi_wp2
    go_end0
    exact ⟨⟨_, rfl⟩, hJ⟩

/-- The pieces of a slice: none, or where they lie. -/
def pieceOf (v : Value) (c : Nat) : Value :=
  match v with
  | .slice (some ⟨b, off, none⟩) len _ => piece b off len c
  | _ => .slice none 0 0

/-- What Chunk hands back calls a loop's body for each piece. -/
theorem chunk_stops (n B1 B2 : Nat) (hn : 1 ≤ n) (v : Value) (bs : List UInt8) (w : World) (hv : IsB w v bs) (hsm : bs.length ≤ 281474976710656) (hB1 : B1 < w.heap.size) (hB2 : B2 < w.heap.size)
    (h1 : w.cell? ⟨B1, 0, none⟩ = some v) (h2 : w.cell? ⟨B2, 0, none⟩ = some (.int .i64 64)) :
    SeqStopsK Fence.wide n Tryd.prog 74 #[.pointer (some ⟨B1, 0, none⟩), .pointer (some ⟨B2, 0, none⟩)] (fun c : Nat => #[pieceOf v c]) (KeepTwo B1 B2)
      (fun ys => ys = List.range ((bs.length + 63) / 64)) (fun pre => ∃ k, k ≤ (bs.length + 63) / 64 ∧ pre = List.range k) ((bs.length + 63) / 64) w := by
  intro l J Jx W hW hJ hJx hY h0
  have c1 : W.cell? ⟨B1, 0, none⟩ = some v := (hW.cell (p := ⟨B1, 0, none⟩) hB1).trans h1
  have c2 : W.cell? ⟨B2, 0, none⟩ = some (.int .i64 64) := (hW.cell (p := ⟨B2, 0, none⟩) hB2).trans h2
  obtain ⟨ao, cap, rfl, hl1, hl2, hat⟩ := hv
  by_cases hz : bs.length = 0
  · rw [hz] at c1 ⊢
    exact (chunk0_in n l B1 B2 cap ao J W c1 h0).mono fun e W' ⟨he, hj⟩ => ⟨he, .inl ⟨_, rfl, hj⟩⟩
  · obtain ⟨b, off, rfl, _⟩ : ∃ b off, ao = some ⟨b, off, none⟩ ∧ True := by
      rcases hat with h | ⟨b, off, h, _⟩
      · rw [h] at hz; simp at hz
      · exact ⟨b, off, h, trivial⟩
    refine (chunk1_in n l B1 B2 b off bs.length cap hn (by omega) hl1 hl2 hsm J Jx (fun s W hs => hJ s W W.drew none hs ⟨rfl, rfl, rfl, Nat.le_refl _, fun _ _ _ => rfl⟩ (fun r e => by cases e)) hY W c1 c2 h0).mono ?_
    rintro e W' ⟨he, ⟨ys, rfl, hj⟩ | ⟨pre, hp, hj⟩⟩
    · exact ⟨he, .inl ⟨_, rfl, hj⟩⟩
    · exact ⟨he, .inr ⟨_, hp, hj⟩⟩

end Go.Proofs.YtdojalhaklkegaaDoor
