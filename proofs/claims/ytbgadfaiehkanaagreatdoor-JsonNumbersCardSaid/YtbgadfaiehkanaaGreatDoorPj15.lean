/-
  CONTRACTS OF slices.Backward OVER A SLICE OF WRITES, AND OF WHAT IT HANDS BACK: a loop's body is called with each write and its place, the last one first. Conditions: what lies below where the loop begins stays.
  CONTRACTS OF (*disk.Disk).seen AND Read: a block's bytes as seen. Conditions: the disk lies so; fewer than a million writes wait.
  PACKAGE disk BY ITS CALLS (CodeDk: the code's disk as one thing), each case in one contract; for later layers' seats, which may lack some of the calls. Conditions: each contract's.
  orloplaw09.awake, under DiskOk: it returns true. Conditions: DiskOk (proved of the code elsewhere).
  A DISK, AND TWO OF THEM, IN MEMORY OF THEIR OWN (Solo, Pair): what a call on one does, and that the other one stays; what a disk does while its power isn't armed. Conditions: as each says.
-/
import Derived.Test.YtbgadfaiehkanaaGreatDoorPj14
import Derived.RangeFuncNested
import Derived.RangeFuncBound
import Derived.RangeFuncLeaves
import Derived.RangeFuncBox
import Derived.Shelf.Abstract
import Derived.Shelf.RegionOpen
import Derived.WalkKit
import Derived.OwnWalkIn
import Derived.TacticsInMore
import Derived.LoopNIn
import Derived.LoopIn
import Derived.Test.YtbgadfaiehkanaaGreatDoorPj13

namespace Go.Proofs.YtbgadfaiehkanaaGreatDoor
open Go.RowKit Go.Shelf
set_option linter.unusedVariables false

attribute [local go_sem] Oper.semAt_some

/-- The first k of q places, the last one first. -/
def M.down (q k : Nat) : List Nat := (List.range k).map fun j => q - 1 - j

theorem M.down_succ (q k : Nat) : M.down q (k + 1) = M.down q k ++ [q - 1 - k] := by simp [M.down, List.range_succ]

theorem M.down_length (q k : Nat) : (M.down q k).length = k := by simp [M.down]

end Go.Proofs.YtbgadfaiehkanaaGreatDoor

namespace Go.Proofs.YtbgadfaiehkanaaGreatDoor
open Go.RowKit Go.Shelf
set_option linter.unusedVariables false

attribute [local go_sem] Oper.semAt_some

namespace M
theorem take_snoc (c : List (Nat × List UInt8)) (k : Nat) (h : k < c.length) : c.take (k + 1) = c.take k ++ [c.getD k (0, [])] := by
  rw [List.take_add_one, List.getElem?_eq_getElem h, List.getD_eq_getElem?_getD, List.getElem?_eq_getElem h]
  rfl

theorem seen_none (i : Nat) (b : List UInt8) (c : List (Nat × List UInt8)) (h : ∀ j, j < c.length → (c.getD j (0, [])).1 ≠ i) : seen i b c = b := by
  have : ∀ k, k ≤ c.length → seen i b (c.take k) = b := by
    intro k
    induction k with
    | zero => intro _; rfl
    | succ k ih =>
      intro hk
      rw [take_snoc c k hk, seen_snoc, if_neg (h k hk)]
      exact ih (by omega)
  have := this c.length (Nat.le_refl _)
  rwa [List.take_length] at this

theorem seen_at (i : Nat) (b : List UInt8) (c : List (Nat × List UInt8)) (y : Nat) (hy : y < c.length) (he : (c.getD y (0, [])).1 = i) (h : ∀ j, y < j → j < c.length → (c.getD j (0, [])).1 ≠ i) : seen i b c = (c.getD y (0, [])).2 := by
  have : ∀ t, y + 1 + t ≤ c.length → seen i b (c.take (y + 1 + t)) = (c.getD y (0, [])).2 := by
    intro t
    induction t with
    | zero => intro _; rw [Nat.add_zero, take_snoc c y hy, seen_snoc, if_pos he]
    | succ t ih =>
      intro ht
      rw [← Nat.add_assoc, take_snoc c (y + 1 + t) (by omega), seen_snoc, if_neg (h _ (by omega) (by omega))]
      exact ih (by omega)
  have := this (c.length - (y + 1)) (by omega)
  rwa [show y + 1 + (c.length - (y + 1)) = c.length by omega, List.take_length] at this

theorem mem_down (q k j : Nat) : j ∈ down q k ↔ ∃ t, t < k ∧ j = q - 1 - t := by
  simp only [down, List.mem_map, List.mem_range]
  exact ⟨fun ⟨t, h, e⟩ => ⟨t, h, e.symm⟩, fun ⟨t, h, e⟩ => ⟨t, h, e.symm⟩⟩
end M

/-- The parts of a slice. -/
def sA : Value → Option Addr
  | .slice a _ _ => a
  | _ => none
def sC : Value → Nat
  | .slice _ _ c => c
  | _ => 0

theorem blk_box9 (B g : Nat) (t : TypeId) (cs : List Value) : OwnFrom B (fun (_ : List Nat) W => Blk W g t cs) := fun s W W' row hs hg hr => hs.grown hg (by
  intro e
  obtain ⟨_, o, ho, hc⟩ := hr g e.symm
  rw [show W.heap[g]? = _ from hs] at ho
  cases ho
  cases hc)

theorem keeps_below9 {W W' : World} (k : Below W.heap.size W W') (B : Nat) : KeepsFrom B W W' := ⟨k.size, fun i o _ hi _ => (k.block i (Array.getElem?_eq_some_iff.1 hi).1).trans hi⟩

end Go.Proofs.YtbgadfaiehkanaaGreatDoor

namespace Go.Proofs.YtbgadfaiehkanaaGreatDoor
open Go.RowKit
set_option linter.unusedVariables false
set_option maxRecDepth 100000

end Go.Proofs.YtbgadfaiehkanaaGreatDoor

namespace Go.Proofs.YtbgadfaiehkanaaGreatDoor
open Go.RowKit
set_option linter.unusedVariables false

theorem isZ_two (w : World) (t : TypeId) (a b : Bool) : IsZ (w.alloc (.cells #[.bool a, .bool b] t)) (.slice (some ⟨w.heap.size, 0, none⟩) 2 2) [a, b] := by
  refine ⟨_, 2, rfl, Nat.le_refl _, by unfold maxLen; omega, .inr ⟨w.heap.size, 0, rfl, fun i hi => ?_⟩⟩
  match i, hi with
  | 0, _ => simp
  | 1, _ => simp

end Go.Proofs.YtbgadfaiehkanaaGreatDoor

namespace Go.Proofs.YtbgadfaiehkanaaGreatDoor
open Go.RowKit
set_option linter.unusedVariables false

/-- A predicate of disks that lasts where its blocks stay. -/
structure Lasts (P : (Nat → Prop) → World → Nat → M.Dsk → Prop) : Prop where
  chg : ∀ {T F w w' g m}, P T w g m → Chg F w w' → (∀ b, T b → ¬ F b) → P T w' g m
  there : ∀ {T w g m}, P T w g m → ∀ k, T k → k < w.heap.size
  ok : ∀ {T w g m}, P T w g m → m.Ok

/-- A disk in memory of its own since w0. -/
def Solo (P : (Nat → Prop) → World → Nat → M.Dsk → Prop) (w0 w : World) (g : Nat) (m : M.Dsk) : Prop := ∃ T, P T w g m ∧ (∀ k, T k → w0.heap.size ≤ k) ∧ Below w0.heap.size w0 w

/-- Two disks in memory of their own since w0, apart from each other. -/
def Pair (P Q : (Nat → Prop) → World → Nat → M.Dsk → Prop) (w0 w : World) (g : Nat) (m : M.Dsk) (h : Nat) (n : M.Dsk) : Prop :=
  ∃ T S, P T w g m ∧ Q S w h n ∧ (∀ k, T k → ¬ S k) ∧ (∀ k, T k → w0.heap.size ≤ k) ∧ (∀ k, S k → w0.heap.size ≤ k) ∧ Below w0.heap.size w0 w

section
variable {P Q : (Nat → Prop) → World → Nat → M.Dsk → Prop} {w0 w W : World} {g h : Nat} {m n m' : M.Dsk}

theorem Lasts.below (l : Lasts P) {T : Nat → Prop} {w' : World} (p : P T w g m) (k : Below w.heap.size w w') : P T w' g m := l.chg p (Chg.of_below (F := fun _ => False) k) fun _ _ h => h

theorem Solo.under (s : Solo P w0 w g m) : Below w0.heap.size w0 w := by
  obtain ⟨T, p, t, k⟩ := s
  exact k

theorem Solo.okay (l : Lasts P) (s : Solo P w0 w g m) : m.Ok := by
  obtain ⟨T, p, t, k⟩ := s
  exact l.ok p

theorem Solo.below (l : Lasts P) (s : Solo P w0 w g m) (k : Below w.heap.size w W) : Solo P w0 W g m := by
  obtain ⟨T, p, t, b⟩ := s
  exact ⟨T, l.below p k, t, b.trans (k.mono b.size)⟩

/-- A call that turns the disk's blocks alone. -/
theorem Solo.op (l : Lasts P) (s : Solo P w0 w g m) (kW : Below w.heap.size w W) {f : Nat} {args : Array Value} {R : Ending → Prop}
    (call : ∀ T, P T W g m → (∀ k, T k → w0.heap.size ≤ k ∧ k < w.heap.size) → Calls Tryz.prog f args W fun e w' => R e ∧ Chg T W w' ∧ ∃ T', P T' w' g m' ∧ ∀ k, T' k → T k ∨ W.heap.size ≤ k) :
    Calls Tryz.prog f args W fun e w' => R e ∧ Solo P w0 w' g m' := by
  obtain ⟨T, p, t, b⟩ := s
  have hb := b.size
  have hk := kW.size
  refine (call T (l.below p kW) fun k hk => ⟨t k hk, l.there p k hk⟩).mono ?_
  rintro e w' ⟨r, c, T', p', ht⟩
  refine ⟨r, T', p', fun k hk => ?_, (b.trans (kW.mono hb)).trans (c.below (by omega) t)⟩
  rcases ht k hk with q | q
  · exact t k q
  · omega

/-- As Solo.op; and what was laid since the disk's last turn stays. -/
theorem Solo.op2 (l : Lasts P) (s : Solo P w0 w g m) (kW : Below w.heap.size w W) {f : Nat} {args : Array Value} {R : Ending → Prop}
    (call : ∀ T, P T W g m → (∀ k, T k → w0.heap.size ≤ k ∧ k < w.heap.size) → Calls Tryz.prog f args W fun e w' => R e ∧ Chg T W w' ∧ ∃ T', P T' w' g m' ∧ ∀ k, T' k → T k ∨ W.heap.size ≤ k) :
    Calls Tryz.prog f args W fun e w' => R e ∧ Solo P w0 w' g m' ∧ ∀ b, w.heap.size ≤ b → b < W.heap.size → w'.heap[b]? = W.heap[b]? := by
  obtain ⟨T, p, t, b⟩ := s
  have hb := b.size
  have hk := kW.size
  refine (call T (l.below p kW) fun k hk => ⟨t k hk, l.there p k hk⟩).mono ?_
  rintro e w' ⟨r, c, T', p', ht⟩
  refine ⟨r, ⟨T', p', fun k hk => ?_, (b.trans (kW.mono hb)).trans (c.below (by omega) t)⟩, fun k h1 h2 => c.block k h2 fun h => by have := l.there p k h; omega⟩
  rcases ht k hk with q | q
  · exact t k q
  · omega

/-- A call that only reads. -/
theorem Solo.see (l : Lasts P) (s : Solo P w0 w g m) (kW : Below w.heap.size w W) {f : Nat} {args : Array Value} {R : Ending → World → Prop}
    (call : ∀ T, P T W g m → Calls Tryz.prog f args W fun e w' => R e w' ∧ Below W.heap.size W w') :
    Calls Tryz.prog f args W fun e w' => R e w' ∧ Solo P w0 w' g m ∧ Below W.heap.size W w' := by
  obtain ⟨T, p, t, b⟩ := s
  have s' : Solo P w0 W g m := ⟨T, l.below p kW, t, b.trans (kW.mono b.size)⟩
  refine (call T (l.below p kW)).mono ?_
  rintro e w' ⟨r, c⟩
  exact ⟨r, s'.below l c, c⟩

theorem Pair.under (s : Pair P Q w0 w g m h n) : Below w0.heap.size w0 w := by
  obtain ⟨T, S, p, q, d, t, u, k⟩ := s
  exact k

theorem Pair.swap (s : Pair P Q w0 w g m h n) : Pair Q P w0 w h n g m := by
  obtain ⟨T, S, p, q, d, t, u, k⟩ := s
  exact ⟨S, T, q, p, fun k a b => d k b a, u, t, k⟩

theorem Pair.below (lp : Lasts P) (lq : Lasts Q) (s : Pair P Q w0 w g m h n) (k : Below w.heap.size w W) : Pair P Q w0 W g m h n := by
  obtain ⟨T, S, p, q, d, t, u, b⟩ := s
  exact ⟨T, S, lp.below p k, lq.below q k, d, t, u, b.trans (k.mono b.size)⟩

theorem Pair.okay (lp : Lasts P) (s : Pair P Q w0 w g m h n) : m.Ok := by
  obtain ⟨T, S, p, q, d, t, u, b⟩ := s
  exact lp.ok p

/-- As Pair.op; and what was laid since the disks' last turn stays. -/
theorem Pair.op2 (lp : Lasts P) (lq : Lasts Q) (s : Pair P Q w0 w g m h n) (kW : Below w.heap.size w W) {f : Nat} {args : Array Value} {R : Ending → Prop}
    (call : ∀ T, P T W g m → (∀ k, T k → w0.heap.size ≤ k ∧ k < w.heap.size) → Calls Tryz.prog f args W fun e w' => R e ∧ Chg T W w' ∧ ∃ T', P T' w' g m' ∧ ∀ k, T' k → T k ∨ W.heap.size ≤ k) :
    Calls Tryz.prog f args W fun e w' => R e ∧ Pair P Q w0 w' g m' h n ∧ ∀ b, w.heap.size ≤ b → b < W.heap.size → w'.heap[b]? = W.heap[b]? := by
  obtain ⟨T, S, p, q, d, t, u, b⟩ := s
  have hb := b.size
  have hk := kW.size
  refine (call T (lp.below p kW) fun k hk => ⟨t k hk, lp.there p k hk⟩).mono ?_
  rintro e w' ⟨r, c, T', p', ht⟩
  refine ⟨r, ⟨T', S, p', lq.chg (lq.below q kW) c (fun k a b => d k b a), fun k hk hs => ?_, fun k hk => ?_, u, (b.trans (kW.mono hb)).trans (c.below (by omega) t)⟩, fun k h1 h2 => c.block k h2 fun h => by have := lp.there p k h; omega⟩
  · rcases ht k hk with a | a
    · exact d k a hs
    · have := lq.there q k hs
      omega
  · rcases ht k hk with a | a
    · exact t k a
    · omega

/-- The first one's call: the second one stays. -/
theorem Pair.op (lp : Lasts P) (lq : Lasts Q) (s : Pair P Q w0 w g m h n) (kW : Below w.heap.size w W) {f : Nat} {args : Array Value} {R : Ending → Prop}
    (call : ∀ T, P T W g m → (∀ k, T k → w0.heap.size ≤ k ∧ k < w.heap.size) → Calls Tryz.prog f args W fun e w' => R e ∧ Chg T W w' ∧ ∃ T', P T' w' g m' ∧ ∀ k, T' k → T k ∨ W.heap.size ≤ k) :
    Calls Tryz.prog f args W fun e w' => R e ∧ Pair P Q w0 w' g m' h n := by
  obtain ⟨T, S, p, q, d, t, u, b⟩ := s
  have hb := b.size
  have hk := kW.size
  refine (call T (lp.below p kW) fun k hk => ⟨t k hk, lp.there p k hk⟩).mono ?_
  rintro e w' ⟨r, c, T', p', ht⟩
  refine ⟨r, T', S, p', lq.chg (lq.below q kW) c (fun k a b => d k b a), fun k hk hs => ?_, fun k hk => ?_, u, (b.trans (kW.mono hb)).trans (c.below (by omega) t)⟩
  · rcases ht k hk with a | a
    · exact d k a hs
    · have := lq.there q k hs
      omega
  · rcases ht k hk with a | a
    · exact t k a
    · omega

theorem Pair.see (lp : Lasts P) (lq : Lasts Q) (s : Pair P Q w0 w g m h n) (kW : Below w.heap.size w W) {f : Nat} {args : Array Value} {R : Ending → World → Prop}
    (call : ∀ T, P T W g m → Calls Tryz.prog f args W fun e w' => R e w' ∧ Below W.heap.size W w') :
    Calls Tryz.prog f args W fun e w' => R e w' ∧ Pair P Q w0 w' g m h n ∧ Below W.heap.size W w' := by
  have s' := s.below lp lq kW
  obtain ⟨T, S, p, q, d, t, u, b⟩ := s
  refine (call T (lp.below p kW)).mono ?_
  rintro e w' ⟨r, c⟩
  exact ⟨r, s'.below lp lq c, c⟩

/-- A second one beside the first. -/
theorem Solo.beside (lp : Lasts P) (s : Solo P w0 w g m) {S : Nat → Prop} (q : Q S W h n) (k : Below w.heap.size w W) (hs : ∀ k, S k → w.heap.size ≤ k) : Pair P Q w0 W g m h n := by
  obtain ⟨T, p, t, b⟩ := s
  have hb := b.size
  exact ⟨T, S, lp.below p k, q, fun k a c => by have := lp.there p k a; have := hs k c; omega, t, fun k a => by have := hs k a; omega, b.trans (k.mono hb)⟩

end

section
variable {Dk : (Nat → Prop) → World → Nat → M.Dsk → Prop} {w0 w W : World} {g : Nat} {m : M.Dsk}

/-- A row of the call's own lies out of the disk; so does what came in. -/
theorem out_own {T : Nat → Prop} {B : Nat} {v : Value} {bs : List UInt8} (o : Own W B v bs) (ht : ∀ k, T k → k < B) : bs ≠ [] → Lies (fun b => ¬ T b) v :=
  fun _ => o.lies fun k h1 _ h => by have := ht k h; omega

theorem out_in {T : Nat → Prop} {v : Value} {bs : List UInt8} (i : IsB w0 v bs) (ht : ∀ k, T k → w0.heap.size ≤ k) : bs ≠ [] → Lies (fun b => ¬ T b) v :=
  fun hn => (i.there hn).mono fun k h1 h => by have := ht k h; omega

end

namespace M
/-- A disk whose power is there, and not armed. -/
def idle (s : List (List UInt8)) (c : List (Nat × List UInt8)) : Dsk := ⟨s, c, 0, false⟩

theorem idle_write (s : List (List UInt8)) (c : List (Nat × List UInt8)) (i : Nat) (b : List UInt8) (hi : i < s.length) (hb : b.length = 256) : (idle s c).doWrite (i : Int) b = (idle s (c ++ [(i, b)]), 0) := by
  have hok : 0 ≤ (i : Int) ∧ (i : Int) < ((idle s c).safe.length : Int) ∧ b.length = 256 := by
    refine ⟨by omega, ?_, hb⟩
    show (i : Int) < (s.length : Int)
    omega
  rw [Dsk.doWrite, if_pos hok, if_neg (show ¬ (idle s c).down = true from Bool.false_ne_true), Int.toNat_natCast]
  rfl

theorem idle_write_no (s : List (List UInt8)) (c : List (Nat × List UInt8)) (i : Int) (b : List UInt8) (h : ¬ (0 ≤ i ∧ i < (s.length : Int) ∧ b.length = 256)) : (idle s c).doWrite i b = (idle s c, 1) := by
  have hno : ¬ (0 ≤ i ∧ i < ((idle s c).safe.length : Int) ∧ b.length = 256) := h
  rw [Dsk.doWrite, if_neg hno]

theorem idle_sync (s : List (List UInt8)) (c : List (Nat × List UInt8)) : (idle s c).doSync = (idle (laid s c) [], 0) := rfl

theorem idle_crash (s : List (List UInt8)) (c : List (Nat × List UInt8)) (k : List Bool) : (idle s c).crash k = idle (kept s c k c.length) [] := rfl

theorem kept_nil (s : List (List UInt8)) (c : List (Nat × List UInt8)) : ∀ j, kept s c [] j = s
  | 0 => rfl
  | j + 1 => by rw [kept, if_neg (by simp), kept_nil s c j]

end M

end Go.Proofs.YtbgadfaiehkanaaGreatDoor
