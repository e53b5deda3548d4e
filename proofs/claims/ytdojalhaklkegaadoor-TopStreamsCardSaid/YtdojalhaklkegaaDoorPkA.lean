/-
  PLAIN MATHEMATICS OF LAYER 9: what a disk is, and what each call makes of it. Nothing of the program. Conditions: none.
  THE REFERENCE'S DISK IN MEMORY (RefAt): its struct's block, the row of safe blocks, the row of writes that wait; contracts of goes, Arm. Conditions: the disk lies so.
  CONTRACTS OF THE REFERENCE'S Write. Conditions: the disk lies so; what is written lies out of it; fewer than a million writes wait.
  CONTRACTS OF THE REFERENCE'S DISK: what Write refuses, Arm, Sync. Conditions: the disk lies so.
  CONTRACT OF THE REFERENCE'S Sync. Conditions: the disk lies so.
  CONTRACTS OF THE REFERENCE'S DISK: what Write and Sync refuse; Image, Same. Conditions: the disk lies so.
  CONTRACT OF THE REFERENCE'S Crash. Conditions: the disk lies so; the list of what is kept lies out of it.
  CONTRACTS OF THE REFERENCE'S Read, Image, Same. Conditions: the disk lies so.
  CONTRACT OF THE REFERENCE'S Tamper. Conditions: the disk lies so; the bytes lie out of it, fewer than 2^40.
-/
import Derived.Test.YtdojalhaklkegaaDoorPtN
import Derived.Test.YtdojalhaklkegaaDoorHeapKit
import Derived.Test.YtdojalhaklkegaaDoorPtQ
import Derived.StillTailTactics
import Derived.Test.YtdojalhaklkegaaDoorRefA

namespace Go.Proofs.YtdojalhaklkegaaDoor.M
set_option linter.unusedVariables false

/-- A disk: its safe blocks, the writes that wait, how many acts till the power goes (0: none), whether it is gone. -/
structure Dsk where
  safe : List (List UInt8)
  wait : List (Nat × List UInt8)
  left : Nat
  down : Bool

/-- All blocks have 256 bytes, and each write is of one of them. -/
structure Dsk.Ok (d : Dsk) : Prop where
  few : d.safe.length ≤ 2176
  full : ∀ b ∈ d.safe, b.length = 256
  wat : ∀ c ∈ d.wait, c.1 < d.safe.length ∧ c.2.length = 256

def zero256 : List UInt8 := List.replicate 256 0

/-- A new disk of n blocks. -/
def dnew (n : Nat) : Dsk := ⟨List.replicate (min n 2176) zero256, [], 0, false⟩

/-- A row of bytes cut into n blocks. -/
def cut256 (b : List UInt8) : Nat → List (List UInt8)
  | 0 => []
  | n + 1 => cut256 b n ++ [(b.drop (256 * n)).take 256]

def dload (b : List UInt8) : Dsk := ⟨cut256 b (b.length / 256), [], 0, false⟩

/-- An act begins: does the power go in it? -/
def Dsk.goes (d : Dsk) : Dsk × Bool :=
  if d.left = 0 then (d, false) else if d.left = 1 then ({ d with left := 0, down := true }, true) else ({ d with left := d.left - 1 }, d.down)

def Dsk.write (d : Dsk) (i : Nat) (b : List UInt8) : Dsk := (({ d with wait := d.wait ++ [(i, b)] } : Dsk).goes).1
def Dsk.wrote (d : Dsk) : Bool := d.goes.2

/-- The blocks with a row of writes laid on them. -/
def laid (s : List (List UInt8)) : List (Nat × List UInt8) → List (List UInt8)
  | [] => s
  | c :: r => laid (s.set c.1 c.2) r

/-- .. the first j of them, those that are kept. -/
def kept (s : List (List UInt8)) (c : List (Nat × List UInt8)) (k : List Bool) : Nat → List (List UInt8)
  | 0 => s
  | j + 1 => if k.getD j false = true then (kept s c k j).set (c.getD j (0, [])).1 (c.getD j (0, [])).2 else kept s c k j

/-- The last write of a block, or else it. -/
def seen (i : Nat) (b : List UInt8) : List (Nat × List UInt8) → List UInt8
  | [] => b
  | c :: r => seen i (if c.1 = i then c.2 else b) r

def Dsk.read (d : Dsk) (i : Nat) : List UInt8 := seen i (d.safe.getD i []) d.wait
def Dsk.synced (d : Dsk) : Dsk := { d with safe := laid d.safe d.wait, wait := [] }
def Dsk.arm (d : Dsk) (n : Int) : Dsk := { d with left := n.toNat }
def Dsk.crash (d : Dsk) (k : List Bool) : Dsk := ⟨kept d.safe d.wait k d.wait.length, [], 0, false⟩

/-- The byte at a place turned. -/
def turned1 (s : List (List UInt8)) (p : Nat) (x : UInt8) : List (List UInt8) := s.set (p / 256) ((s.getD (p / 256) []).set (p % 256) x)

/-- The first j bytes of b laid at the place at on, as far as there are places. -/
def turns (s : List (List UInt8)) (at_ : Int) (b : List UInt8) : Nat → List (List UInt8)
  | 0 => s
  | j + 1 => if 0 ≤ at_ + j ∧ at_ + j < 256 * s.length then turned1 (turns s at_ b j) (at_ + j).toNat (b.getD j 0) else turns s at_ b j

def Dsk.tamper (d : Dsk) (at_ : Int) (b : List UInt8) : Dsk := { d with safe := turns d.safe at_ b b.length }
def Dsk.image (d : Dsk) : List UInt8 := d.safe.flatten

end Go.Proofs.YtdojalhaklkegaaDoor.M

namespace Go.Proofs.YtdojalhaklkegaaDoor
open Go.RowKit
set_option linter.unusedVariables false

/-- Writes as cells: a number and a slice each. -/
def chgs : List (Nat × List UInt8) → List Value → List Value
  | c :: r, d :: s => .int .i64 (c.1 : Int) :: d :: chgs r s
  | _, _ => []

theorem chgs_length : ∀ (c : List (Nat × List UInt8)) (d : List Value), d.length = c.length → (chgs c d).length = c.length * 2
  | [], [], _ => rfl
  | c :: r, d :: s, h => by
    have := chgs_length r s (by simpa using h)
    simp only [chgs, List.length_cons, this]
    omega

theorem chgs_append : ∀ (c : List (Nat × List UInt8)) (d : List Value) (x : Nat × List UInt8) (y : Value), d.length = c.length → chgs (c ++ [x]) (d ++ [y]) = chgs c d ++ [.int .i64 (x.1 : Int), y]
  | [], [], _, _, _ => rfl
  | c :: r, d :: s, x, y, h => by
    have := chgs_append r s x y (by simpa using h)
    simp only [chgs, List.cons_append, this]

theorem chgs_get : ∀ (c : List (Nat × List UInt8)) (d : List Value) (j : Nat), d.length = c.length → j < c.length → (chgs c d)[2 * j]? = some (.int .i64 ((c.getD j (0, [])).1 : Int)) ∧ (chgs c d)[2 * j + 1]? = some (d.getD j undef)
  | c :: r, d :: s, 0, h, _ => ⟨rfl, rfl⟩
  | c :: r, d :: s, j + 1, h, hj => by
    have := chgs_get r s j (by simpa using h) (by simpa using hj)
    rw [show 2 * (j + 1) = 2 * j + 1 + 1 by omega, chgs, List.getElem?_cons_succ, List.getElem?_cons_succ, List.getElem?_cons_succ, List.getElem?_cons_succ]
    exact this

/-- The blocks of T but the struct's and the two rows'. -/
def RefS (T : Nat → Prop) (g : Nat) (sv wv : Value) (k : Nat) : Prop := T k ∧ k ≠ g ∧ sv.ownBlock ≠ some k ∧ wv.ownBlock ≠ some k

theorem Chg.one {T : Nat → Prop} {w w' : World} {g : Nat} (h : Chg (fun b => b = g) w w') (hg : T g) : Chg T w w' := h.mono fun k _ e => e ▸ hg

end Go.Proofs.YtdojalhaklkegaaDoor

namespace Go.Proofs.YtdojalhaklkegaaDoor
open Go.RowKit
set_option linter.unusedVariables false

theorem M.Ok_push {m : M.Dsk} (h : m.Ok) {i : Nat} {bs : List UInt8} (hi : i < m.safe.length) (hl : bs.length = 256) : ({ m with wait := m.wait ++ [(i, bs)] } : M.Dsk).Ok :=
  ⟨h.few, h.full, fun c hc => by
    rcases List.mem_append.1 hc with hc | hc
    · exact h.wat c hc
    · simp only [List.mem_singleton] at hc
      subst hc
      exact ⟨hi, hl⟩⟩

/-- Blocks of T, and new ones. -/
def Grown (T : Nat → Prop) (w w' : World) (k : Nat) : Prop := (T k ∨ w.heap.size ≤ k) ∧ k < w'.heap.size

theorem getD_snoc {α : Type} (l : List α) (x d : α) (i : Nat) (h : i < l.length + 1) : (l ++ [x]).getD i d = if i < l.length then l.getD i d else x := by
  by_cases hi : i < l.length
  · rw [if_pos hi, List.getD_eq_getElem?_getD, List.getElem?_append_left hi, ← List.getD_eq_getElem?_getD]
  · obtain rfl : i = l.length := by omega
    rw [if_neg hi, List.getD_eq_getElem?_getD, List.getElem?_append_right (Nat.le_refl _), Nat.sub_self]
    rfl

theorem ownShape {w : World} {B n size : Nat} {e : TypeId} {v : Value} {xs : List Value} (h : w.ownsRow B e size v n xs) : ∃ ao cap, v = .slice ao n cap := by
  rcases h.2 with ⟨rfl, rfl⟩ | ⟨g, cap, cur, rfl, _⟩
  · exact ⟨none, 0, rfl⟩
  · exact ⟨_, cap, rfl⟩

end Go.Proofs.YtdojalhaklkegaaDoor

namespace Go.Proofs.YtdojalhaklkegaaDoor
open Go.RowKit
set_option linter.unusedVariables false

theorem getD_set8 {α : Type} (l : List α) (b i : Nat) (x d : α) (hb : b < l.length) : (l.set b x).getD i d = if i = b then x else l.getD i d := by
  by_cases h : i = b
  · subst h
    rw [if_pos rfl, List.getD_eq_getElem?_getD, List.getElem?_set_self hb]
    rfl
  · rw [if_neg h, List.getD_eq_getElem?_getD, List.getElem?_set_ne (fun e => h e.symm), ← List.getD_eq_getElem?_getD]

theorem M.laid_snoc (s : List (List UInt8)) (c : List (Nat × List UInt8)) (x : Nat × List UInt8) : M.laid s (c ++ [x]) = (M.laid s c).set x.1 x.2 := by
  induction c generalizing s with
  | nil => rfl
  | cons y c ih => exact ih _

theorem M.laid_length (s : List (List UInt8)) (c : List (Nat × List UInt8)) : (M.laid s c).length = s.length := by
  induction c generalizing s with
  | nil => rfl
  | cons y c ih => rw [M.laid, ih, List.length_set]

end Go.Proofs.YtdojalhaklkegaaDoor

namespace Go.Proofs.YtdojalhaklkegaaDoor
open Go.RowKit
set_option linter.unusedVariables false

/-- The rows behind the first j writes that wait. -/
def laidV (rows : List Value) : List (Nat × List UInt8) → List Value → List Value
  | c :: r, d :: s => laidV (rows.set c.1 d) r s
  | _, _ => rows

theorem ownCells {w : World} {B n size cap : Nat} {e : TypeId} {ao : Option Addr} {xs : List Value} (h : w.ownsRow B e size (.slice ao n cap) n xs) (hn : 0 < n) :
    ∃ b, ao = some ⟨b, 0, none⟩ ∧ (n ≤ cap ∧ cap ≤ maxLen) ∧ (∀ k, k < xs.length → w.cell? ⟨b, k, none⟩ = xs[k]?) ∧ ∀ k, w.frozen? ⟨b, k, none⟩ = false := by
  rcases h.2 with ⟨_, h0⟩ | ⟨g, cap', cur, e1, hb, hg, hc, hm, hs, ht⟩
  · omega
  · injection e1 with e1 e2 e3
    subst e3
    refine ⟨g, e1, ⟨hc, hm⟩, fun k hk => ?_, fun k => frozen_of_row w g k _ e hg⟩
    rw [cell_of_row w g k cur e (0, 0) hg, ← ht, List.getElem?_take, if_pos (by have := h.1; omega)]
    simp

end Go.Proofs.YtdojalhaklkegaaDoor

namespace Go.Proofs.YtdojalhaklkegaaDoor
open Go.RowKit
set_option linter.unusedVariables false

end Go.Proofs.YtdojalhaklkegaaDoor

namespace Go.Proofs.YtdojalhaklkegaaDoor
open Go.RowKit
set_option linter.unusedVariables false

theorem M.kept_length (s : List (List UInt8)) (c : List (Nat × List UInt8)) (k : List Bool) (j : Nat) : (M.kept s c k j).length = s.length := by
  induction j with
  | zero => rfl
  | succ j ih =>
    rw [M.kept]
    split
    · rw [List.length_set, ih]
    · exact ih

end Go.Proofs.YtdojalhaklkegaaDoor

namespace Go.Proofs.YtdojalhaklkegaaDoor
open Go.RowKit
set_option linter.unusedVariables false

theorem M.seen_snoc (i : Nat) (b : List UInt8) (c : List (Nat × List UInt8)) (x : Nat × List UInt8) : M.seen i b (c ++ [x]) = if x.1 = i then x.2 else M.seen i b c := by
  induction c generalizing b with
  | nil => rfl
  | cons y c ih => exact ih _

theorem M.seen_length (i : Nat) : ∀ (c : List (Nat × List UInt8)) (b : List UInt8), b.length = 256 → (∀ x ∈ c, x.2.length = 256) → (M.seen i b c).length = 256
  | [], b, h, _ => h
  | y :: c, b, h, hc => M.seen_length i c _ (by split; exact hc y (by simp); exact h) fun x hx => hc x (by simp [hx])

theorem not_nil_of {w : World} {v : Value} {bs : List UInt8} (h : IsB w v bs) (hl : bs.length = 256) : ∀ n c, v = .slice none n c → c = 0 := by
  intro n c e
  obtain ⟨ao, cap, e2, h1, h2, h3⟩ := h
  rcases h3 with h | ⟨b, off, h4, h⟩
  · rw [h] at hl; simp at hl
  · rw [h4] at e2; rw [e2] at e; cases e

theorem flat_take (l : List (List UInt8)) (j : Nat) (h : j < l.length) : (l.take (j + 1)).flatten = (l.take j).flatten ++ l.getD j [] := by
  rw [List.take_add_one, List.getElem?_eq_getElem h, List.flatten_append, List.getD_eq_getElem?_getD, List.getElem?_eq_getElem h]
  simp

theorem flat_length : ∀ (l : List (List UInt8)), (∀ b ∈ l, b.length = 256) → l.flatten.length = 256 * l.length
  | [], _ => rfl
  | b :: l, h => by
    rw [List.flatten_cons, List.length_append, flat_length l fun c hc => h c (by simp [hc]), h b (by simp), List.length_cons]
    omega

end Go.Proofs.YtdojalhaklkegaaDoor

namespace Go.Proofs.YtdojalhaklkegaaDoor
open Go.RowKit
set_option linter.unusedVariables false

theorem M.turns_length (s : List (List UInt8)) (at_ : Int) (b : List UInt8) (j : Nat) : (M.turns s at_ b j).length = s.length := by
  induction j with
  | zero => rfl
  | succ j ih =>
    rw [M.turns]
    split
    · rw [M.turned1, List.length_set, ih]
    · exact ih

theorem bc_set8 (bs : List UInt8) (i : Nat) (u : UInt8) : (Lib.byteCells bs).set i (.int .u8 (u.toNat : Int)) = Lib.byteCells (bs.set i u) := by
  simp [Lib.byteCells, List.map_set]


end Go.Proofs.YtdojalhaklkegaaDoor
