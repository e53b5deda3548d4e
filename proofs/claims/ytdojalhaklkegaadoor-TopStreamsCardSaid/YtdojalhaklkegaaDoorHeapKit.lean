/-
  THINGS THAT LIVE IN SEVERAL BLOCKS: what a call may have turned (a set of blocks), what lies out of it and lasts. Nothing of the program. Conditions: none.
-/
import Derived.Test.YtdojalhaklkegaaDoorPtO
import Derived.Test.YtdojalhaklkegaaDoorShaMem
import Derived.Test.YtdojalhaklkegaaDoorWordC
import Derived.Lib.Hide
namespace Go.Proofs.YtdojalhaklkegaaDoor
open Go.RowKit
set_option linter.unusedVariables false

/-- Only blocks of F, and what is new, have turned. -/
structure Chg (F : Nat → Prop) (w w' : World) : Prop where
  os : w'.os = w.os
  tape : w'.tape = w.tape
  output : w'.output = w.output
  size : w.heap.size ≤ w'.heap.size
  block : ∀ k, k < w.heap.size → ¬ F k → w'.heap[k]? = w.heap[k]?

theorem Chg.refl (F : Nat → Prop) (w : World) : Chg F w w := ⟨rfl, rfl, rfl, Nat.le_refl _, fun _ _ _ => rfl⟩

theorem Chg.mono {F G : Nat → Prop} {w w' : World} (h : Chg F w w') (hs : ∀ k, k < w.heap.size → F k → G k) : Chg G w w' :=
  ⟨h.os, h.tape, h.output, h.size, fun k hk hg => h.block k hk fun hf => hg (hs k hk hf)⟩

theorem Chg.trans {F G : Nat → Prop} {w w1 w2 : World} (h : Chg F w w1) (h2 : Chg G w1 w2) (hs : ∀ k, k < w.heap.size → G k → F k) : Chg F w w2 :=
  ⟨h2.os.trans h.os, h2.tape.trans h.tape, h2.output.trans h.output, Nat.le_trans h.size h2.size, fun k hk hf => (h2.block k (Nat.lt_of_lt_of_le hk h.size) fun hg => hf (hs k hk hg)).trans (h.block k hk hf)⟩

theorem Chg.of_below {F : Nat → Prop} {w w' : World} (h : Below w.heap.size w w') : Chg F w w' := ⟨h.os, h.tape, h.output, h.size, fun k hk _ => h.block k hk⟩

theorem Chg.of_grown {F : Nat → Prop} {w w' : World} {row : Option Nat} (h : w.grownBy w' row) (hr : ∀ k, row = some k → F k) : Chg F w w' :=
  ⟨h.os, h.tape, h.output, h.size, fun k hk hf => h.block k hk fun e => hf (hr k e.symm)⟩

theorem Chg.drew {F : Nat → Prop} {w w' : World} (h : Chg F w w') : Chg F w w'.drew := ⟨h.os, h.tape, h.output, h.size, h.block⟩

theorem Chg.alloc {F : Nat → Prop} {w w' : World} (h : Chg F w w') (o : Obj) : Chg F w (w'.alloc o) :=
  h.trans (Chg.of_below (F := fun _ => False) ((Below.refl _ w').alloc (Nat.le_refl _) o)) (fun _ _ h => h.elim)

theorem Chg.setCell {F : Nat → Prop} {w w' : World} (h : Chg F w w') (p : Addr) (u : Value) (hp : F p.block ∨ w.heap.size ≤ p.block) : Chg F w (w'.setCell p u) :=
  ⟨h.os, h.tape, h.output, by rw [World.size_setCell]; exact h.size, fun k hk hf => by
    rw [Below.heap_setCell w' p u k (by rintro rfl; rcases hp with hp | hp; exact hf hp; omega)]
    exact h.block k hk hf⟩

theorem Chg.cell {g : Nat} {w w' : World} (h : Chg (fun b => b = g) w w') (o : Nat) (u : Value) : Chg (fun b => b = g) w (w'.setCell ⟨g, o, none⟩ u) := h.setCell ⟨g, o, none⟩ u (.inl rfl)

/-- What is below B lasts, where no block of F is. -/
theorem Chg.below {F : Nat → Prop} {w w' : World} {B : Nat} (h : Chg F w w') (hB : B ≤ w.heap.size) (hF : ∀ k, F k → B ≤ k) : Below B w w' :=
  ⟨h.os, h.tape, h.output, h.size, fun k hk => h.block k (by omega) fun hf => by have := hF k hf; omega⟩

theorem Blk.chg {F : Nat → Prop} {w w' : World} {g : Nat} {t : TypeId} {cs : List Value} (h : Blk w g t cs) (k : Chg F w w') (hg : ¬ F g) : Blk w' g t cs := (k.block g h.lt hg).trans h

theorem own_chg {F : Nat → Prop} {w w' : World} {B : Nat} {e : TypeId} {size n : Nat} {v : Value} {xs : List Value} (h : w.ownsRow B e size v n xs) (k : Chg F w w') (hg : ∀ b, v.ownBlock = some b → ¬ F b) : w'.ownsRow B e size v n xs := by
  refine ⟨h.1, ?_⟩
  rcases h.2 with hn | ⟨g, cap, cur, rfl, hb, hgg, rest⟩
  · exact .inl hn
  · exact .inr ⟨g, cap, cur, rfl, hb, (k.block g (Array.getElem?_eq_some_iff.1 hgg).1 (hg g rfl)).trans hgg, rest⟩

/-- A slice lies in blocks of S. -/
def Lies (S : Nat → Prop) (v : Value) : Prop := ∀ ad n c, v = .slice (some ad) n c → S ad.block

theorem Lies.mono {S R : Nat → Prop} {v : Value} (h : Lies S v) (hs : ∀ k, S k → R k) : Lies R v := fun ad n c e => hs _ (h ad n c e)

theorem lies_own {S : Nat → Prop} {w : World} {B n size : Nat} {e : TypeId} {v : Value} {xs : List Value} (h : w.ownsRow B e size v n xs) (hs : ∀ k, B ≤ k → k < w.heap.size → S k) : Lies S v := by
  intro ad n' c e
  have h1 := h.lt ad.block (by rw [e]; rfl)
  exact hs _ h1.1 h1.2

theorem IsB.chg {F : Nat → Prop} {w w' : World} {v : Value} {bs : List UInt8} (h : IsB w v bs) (k : Chg F w w') (hl : Lies (fun b => ¬ F b) v) : IsB w' v bs := by
  obtain ⟨ao, cap, rfl, h1, h2, h3⟩ := h
  refine ⟨ao, cap, rfl, h1, h2, ?_⟩
  rcases h3 with h | ⟨b, off, rfl, h⟩
  · exact .inl h
  · refine .inr ⟨b, off, rfl, fun i hi => ?_⟩
    have hc := h i hi
    have hb := World.block_lt_of_cell? w _ hc
    rw [World.cell?_of_block (k.block b hb (hl _ _ _ rfl)), hc]

/-- A slice of bytes lies in blocks that are there, or it has none. -/
theorem IsB.there {w : World} {v : Value} {bs : List UInt8} (h : IsB w v bs) (hn : bs ≠ []) : Lies (fun k => k < w.heap.size) v := by
  obtain ⟨ao, cap, rfl, h1, h2, h3⟩ := h
  intro ad n c e
  injection e with e1 e2 e3
  rcases h3 with h | ⟨b, off, e4, h⟩
  · exact absurd h hn
  · rw [e4] at e1
    injection e1 with e1
    subst e1
    exact World.block_lt_of_cell? w _ (h 0 (by cases bs; exact absurd rfl hn; simp))

theorem Own.lies {S : Nat → Prop} {w : World} {B : Nat} {v : Value} {bs : List UInt8} (h : Own w B v bs) (hs : ∀ k, B ≤ k → k < w.heap.size → S k) : Lies S v := lies_own h hs

/-- The value is a slice of the bools ks. -/
def IsZ (w : World) (v : Value) (ks : List Bool) : Prop := ∃ ao cap, v = .slice ao ks.length cap ∧ ks.length ≤ cap ∧ cap ≤ maxLen ∧
  (ks = [] ∨ ∃ b off, ao = some ⟨b, off, none⟩ ∧ ∀ i, i < ks.length → w.cell? ⟨b, off + i, none⟩ = some (.bool (ks.getD i false)))

theorem IsZ.chg {F : Nat → Prop} {w w' : World} {v : Value} {ks : List Bool} (h : IsZ w v ks) (k : Chg F w w') (hl : Lies (fun b => ¬ F b) v) : IsZ w' v ks := by
  obtain ⟨ao, cap, rfl, h1, h2, h3⟩ := h
  refine ⟨ao, cap, rfl, h1, h2, ?_⟩
  rcases h3 with h | ⟨b, off, rfl, h⟩
  · exact .inl h
  · refine .inr ⟨b, off, rfl, fun i hi => ?_⟩
    have hc := h i hi
    have hb := World.block_lt_of_cell? w _ hc
    rw [World.cell?_of_block (k.block b hb (hl _ _ _ rfl)), hc]

theorem IsZ.nil (w : World) : IsZ w (.slice none 0 0) [] := ⟨none, 0, rfl, Nat.le_refl _, Nat.zero_le _, .inl rfl⟩

end Go.Proofs.YtdojalhaklkegaaDoor
