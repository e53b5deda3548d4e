/-
  TWO DISKS AND A BLOCK BESIDE THEM (PairF): what a call on one leaves alone; the reference's calls in the code's words; how many writes wait behind a step. Conditions: as each says.
-/
import Derived.Test.YtlglkiknpbfnmaaDoorDiskRow
namespace Go.Proofs.YtlglkiknpbfnmaaDoor
open Go.RowKit
set_option linter.unusedVariables false

/-- As Pair; block y is none of either's. -/
def PairF (P Q : (Nat → Prop) → World → Nat → M.Dsk → Prop) (w0 w : World) (g : Nat) (m : M.Dsk) (h : Nat) (n : M.Dsk) (y : Nat) : Prop :=
  ∃ T S, P T w g m ∧ Q S w h n ∧ (∀ k, T k → ¬ S k) ∧ (∀ k, T k → w0.heap.size ≤ k) ∧ (∀ k, S k → w0.heap.size ≤ k) ∧ Below w0.heap.size w0 w ∧ ¬ T y ∧ ¬ S y ∧ y < w.heap.size

section
variable {P Q : (Nat → Prop) → World → Nat → M.Dsk → Prop} {w0 w W : World} {g h y : Nat} {m n m' : M.Dsk}

theorem Pair.free (lp : Lasts P) (lq : Lasts Q) (s : Pair P Q w0 w g m h n) (k : Below w.heap.size w W) (h1 : w.heap.size ≤ y) (h2 : y < W.heap.size) : PairF P Q w0 W g m h n y := by
  obtain ⟨T, S, p, q, d, t, u, b⟩ := s
  exact ⟨T, S, lp.below p k, lq.below q k, d, t, u, b.trans (k.mono b.size), fun a => by have := lp.there p y a; omega, fun a => by have := lq.there q y a; omega, h2⟩

theorem PairF.pair (s : PairF P Q w0 w g m h n y) : Pair P Q w0 w g m h n := by
  obtain ⟨T, S, p, q, d, t, u, b, _⟩ := s
  exact ⟨T, S, p, q, d, t, u, b⟩

theorem PairF.swap (s : PairF P Q w0 w g m h n y) : PairF Q P w0 w h n g m y := by
  obtain ⟨T, S, p, q, d, t, u, k, a, b, c⟩ := s
  exact ⟨S, T, q, p, fun k a b => d k b a, u, t, k, b, a, c⟩

theorem PairF.under (s : PairF P Q w0 w g m h n y) : Below w0.heap.size w0 w := s.pair.under

theorem PairF.op (lp : Lasts P) (lq : Lasts Q) (s : PairF P Q w0 w g m h n y) (kW : Below w.heap.size w W) {f : Nat} {args : Array Value} {R : Ending → Prop}
    (call : ∀ T, P T W g m → (∀ k, T k → w0.heap.size ≤ k ∧ k < w.heap.size) → Calls Tryd.prog f args W fun e w' => R e ∧ Chg T W w' ∧ ∃ T', P T' w' g m' ∧ ∀ k, T' k → T k ∨ W.heap.size ≤ k) :
    Calls Tryd.prog f args W fun e w' => R e ∧ PairF P Q w0 w' g m' h n y ∧ w'.heap[y]? = w.heap[y]? := by
  obtain ⟨T, S, p, q, d, t, u, b, n1, n2, yw⟩ := s
  have hb := b.size
  have hk := kW.size
  refine (call T (lp.below p kW) fun k hk => ⟨t k hk, lp.there p k hk⟩).mono ?_
  rintro e w' ⟨r, c, T', p', ht⟩
  refine ⟨r, ⟨T', S, p', lq.chg (lq.below q kW) c (fun k a b => d k b a), fun k hk hs => ?_, fun k hk => ?_, u, (b.trans (kW.mono hb)).trans (c.below (by omega) t), fun a => ?_, n2, by have := c.size; omega⟩, (c.block y (by omega) n1).trans (kW.block y yw)⟩
  · rcases ht k hk with a | a
    · exact d k a hs
    · have := lq.there q k hs
      omega
  · rcases ht k hk with a | a
    · exact t k a
    · omega
  · rcases ht y a with a | a
    · exact n1 a
    · omega

end

theorem IsZ.there {w : World} {v : Value} {ks : List Bool} (h : IsZ w v ks) (hn : ks ≠ []) : Lies (fun k => k < w.heap.size) v := by
  obtain ⟨ao, cap, rfl, h1, h2, h3⟩ := h
  intro ad n c e
  injection e with e1 e2 e3
  rcases h3 with h | ⟨b, off, e4, h⟩
  · exact absurd h hn
  · rw [e4] at e1
    injection e1 with e1
    subst e1
    exact World.block_lt_of_cell? w _ (h 0 (by cases ks; exact absurd rfl hn; simp))

theorem out_z {w0 : World} {T : Nat → Prop} {v : Value} {ks : List Bool} (i : IsZ w0 v ks) (ht : ∀ k, T k → w0.heap.size ≤ k) : ks ≠ [] → Lies (fun b => ¬ T b) v :=
  fun hn => (i.there hn).mono fun k h1 h => by have := ht k h; omega

namespace M
theorem wait_goes (m : Dsk) : m.goes.1.wait = m.wait := by rw [Dsk.goes]; split; rfl; split <;> rfl

theorem wait_write (m : Dsk) (i : Int) (b : List UInt8) : (m.doWrite i b).1.wait.length ≤ m.wait.length + 1 := by
  rw [Dsk.doWrite]
  split
  · split
    · exact Nat.le_succ _
    · show (m.write i.toNat b).wait.length ≤ _
      rw [Dsk.write, wait_goes, List.length_append]
      exact Nat.le_refl _
  · exact Nat.le_succ _

theorem wait_sync (m : Dsk) : m.doSync.1.wait.length ≤ m.wait.length + 1 := by
  rw [Dsk.doSync]
  split
  · exact Nat.le_succ _
  · split
    · show m.goes.1.wait.length ≤ _
      rw [wait_goes]
      exact Nat.le_succ _
    · exact Nat.zero_le _
end M

end Go.Proofs.YtlglkiknpbfnmaaDoor
