/-
  A DISK WITH A ROW BESIDE IT THAT IT DOESN'T TOUCH (SoloR); a script's steps as they last; what writes make of a disk whose power isn't armed. Conditions: as each says.
-/
import Derived.Test.YtlglkiknpbfnmaaDoorDiskHeld
import Derived.OpenShut
namespace Go.Proofs.YtlglkiknpbfnmaaDoor
open Go.RowKit
set_option linter.unusedVariables false

/-- A disk in memory of its own since w0, and bytes that lie out of it. -/
def SoloR (P : (Nat → Prop) → World → Nat → M.Dsk → Prop) (w0 w : World) (g : Nat) (m : M.Dsk) (v : Value) (bs : List UInt8) : Prop :=
  ∃ T, P T w g m ∧ (∀ k, T k → w0.heap.size ≤ k) ∧ Below w0.heap.size w0 w ∧ IsB w v bs ∧ (bs ≠ [] → Lies (fun k => ¬ T k ∧ k < w.heap.size) v)

section
variable {P : (Nat → Prop) → World → Nat → M.Dsk → Prop} {w0 w W : World} {g : Nat} {m m' : M.Dsk} {v : Value} {bs : List UInt8}

theorem SoloR.under (s : SoloR P w0 w g m v bs) : Below w0.heap.size w0 w := by
  obtain ⟨T, p, t, k, _⟩ := s
  exact k

theorem SoloR.row (s : SoloR P w0 w g m v bs) : IsB w v bs := by
  obtain ⟨T, p, t, k, i, _⟩ := s
  exact i

/-- A row that was laid behind W3, on a disk that has stood since. -/
theorem Solo.with (l : Lasts P) {w3 : World} (s : Solo P w0 w3 g m) (k : Below w3.heap.size w3 w) (o : Own w w3.heap.size v bs) : SoloR P w0 w g m v bs := by
  obtain ⟨T, p, t, b⟩ := s
  exact ⟨T, l.below p k, t, b.trans (k.mono b.size), o.isB, fun _ => o.lies fun j h1 h2 => ⟨fun h => by have := l.there p j h; omega, h2⟩⟩

theorem SoloR.op (l : Lasts P) (s : SoloR P w0 w g m v bs) {f : Nat} {args : Array Value} {R : Ending → Prop}
    (call : ∀ T, P T w g m → (∀ k, T k → w0.heap.size ≤ k ∧ k < w.heap.size) → Calls Tryd.prog f args w fun e w' => R e ∧ Chg T w w' ∧ ∃ T', P T' w' g m' ∧ ∀ k, T' k → T k ∨ w.heap.size ≤ k) :
    Calls Tryd.prog f args w fun e w' => R e ∧ SoloR P w0 w' g m' v bs := by
  obtain ⟨T, p, t, b, i, hl⟩ := s
  have hb := b.size
  refine (call T p fun k hk => ⟨t k hk, l.there p k hk⟩).mono ?_
  rintro e w' ⟨r, c, T', p', ht⟩
  refine ⟨r, T', p', fun k hk => ?_, b.trans (c.below (by omega) t), ?_, fun hn => (hl hn).mono fun k hk => ⟨fun h => ?_, Nat.lt_of_lt_of_le hk.2 c.size⟩⟩
  · rcases ht k hk with q | q
    · exact t k q
    · omega
  · by_cases hn : bs = []
    · subst hn
      obtain ⟨ao, cap, rfl, h1, h2, h3⟩ := i
      exact ⟨ao, cap, rfl, h1, h2, .inl rfl⟩
    · exact i.chg c ((hl hn).mono fun k hk => hk.1)
  · rcases ht k h with q | q
    · exact hk.1 q
    · omega

theorem SoloR.see (l : Lasts P) (s : SoloR P w0 w g m v bs) {f : Nat} {args : Array Value} {R : Ending → World → Prop}
    (call : ∀ T, P T w g m → Calls Tryd.prog f args w fun e w' => R e w' ∧ Below w.heap.size w w') :
    Calls Tryd.prog f args w fun e w' => R e w' ∧ SoloR P w0 w' g m v bs ∧ Below w.heap.size w w' := by
  obtain ⟨T, p, t, b, i, hl⟩ := s
  refine (call T p).mono ?_
  rintro e w' ⟨r, c⟩
  exact ⟨r, ⟨T, l.below p c, t, b.trans (c.mono b.size), i.below c, fun hn => (hl hn).mono fun k hk => ⟨hk.1, Nat.lt_of_lt_of_le hk.2 c.size⟩⟩, c⟩

theorem SoloR.below (l : Lasts P) (s : SoloR P w0 w g m v bs) (c : Below w.heap.size w W) : SoloR P w0 W g m v bs := by
  obtain ⟨T, p, t, b, i, hl⟩ := s
  exact ⟨T, l.below p c, t, b.trans (c.mono b.size), i.below c, fun hn => (hl hn).mono fun k hk => ⟨hk.1, Nat.lt_of_lt_of_le hk.2 c.size⟩⟩

end

theorem wrap_next {k : Nat} (h : k < 1000000) : wrap64 ((k : Int) + 1) = ((k + 1 : Nat) : Int) := by unfold wrap64; omega

theorem in_i64 {n : Int} (h : (Lit.int .i64 n).wf = true) : -9223372036854775808 ≤ n ∧ n < 9223372036854775808 := by
  have := bounds_i64 h
  omega

theorem IsZ.below {w w' : World} {v : Value} {ks : List Bool} (h : IsZ w v ks) (k : Below w.heap.size w w') : IsZ w' v ks := by
  obtain ⟨ao, cap, rfl, h1, h2, h3⟩ := h
  refine ⟨ao, cap, rfl, h1, h2, ?_⟩
  rcases h3 with h | ⟨b, off, rfl, h⟩
  · exact .inl h
  · refine .inr ⟨b, off, rfl, fun i hi => ?_⟩
    exact (k.cell (p := ⟨b, off + i, none⟩) (World.block_lt_of_cell? w _ (h i hi))).trans (h i hi)

theorem StepAt.below {w w' : World} {b off : Nat} {a : M.Step} (h : StepAt w b off a) (k : Below w.heap.size w w') : StepAt w' b off a := by
  obtain ⟨bo, bc, ko, kc, c0, c1, c2, c3, ib, hn, iz, w0, w1⟩ := h
  have hb := World.block_lt_of_cell? w _ c0
  have hc : ∀ j, w'.cell? ⟨b, j, none⟩ = w.cell? ⟨b, j, none⟩ := fun j => k.cell (p := ⟨b, j, none⟩) hb
  exact ⟨bo, bc, ko, kc, (hc _).trans c0, (hc _).trans c1, (hc _).trans c2, (hc _).trans c3, ib.below k, hn, iz.below k, w0, w1⟩

theorem M.small_get {l : List M.Step} (h : M.small l = true) (i : Nat) (hi : i < l.length) (h6 : i < 60) : (l.getD i M.Step.none).bytes.length ≤ 1000 ∧ (l.getD i M.Step.none).keep.length ≤ 1000 := by
  have := List.all_eq_true.1 h (l.getD i M.Step.none) (by
    rw [List.getD_eq_getElem?_getD, List.getElem?_eq_getElem hi]
    exact List.mem_take_iff_getElem.2 ⟨i, by omega, rfl⟩)
  simpa [M.Step.small] using this

namespace M
theorem idle_some (s : List (List UInt8)) (c : List (Nat × List UInt8)) (i : Int) (b : List UInt8) : ∃ c', ((idle s c).doWrite i b).1 = idle s c' ∧ c'.length ≤ c.length + 1 := by
  by_cases h : 0 ≤ i ∧ i < (s.length : Int) ∧ b.length = 256
  · obtain ⟨j, rfl⟩ := Int.eq_ofNat_of_zero_le h.1
    rw [idle_write s c j b (by have := h.2.1; omega) h.2.2]
    exact ⟨_, rfl, by simp⟩
  · rw [idle_write_no s c i b h]
    exact ⟨c, rfl, by omega⟩

/-- Block k behind a row of writes was laid is what was seen. -/
theorem laid_get (k : Nat) : ∀ (c : List (Nat × List UInt8)) (s : List (List UInt8)), k < s.length → (laid s c).getD k [] = seen k (s.getD k []) c
  | [], s, _ => rfl
  | x :: c, s, hk => by
    rw [laid, laid_get k c _ (by rw [List.length_set]; exact hk), seen]
    congr 1
    by_cases h : x.1 = k
    · rw [if_pos h, h, List.getD_eq_getElem?_getD, List.getElem?_set_self hk]
      rfl
    · rw [if_neg h, List.getD_eq_getElem?_getD, List.getElem?_set_ne h, ← List.getD_eq_getElem?_getD]

theorem laid_len (c : List (Nat × List UInt8)) : ∀ (s : List (List UInt8)), (laid s c).length = s.length := by
  induction c with
  | nil => intro s; rfl
  | cons y c ih => intro s; rw [laid, ih, List.length_set]
end M

end Go.Proofs.YtlglkiknpbfnmaaDoor
