/-
  SLICES OF INTS: the call's own or come in; one or more ints appended; made. Conditions: none.
-/
import Derived.Test.YtdojalhaklkegaaDoorShaMem
import Derived.Deep.RegionLaw
namespace Go.Proofs.YtdojalhaklkegaaDoor
open Go.RowKit
set_option linter.unusedVariables false

/-- An int as a cell. -/
def ci (x : Nat) : Value := .int .i64 (x : Int)

def ic (l : List Nat) : List Value := l.map ci

theorem ic_length (l : List Nat) : (ic l).length = l.length := by simp [ic]

theorem ic_append (a b : List Nat) : ic (a ++ b) = ic a ++ ic b := by simp [ic]

theorem ic_get (l : List Nat) (i : Nat) (h : i < l.length) : (ic l)[i]? = some (.int .i64 ((l.getD i 0 : Nat) : Int)) := by
  simp [ic, ci, h]

theorem ic_set (s : List Nat) (i : Nat) (x : Nat) : (ic s).set i (ci x) = ic (s.set i x) := by
  rw [ic, ic, List.map_set]

theorem ic_oneCell (l : List Nat) : ∀ u ∈ ic l, u.oneCell' = true := by
  intro u hu
  obtain ⟨_, _, rfl⟩ := List.mem_map.1 hu
  rfl

theorem ic_zero (n : Nat) : List.replicate n (Value.int .i64 0) = ic (List.replicate n 0) := by simp [ic, ci]

/-- The value is a slice of the words ws. -/
def IsI (w : World) (v : Value) (ws : List Nat) : Prop :=
  ∃ ao cap, v = .slice ao ws.length cap ∧ ws.length ≤ cap ∧ cap ≤ maxLen ∧ (ws = [] ∨ ∃ b off, ao = some ⟨b, off, none⟩ ∧ ∀ i, i < ws.length → w.cell? ⟨b, off + i, none⟩ = some (.int .i64 ((ws.getD i 0 : Nat) : Int)))

/-- The value is a slice of the words ws, a row of the call's own. -/
def OwnI (w : World) (B : Nat) (v : Value) (ws : List Nat) : Prop := w.ownsRow B 3 1 v ws.length (ic ws)

/-- The call hands back the words ws in memory of its own; what was there stands. -/
def MakesI (w : World) (ws : List Nat) (e : Ending) (w' : World) : Prop := ∃ r, e = .returned r ∧ OwnI w' w.heap.size r ws ∧ Below w.heap.size w w'

theorem OwnI.isI {w : World} {B : Nat} {v : Value} {ws : List Nat} (h : OwnI w B v ws) : IsI w v ws := by
  rcases h.2 with ⟨rfl, hn⟩ | ⟨g, cap, cur, rfl, hb, hg, hn, hm, hs, ht⟩
  · have : ws = [] := List.eq_nil_of_length_eq_zero hn
    subst this
    exact ⟨none, 0, rfl, Nat.le_refl _, Nat.zero_le _, .inl rfl⟩
  · refine ⟨_, cap, rfl, hn, hm, .inr ⟨g, 0, rfl, fun i hi => ?_⟩⟩
    have h' : w.ownsRow B 3 1 (.slice (some ⟨g, 0, none⟩) ws.length cap) ws.length (ic ws) := ⟨h.1, .inr ⟨g, cap, cur, rfl, hb, hg, hn, hm, hs, ht⟩⟩
    rw [Nat.zero_add, h'.cellAt i (by omega)]
    exact ic_get ws i hi

theorem OwnI.below {w w' : World} {B : Nat} {v : Value} {ws : List Nat} (h : OwnI w B v ws) (k : Below w.heap.size w w') : OwnI w' B v ws := by
  refine ⟨h.1, ?_⟩
  rcases h.2 with hn | ⟨g, cap, cur, rfl, hb, hg, rest⟩
  · exact .inl hn
  · refine .inr ⟨g, cap, cur, rfl, hb, ?_, rest⟩
    rw [k.block g (Array.getElem?_eq_some_iff.1 hg).1]
    exact hg

theorem OwnI.mono {w : World} {B B' : Nat} {v : Value} {ws : List Nat} (h : OwnI w B v ws) (hb : B' ≤ B) : OwnI w B' v ws := by
  refine ⟨h.1, ?_⟩
  rcases h.2 with hn | ⟨g, cap, cur, rfl, hg, rest⟩
  · exact .inl hn
  · exact .inr ⟨g, cap, cur, rfl, Nat.le_trans hb hg, rest⟩

theorem IsI.below {w w' : World} {v : Value} {ws : List Nat} (h : IsI w v ws) (k : Below w.heap.size w w') : IsI w' v ws := by
  obtain ⟨ao, cap, rfl, h1, h2, h3⟩ := h
  refine ⟨ao, cap, rfl, h1, h2, ?_⟩
  rcases h3 with h | ⟨b, off, rfl, h⟩
  · exact .inl h
  · refine .inr ⟨b, off, rfl, fun i hi => ?_⟩
    have hc := h i hi
    rw [k.cell (by exact World.block_lt_of_cell? w _ hc)]
    exact hc

/-- A slice of at least one word: where it lies. -/
theorem IsI.at_ {w : World} {v : Value} {ws : List Nat} (h : IsI w v ws) (hne : 0 < ws.length) :
    ∃ b off cap, v = .slice (some ⟨b, off, none⟩) ws.length cap ∧ ∀ i, i < ws.length → w.cell? ⟨b, off + i, none⟩ = some (.int .i64 ((ws.getD i 0 : Nat) : Int)) := by
  obtain ⟨ao, cap, rfl, h1, h2, h3⟩ := h
  rcases h3 with h | ⟨b, off, rfl, h⟩
  · subst h; simp at hne
  · exact ⟨b, off, cap, rfl, h⟩

theorem ownI_nil (w : World) (B : Nat) : OwnI w B (.slice none 0 0) [] := World.ownsRow_nil _ _ _ _

theorem ownI_lit (w : World) (B : Nat) (cs : Array Value) (ws : List Nat) (hB : B ≤ w.heap.size) (e : cs.toList = ic ws) (hm : ws.length ≤ maxLen) :
    OwnI (w.alloc (.cells cs 3)) B (.slice (some ⟨w.heap.size, 0, none⟩) ws.length ws.length) ws := by
  have hsz : cs.size = ws.length := by rw [← Array.length_toList, e, ic_length]
  refine ⟨by rw [ic_length, Nat.mul_one], .inr ⟨w.heap.size, ws.length, cs, rfl, hB, heap_alloc_new w _, Nat.le_refl _, hm, by rw [hsz, Nat.mul_one], ?_⟩⟩
  rw [e, List.take_of_length_le (by rw [ic_length, Nat.mul_one]; exact Nat.le_refl _)]

theorem Tryd.info47 : (Tryd.prog.info? 3).map (fun i => (i.zero, i.size, i.bytes)) = some (some (.int .i64 0), 1, 8) := by kernel_rfl

end Go.Proofs.YtdojalhaklkegaaDoor
