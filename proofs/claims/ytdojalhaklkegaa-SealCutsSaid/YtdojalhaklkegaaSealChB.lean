/-
  WHAT cutChunks HANDS BACK, as rows of bytes.
-/
import Derived.Test.YtdojalhaklkegaaSealCutsM
import Derived.Test.YtdojalhaklkegaaSealCh
namespace Go.Proofs.Ytdojalhaklkegaa
open Go.RowKit Go.Maps
set_option linter.unusedVariables false
set_option maxRecDepth 100000

/-- Rows of bytes. -/
def LLB (w : World) (v : Value) (bl : List (List UInt8)) : Prop := ∃ ao cap, v = .slice ao bl.length cap ∧ ∀ i, i < bl.length →
  ∃ b off x, ao = some ⟨b, off, none⟩ ∧ w.cell? ⟨b, off + i, none⟩ = some x ∧ IsB w x (bl.getD i []) ∧ (∀ n c, x = .slice none n c → c = 0) ∧ (bl.getD i []).length ≤ 2500

theorem LLB.below {w w' : World} {v : Value} {bl : List (List UInt8)} (h : LLB w v bl) (k : Below w.heap.size w w') : LLB w' v bl := by
  obtain ⟨ao, cap, e, h⟩ := h
  refine ⟨ao, cap, e, fun i hi => ?_⟩
  obtain ⟨b, off, x, h1, h2, h3, h4, h5⟩ := h i hi
  exact ⟨b, off, x, h1, (k.cell (p := ⟨b, off + i, none⟩) (World.block_lt_of_cell? _ _ h2)).trans h2, h3.below k, h4, h5⟩

theorem els_bytes {w : World} : ∀ {xs : List Value}, (∀ x ∈ xs, El w x) → ∃ bl : List (List UInt8), bl.length = xs.length ∧ ∀ i, i < xs.length → IsB w (xs.getD i undef) (bl.getD i []) ∧ (∀ n c, xs.getD i undef = .slice none n c → c = 0) ∧ (bl.getD i []).length ≤ 2500
  | [], _ => ⟨[], rfl, fun i hi => absurd hi (Nat.not_lt_zero i)⟩
  | x :: xs, h => by
    obtain ⟨bl, h1, h2⟩ := els_bytes fun y hy => h y (List.mem_cons_of_mem _ hy)
    obtain ⟨bs, h3⟩ := h x List.mem_cons_self
    refine ⟨bs :: bl, by rw [List.length_cons, List.length_cons, h1], fun i hi => ?_⟩
    cases i with
    | zero => exact h3
    | succ i => exact h2 i (by rw [List.length_cons] at hi; omega)

theorem LLr.bytes {w : World} {v : Value} {xs : List Value} (h : LLr w v xs) : ∃ bl, LLB w v bl ∧ bl.length = xs.length := by
  obtain ⟨ao, cap, rfl, h1, h2⟩ := h
  obtain ⟨bl, h3, h4⟩ := els_bytes h2
  refine ⟨bl, ⟨ao, cap, by rw [h3], fun i hi => ?_⟩, h3⟩
  rw [h3] at hi
  obtain ⟨b, off, e, hc⟩ := h1 i hi
  exact ⟨b, off, _, e, hc, h4 i hi⟩

theorem SpLL.bytes {w : World} {B : Nat} {v : Value} {L : List (List UInt8)} {rows : List Value} (h : SpLL w B v L rows) (hn : L ≠ []) (hl : ∀ b ∈ L, b.length ≤ 2500) : LLB w v L := by
  obtain ⟨b, off, cap, rfl, h1, h2, h3, h4, h5⟩ := h.el hn hl
  refine ⟨_, cap, rfl, fun i hi => ⟨b, off, _, rfl, h4 i hi, (h.each i hi).1, (h.each i hi).2, hl _ ?_⟩⟩
  rw [List.getD_eq_getElem?_getD, List.getElem?_eq_getElem hi]
  exact List.getElem_mem _

theorem ch_bytes {W w' : World} {lv : Value} {B n r : Nat} {e : Ending} {L : List (List UInt8)} {rows : List Value} (h : ChEnds W lv n r e w') (hs : SpLL W B lv L rows) (hn : L ≠ []) (hl : ∀ b ∈ L, b.length ≤ 2500) :
    ∃ v bl, e = .returned v ∧ LLB w' v bl ∧ (bl.length ≤ n + 1 ∨ bl = L) ∧ Below W.heap.size W w' ∧ (r = 4 ∨ r = 5 ∨ r = 6 ∨ r = 7 → bl = L) := by
  obtain ⟨v, xs, rfl, h1, h2, h3, h4⟩ := h
  by_cases hr : r = 4 ∨ r = 5 ∨ r = 6 ∨ r = 7
  · obtain rfl := h4 (by omega) (by omega) (by omega) (by omega) (by omega)
    exact ⟨v, L, rfl, (hs.bytes hn hl).below h3, .inr rfl, h3, fun _ => rfl⟩
  · obtain ⟨bl, h5, h6⟩ := h1.bytes
    exact ⟨v, bl, rfl, h5, .inl (by omega), h3, fun h => absurd h hr⟩

theorem M.piece_few {b : List UInt8} {size : Nat} (h : b.length ≤ 2500) : ∀ p ∈ (List.range (M.np b.length size)).map (M.pc b size), p.length ≤ 2500 := by
  intro p hp
  obtain ⟨i, _, rfl⟩ := List.mem_map.1 hp
  rw [M.pc_len]
  omega
theorem M.pieces_some (b : List UInt8) (size : Nat) : (List.range (M.np b.length size)).map (M.pc b size) ≠ [] := by
  intro e
  have h := congrArg List.length e
  rw [List.length_map, List.length_range] at h
  have := M.np_pos b.length size
  simp at h
  omega
theorem M.pieces_len (b : List UInt8) (size : Nat) : ((List.range (M.np b.length size)).map (M.pc b size)).length = M.np b.length size := by
  rw [List.length_map, List.length_range]

end Go.Proofs.Ytdojalhaklkegaa
