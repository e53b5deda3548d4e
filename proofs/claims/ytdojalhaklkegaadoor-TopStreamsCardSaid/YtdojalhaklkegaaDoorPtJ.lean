/-
  CONTRACT OF orloplaw17.awake. Conditions: none.
  THE MATHEMATICS OF TopStreams: of a book's one sealed layer a beginning isn't opened. Conditions: none.
-/
import Derived.Test.YtdojalhaklkegaaDoorSealE
import Derived.Lib.SmallJoins
import Derived.Lib.Builder

namespace Go.Proofs.YtdojalhaklkegaaDoor
open Go.RowKit Go.Maps
set_option linter.unusedVariables false
set_option maxRecDepth 100000

theorem isB_lit17 (w : World) (bs : List UInt8) (t : TypeId) (fr : Nat × Nat) (h : bs.length ≤ 1000) : IsB (w.alloc (.cells (Lib.byteCells bs).toArray t fr)) (.slice (some ⟨w.heap.size, 0, none⟩) bs.length bs.length) bs := by
  refine ⟨_, bs.length, rfl, Nat.le_refl _, by unfold maxLen; omega, .inr ⟨w.heap.size, 0, rfl, fun i hi => ?_⟩⟩
  rw [Nat.zero_add, ← byteCells_getElem? bs i hi]
  have := Lib.cell_of_heap (w := w.alloc (.cells (Lib.byteCells bs).toArray t fr)) (heap_alloc_new w (.cells (Lib.byteCells bs).toArray t fr)) i
  rw [this]
  simp

namespace M
theorem bget_sbk_len {key pre ctx layer : List UInt8} {size : Nat} (hs : size ≤ 65536) {L : Bk} (hL : ∀ sl t, bget L sl = some t → t.length ≤ 65536) (k : Nat) : ∀ sl t, bget (sbk L key pre ctx layer size k) sl = some t → t.length ≤ 65536 := by
  induction k with
  | zero => exact hL
  | succ k ih =>
    intro sl t h
    rw [sbk, bget] at h
    split at h
    · injection h with h
      rw [← h]
      show (pc layer size k).length ≤ 65536
      rw [pc_len]
      omega
    · exact ih sl t h
end M

def aw17L : List UInt8 := [48, 49, 50, 51, 52, 53, 54, 55, 56, 57]
def aw17P : List UInt8 := List.replicate 7 0
def aw17K : List UInt8 := List.replicate 32 0
theorem aw17_np : M.np aw17L.length 4 = 3 := by decide
theorem aw17_open : M.orun (M.bookB [] aw17K aw17P [] aw17L 4) aw17K [] (M.sealB 0 aw17P aw17L 4) (M.onp (M.sealB 0 aw17P aw17L 4)) = some aw17L :=
  M.sealed_opens 0 (by decide) (by decide) (by decide) (M.sbk_ok [] _ _ _ _ _ trivial _ (by rw [aw17_np]; decide)) (fun i hi => M.sbk_mem.2 (.inr ⟨i, hi, rfl⟩))
theorem aw17_cut : M.oOk (M.sealB 0 aw17P aw17L 4) := (M.sealed_cut 0 (by decide) (by decide) (by decide)).2.2.1
theorem aw17_len : (M.sealB 0 aw17P aw17L 4).length = 70 := by rw [M.sealB_len (by decide) _ _ _ (by decide), aw17_np]; decide
theorem aw17_nil : ¬ M.oOk [] := fun h => absurd h.1 (by decide)

end Go.Proofs.YtdojalhaklkegaaDoor

namespace Go.Proofs.YtdojalhaklkegaaDoor
set_option linter.unusedVariables false
set_option maxRecDepth 100000

namespace M
theorem other_pre {p : List UInt8} : ∃ q : List UInt8, q.length = 7 ∧ p ≠ q := by
  by_cases h : p = List.replicate 7 0
  · exact ⟨List.replicate 7 1, rfl, by rw [h]; decide⟩
  · exact ⟨List.replicate 7 0, rfl, h⟩

theorem book1_get {key p ctx layer : List UInt8} {size : Nat} : ∀ sl t, bget (bookB [] key p ctx layer size) sl = some t → ∃ j, j < np layer.length size ∧ sl = (ent 0 key p ctx layer size j).1 := by
  intro sl t h
  have hm := bget_mem h
  unfold bookB at hm
  rcases sbk_mem.1 hm with hm | ⟨j, hj, e⟩
  · cases hm
  · exact ⟨j, hj, congrArg Prod.fst e⟩

theorem book1_opens {key p ctx layer : List UInt8} {size : Nat} (hp : p.length = 7) (h1 : 1 ≤ size) (h2 : size ≤ 65536) (h : np layer.length size ≤ 1000000) :
    orun (bookB [] key p ctx layer size) key ctx (sealB 0 p layer size) (onp (sealB 0 p layer size)) = some layer :=
  sealed_opens 0 hp h1 h2 (sbk_ok [] _ _ _ _ _ trivial _ (by simp; omega)) (fun i hi => sbk_mem.2 (.inr ⟨i, hi, rfl⟩))

theorem cut_refused {key p ctx layer : List UInt8} {size m : Nat} (hp : p.length = 7) (h1 : 1 ≤ size) (h2 : size ≤ 65536) (hl : layer.length ≤ 1500) (hm : m < (sealB 0 p layer size).length) (hml : m ≤ 290000) {z : List UInt8}
    (h12 : 12 ≤ ((sealB 0 p layer size).take m).length) (hz : orun (bookB [] key p ctx layer size) key ctx ((sealB 0 p layer size).take m) (onp ((sealB 0 p layer size).take m)) = some z) : False := by
  obtain ⟨q, hq, hpq⟩ := other_pre (p := p)
  have hlt : ((sealB 0 p layer size).take m).length = m := by rw [List.length_take]; omega
  rw [hlt] at h12
  obtain ⟨_, _, h⟩ := opened (n0 := 0) hp hq hpq h1 h2 (by omega) (by rw [hlt]; omega) (fun sl t h => .inl (book1_get sl t h)) (by rw [hlt]; exact h12) hz
  rcases h with h | h
  · have := congrArg List.length h
    rw [hlt] at this
    omega
  · have h3 := congrArg (List.take 12) h
    rw [List.take_take, Nat.min_eq_left h12, sealB_take hp, sealB_take hq] at h3
    apply hpq
    rw [← hd_pre hp size, ← hd_pre hq size, h3]
end M

end Go.Proofs.YtdojalhaklkegaaDoor
