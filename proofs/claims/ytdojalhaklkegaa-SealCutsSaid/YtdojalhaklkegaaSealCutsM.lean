/-
  THE MATHEMATICS OF SealCuts. Conditions: none.
-/
import Derived.Test.YtdojalhaklkegaaSealAwake
namespace Go.Proofs.Ytdojalhaklkegaa
set_option linter.unusedVariables false
set_option maxRecDepth 100000

namespace M
/-- The two layers' book. -/
def book2 (key p q ctx layer : List UInt8) (size : Nat) : Bk := bookB (bookB [] key p ctx layer size) key q ctx layer size

theorem book1_len (key p ctx layer : List UInt8) (size : Nat) : (bookB [] key p ctx layer size).length = np layer.length size := by
  unfold bookB; rw [sbk_len]; simp

theorem book2_ok (key p q ctx layer : List UInt8) (size : Nat) (h : np layer.length size ≤ 1000000) : BOk (book2 key p q ctx layer size) := by
  unfold book2
  have h1 : BOk (bookB [] key p ctx layer size) := sbk_ok [] _ _ _ _ _ trivial _ (by simp; omega)
  exact sbk_ok _ _ _ _ _ _ h1 _ (by rw [book1_len]; omega)

theorem book2_get {key p q ctx layer : List UInt8} {size : Nat} : ∀ sl t, bget (book2 key p q ctx layer size) sl = some t →
    (∃ j, j < np layer.length size ∧ sl = (ent 0 key p ctx layer size j).1) ∨ (∃ j, j < np layer.length size ∧ sl = (ent (np layer.length size) key q ctx layer size j).1) := by
  intro sl t h
  have hm := bget_mem h
  unfold book2 bookB at hm
  rcases sbk_mem.1 hm with hm | ⟨j, hj, e⟩
  · rcases sbk_mem.1 hm with hm | ⟨j, hj, e⟩
    · cases hm
    · exact .inl ⟨j, hj, congrArg Prod.fst e⟩
  · refine .inr ⟨j, hj, ?_⟩
    have e2 : (sbk [] key p ctx layer size (np layer.length size)).length = np layer.length size := by rw [sbk_len]; simp
    rw [e2] at e
    rw [← e]

theorem book2_opens {key p q ctx layer : List UInt8} {size : Nat} (hp : p.length = 7) (h1 : 1 ≤ size) (h2 : size ≤ 65536) (h : np layer.length size ≤ 1000000) :
    orun (book2 key p q ctx layer size) key ctx (sealB 0 p layer size) (onp (sealB 0 p layer size)) = some layer :=
  sealed_opens 0 hp h1 h2 (book2_ok key p q ctx layer size h) fun i hi => by
    unfold book2 bookB
    exact sbk_mem.2 (.inl (sbk_mem.2 (.inr ⟨i, hi, rfl⟩)))

/-- The boxes of two different numbers differ from the first eight bytes on. -/
theorem sbx_apart {layer : List UInt8} {size n : Nat} (hn : 0 < n) (hb : n < 1000000) (k : Nat) (hk : 0 < k) : gb (sbx 0 layer size k) 8 ≠ gb (sbx n layer size k) 8 := by
  have first : ∀ m, m < 1000000 → gb (sbx m layer size k) 8 = m := by
    intro m hm
    obtain ⟨k', rfl⟩ : ∃ k', k = k' + 1 := ⟨k - 1, by omega⟩
    have e : ∃ r, sbx m layer size (k' + 1) = bbox m ((pc layer size 0).length + 16) ++ r := by
      unfold sbx
      rw [List.range_succ_eq_map, List.flatMap_cons]
      exact ⟨_, by rw [Nat.add_zero]⟩
    obtain ⟨r, e⟩ := e
    rw [e, ← bbox_num m ((pc layer size 0).length + 16) (by omega) (by omega)]
    apply gb_congr
    intro j hj
    rw [bbox_num m _ (by omega) (by omega), List.getD_eq_getElem?_getD, List.getD_eq_getElem?_getD, List.getElem?_append_left (by rw [bbox_len]; omega)]
  rw [first 0 (by omega), first n hb]
  omega

/-- Whatever is opened of bytes that aren't the second layer's is the first one. -/
theorem cut_opened {key p q ctx layer key' ctx' s : List UInt8} {size : Nat} (hp : p.length = 7) (hq : q.length = 7) (hpq : p ≠ q) (h1 : 1 ≤ size) (h2 : size ≤ 65536) (hl : layer.length ≤ 1500) (hs : s.length ≤ 290000)
    (hne : s ≠ sealB (np layer.length size) q layer size) (h12 : 12 ≤ s.length) {z : List UInt8} (hz : orun (book2 key p q ctx layer size) key' ctx' s (onp s) = some z) : key' = key ∧ ctx' = ctx ∧ s = sealB 0 p layer size := by
  obtain ⟨a, b, c⟩ := opened hp hq hpq h1 h2 (by omega) (by omega) book2_get h12 hz
  exact ⟨a, b, c.resolve_right hne⟩

/-- Bytes that begin with the first layer's head aren't the second one. -/
theorem not_second {p q layer : List UInt8} {size n : Nat} (hp : p.length = 7) (hq : q.length = 7) (hpq : p ≠ q) {s : List UInt8} (hs : s.take 12 = hd p size ∨ s.length < 12) : s ≠ sealB n q layer size := by
  intro e
  rcases hs with h | h
  · rw [e, sealB_take hq] at h
    apply hpq
    rw [← hd_pre hp size, ← hd_pre hq size, h]
  · rw [e] at h
    unfold sealB at h
    rw [List.length_append, hd_len hq] at h
    omega
/-- Nor are bytes that go on with the first layer's boxes. -/
theorem not_second2 {p q layer : List UInt8} {size : Nat} (hq : q.length = 7) (hl : layer.length ≤ 1500) (h1 : 1 ≤ size) {s : List UInt8} (hs : s.drop 12 = sbx 0 layer size (np layer.length size)) : s ≠ sealB (np layer.length size) q layer size := by
  intro e
  rw [e, sealB_drop hq] at hs
  have hn : np layer.length size ≤ layer.length + 1 := np_le _ _ h1
  have hne := sbx_apart (layer := layer) (size := size) (n := np layer.length size) (np_pos _ _) (by omega) (np layer.length size) (np_pos _ _)
  exact hne (by rw [hs])
end M

end Go.Proofs.Ytdojalhaklkegaa
