/-
  HOW A CUT ENDS: what Open says of bytes that aren't the second layer's.
-/
import Derived.Test.YtdojalhaklkegaaSealChB
namespace Go.Proofs.Ytdojalhaklkegaa
open Go.RowKit Go.Maps
set_option linter.unusedVariables false
set_option maxRecDepth 100000

theorem cuts_end {w w' : World} {e : Ending} {key p q ctx layer key' ctx' s : List UInt8} {size : Nat} (hp : p.length = 7) (hq : q.length = 7) (hpq : p ≠ q) (h1 : 1 ≤ size) (h2 : size ≤ 65536) (hl : layer.length ≤ 1500) (hs : s.length ≤ 290000)
    (hne : s ≠ M.sealB (M.np layer.length size) q layer size) (h : OpenEnds w (M.book2 key p q ctx layer size) key' ctx' s e w') :
    Below w.heap.size w w' ∧ ((∃ r, e = .returned (.tuple #[r, .int .i64 0]) ∧ Own w' w.heap.size r layer ∧ key' = key ∧ ctx' = ctx ∧ s = M.sealB 0 p layer size) ∨
      (∃ c : Int, (c = 7 ∨ c = 8) ∧ e = .returned (.tuple #[.slice none 0 0, .int .i64 c]) ∧ ¬ (s = M.sealB 0 p layer size ∧ key' = key ∧ ctx' = ctx))) := by
  obtain ⟨k, h⟩ := h
  have hnp : M.np layer.length size ≤ 1000000 := by have := M.np_le layer.length size h1; omega
  have ho := M.book2_opens (key := key) (p := p) (q := q) (ctx := ctx) (layer := layer) hp h1 h2 hnp
  have hok := (M.sealed_cut (layer := layer) 0 hp h1 h2).2.2.1
  refine ⟨k, ?_⟩
  rcases h with ⟨a, r, z, b, rfl, o⟩ | ⟨a, b, rfl⟩ | ⟨a, rfl⟩
  · obtain ⟨e1, e2, e3⟩ := M.cut_opened hp hq hpq h1 h2 hl hs hne a.1 b
    subst e1 e2 e3
    rw [ho] at b
    injection b with b
    subst b
    exact .inl ⟨r, rfl, o, rfl, rfl, rfl⟩
  · refine .inr ⟨7, .inl rfl, rfl, ?_⟩
    rintro ⟨rfl, rfl, rfl⟩
    rw [ho] at b
    cases b
  · refine .inr ⟨8, .inr rfl, rfl, ?_⟩
    rintro ⟨rfl, _⟩
    exact a hok

end Go.Proofs.Ytdojalhaklkegaa
