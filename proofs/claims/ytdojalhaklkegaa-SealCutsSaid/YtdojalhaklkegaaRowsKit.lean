/-
  ROWS OF ANYTHING THAT ARE OWNED: 'append' onto one as a step of a region that draws, whatever the elements' type; slices of bytes and structs as elements. Conditions: as each says.
-/
import Derived.Test.YtdojalhaklkegaaHeapKit
import Derived.Test.YtdojalhaklkegaaRegionT
namespace Go.Proofs.Ytdojalhaklkegaa
open Go.RowKit
set_option linter.unusedVariables false

/-- The type t is a slice of elements e, of so many cells and bytes, whose zero is z. -/
def RowTy (t e : TypeId) (size bytes : Nat) (z : Value) : Prop :=
  Try.prog.underlying t = some (.slice e) ∧ (Try.prog.info? e).map (fun i => (i.zero, i.size, i.bytes)) = some (some z, size, bytes) ∧ z.cells.size = size ∧ 0 < size

theorem info_any {e : TypeId} {size bytes : Nat} {z : Value} (h : (Try.prog.info? e).map (fun i => (i.zero, i.size, i.bytes)) = some (some z, size, bytes)) : ∃ i, Try.prog.info? e = some i ∧ i.zero = some z ∧ i.size = size ∧ i.bytes = bytes := by
  cases hi : Try.prog.info? e with
  | none => rw [hi] at h; cases h
  | some i =>
    rw [hi] at h
    simp only [Option.map_some, Option.some.injEq, Prod.mk.injEq] at h
    exact ⟨i, rfl, h.1, h.2.1, h.2.2⟩

theorem bytes_row : RowTy 22 5 1 1 (.int .u8 0) := ⟨Try.underlying22, by kernel_rfl, rfl, by decide⟩

/-- 'append(xs, ys...)' onto an owned row, as a step. -/
theorem step_app_row {t e : TypeId} {size bytes : Nat} {z : Value} (hT : RowTy t e size bytes z) {w : World} {ops : Array Oper} {o : Oper} {a : Act} {K : Act → World → Prop} {Q : Exit → Act → World → Prop} {E : Prop} (hg : o.guard = none) (s x : Operand)
    (ho : o.op = .call { callee := .builtin .append, args := #[s, x], argTypes := #[t, t] })
    (B : Nat) (v : Value) (n : Nat) (xs : List Value) (hs : a.eval s = v) (hown : w.ownsRow B e size v n xs) (ad : Addr) (m c : Nat) (news : List Value) (hx : a.eval x = .slice (some ad) m c) (hl : news.length = m * size)
    (hc : ∀ j u, news[j]? = some u → w.cell? (ad.add j) = some u) (h1 : ∀ u ∈ news, u.oneCell' = true) (hm : n + m ≤ maxLen) (hb : (n + m) * bytes ≤ 140737488355328) (hB : B ≤ w.heap.size)
    (h : ∀ v' w', w'.ownsRow B e size v' (n + m) (xs ++ news) → w.grownBy w' v.ownBlock → (v'.ownBlock = v.ownBlock ∨ v'.ownBlock = some w.heap.size) → K (a.put o.dst v') w') : if Region.wanted o (yielded ops a.tmps) = true then Oper.wp Try.prog o a w K Q else E := by
  obtain ⟨hu, hi, hz, h0⟩ := hT
  obtain ⟨i0, hi0, hz0, hz1, hz2⟩ := info_any hi
  rw [if_pos (by simp [Region.wanted, hg])]
  obtain ⟨v', w', hr, h2, h3, h4, h5⟩ := run_append_own_at (P := Try.prog) w B t o.type e i0 z size bytes hu hi0 hz0 hz1 hz2 hz h0 v n _ hown ad m c news hl hc h1 hm hb hB
  unfold Oper.wp execOp
  simp only [ho, resolve, invoke, builtin, Sem.run_bind, Sem.run_pure, Result.andThen_ok, List.map_toArray, List.map_cons, List.map_nil, hs, hx, hr]
  exact h v' w' h2 h3 h5

/-- 'append([]byte{}, b...)' of a slice that has bytes. -/
theorem step_clone {w : World} {ops : Array Oper} {o : Oper} {a : Act} {K : Act → World → Prop} {Q : Exit → Act → World → Prop} {E : Prop} (hg : o.guard = none) (s x : Operand)
    (ho : o.op = .call { callee := .builtin .append, args := #[s, x], argTypes := #[22, 22] })
    (B : Nat) (v : Value) (hs : a.eval s = v) (hown : Own w B v []) (sv : Value) (ys : List UInt8) (hx : a.eval x = sv) (hi : IsB w sv ys) (hn : ys ≠ []) (hlen : ys.length ≤ 140737488355328) (hB : B ≤ w.heap.size)
    (h : ∀ v' w', Own w' B v' ys → Below B w w' → K (a.put o.dst v') w') : if Region.wanted o (yielded ops a.tmps) = true then Oper.wp Try.prog o a w K Q else E := by
  obtain ⟨ao, cap, rfl, hc1, hc2, hat⟩ := hi
  rcases hat with hat | ⟨b, off, rfl, hat⟩
  · exact absurd hat hn
  · refine step_app_row bytes_row hg s x ho B v 0 [] hs hown ⟨b, off, none⟩ ys.length cap (Lib.byteCells ys) hx (by rw [byteCells_length, Nat.mul_one]) ?_ (byteCells_oneCell _) (by unfold maxLen; omega) (by omega) hB ?_
    · intro j u hj
      have hlt : j < ys.length := by
        have := (List.getElem?_eq_some_iff.1 hj).1
        rwa [byteCells_length] at this
      rw [Addr.add_mid, hat j hlt, ← hj, byteCells_getElem? _ _ hlt]
    · intro v' w' h2 h3 _
      refine h v' w' ?_ ((Below.refl B w).grown h3 hB fun k hk => (hown.row.lt k hk).1)
      rw [Nat.zero_add] at h2
      exact h2

end Go.Proofs.Ytdojalhaklkegaa
