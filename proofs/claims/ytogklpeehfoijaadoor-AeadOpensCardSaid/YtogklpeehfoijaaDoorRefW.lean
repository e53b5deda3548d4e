/-
  SLICES OF 32-BIT WORDS: the call's own or come in; one word appended. Conditions: none.
-/
import Derived.Test.YtogklpeehfoijaaDoorShaMem
import Derived.Deep.RegionLaw
namespace Go.Proofs.YtogklpeehfoijaaDoor
open Go.RowKit
set_option linter.unusedVariables false

/-- The value is a slice of the words ws. -/
def IsW (w : World) (v : Value) (ws : List UInt32) : Prop :=
  ∃ ao cap, v = .slice ao ws.length cap ∧ ws.length ≤ cap ∧ cap ≤ maxLen ∧ (ws = [] ∨ ∃ b off, ao = some ⟨b, off, none⟩ ∧ ∀ i, i < ws.length → w.cell? ⟨b, off + i, none⟩ = some (.int .u32 ((ws.getD i 0).toNat : Int)))

/-- The value is a slice of the words ws, a row of the call's own. -/
def OwnW (w : World) (B : Nat) (v : Value) (ws : List UInt32) : Prop := w.ownsRow B 33 1 v ws.length (wc ws)

/-- The call hands back the words ws in memory of its own; what was there stands. -/
def MakesW (w : World) (ws : List UInt32) (e : Ending) (w' : World) : Prop := ∃ r, e = .returned r ∧ OwnW w' w.heap.size r ws ∧ Below w.heap.size w w'

theorem OwnW.isW {w : World} {B : Nat} {v : Value} {ws : List UInt32} (h : OwnW w B v ws) : IsW w v ws := by
  rcases h.2 with ⟨rfl, hn⟩ | ⟨g, cap, cur, rfl, hb, hg, hn, hm, hs, ht⟩
  · have : ws = [] := List.eq_nil_of_length_eq_zero hn
    subst this
    exact ⟨none, 0, rfl, Nat.le_refl _, Nat.zero_le _, .inl rfl⟩
  · refine ⟨_, cap, rfl, hn, hm, .inr ⟨g, 0, rfl, fun i hi => ?_⟩⟩
    have h' : w.ownsRow B 33 1 (.slice (some ⟨g, 0, none⟩) ws.length cap) ws.length (wc ws) := ⟨h.1, .inr ⟨g, cap, cur, rfl, hb, hg, hn, hm, hs, ht⟩⟩
    rw [Nat.zero_add, h'.cellAt i (by omega)]
    exact wc_get ws i hi

theorem OwnW.below {w w' : World} {B : Nat} {v : Value} {ws : List UInt32} (h : OwnW w B v ws) (k : Below w.heap.size w w') : OwnW w' B v ws := by
  refine ⟨h.1, ?_⟩
  rcases h.2 with hn | ⟨g, cap, cur, rfl, hb, hg, rest⟩
  · exact .inl hn
  · refine .inr ⟨g, cap, cur, rfl, hb, ?_, rest⟩
    rw [k.block g (Array.getElem?_eq_some_iff.1 hg).1]
    exact hg

theorem OwnW.mono {w : World} {B B' : Nat} {v : Value} {ws : List UInt32} (h : OwnW w B v ws) (hb : B' ≤ B) : OwnW w B' v ws := by
  refine ⟨h.1, ?_⟩
  rcases h.2 with hn | ⟨g, cap, cur, rfl, hg, rest⟩
  · exact .inl hn
  · exact .inr ⟨g, cap, cur, rfl, Nat.le_trans hb hg, rest⟩

theorem IsW.below {w w' : World} {v : Value} {ws : List UInt32} (h : IsW w v ws) (k : Below w.heap.size w w') : IsW w' v ws := by
  obtain ⟨ao, cap, rfl, h1, h2, h3⟩ := h
  refine ⟨ao, cap, rfl, h1, h2, ?_⟩
  rcases h3 with h | ⟨b, off, rfl, h⟩
  · exact .inl h
  · refine .inr ⟨b, off, rfl, fun i hi => ?_⟩
    have hc := h i hi
    rw [k.cell (by exact World.block_lt_of_cell? w _ hc)]
    exact hc

/-- A slice of at least one word: where it lies. -/
theorem IsW.at_ {w : World} {v : Value} {ws : List UInt32} (h : IsW w v ws) (hne : 0 < ws.length) :
    ∃ b off cap, v = .slice (some ⟨b, off, none⟩) ws.length cap ∧ ∀ i, i < ws.length → w.cell? ⟨b, off + i, none⟩ = some (.int .u32 ((ws.getD i 0).toNat : Int)) := by
  obtain ⟨ao, cap, rfl, h1, h2, h3⟩ := h
  rcases h3 with h | ⟨b, off, rfl, h⟩
  · subst h; simp at hne
  · exact ⟨b, off, cap, rfl, h⟩

theorem ownW_nil (w : World) (B : Nat) : OwnW w B (.slice none 0 0) [] := World.ownsRow_nil _ _ _ _

theorem ownW_lit (w : World) (B : Nat) (cs : Array Value) (ws : List UInt32) (hB : B ≤ w.heap.size) (e : cs.toList = wc ws) (hm : ws.length ≤ maxLen) :
    OwnW (w.alloc (.cells cs 33)) B (.slice (some ⟨w.heap.size, 0, none⟩) ws.length ws.length) ws := by
  have hsz : cs.size = ws.length := by rw [← Array.length_toList, e, wc_length]
  refine ⟨by rw [wc_length, Nat.mul_one], .inr ⟨w.heap.size, ws.length, cs, rfl, hB, heap_alloc_new w _, Nat.le_refl _, hm, by rw [hsz, Nat.mul_one], ?_⟩⟩
  rw [e, List.take_of_length_le (by rw [wc_length, Nat.mul_one]; exact Nat.le_refl _)]

theorem Tryd.info39 : (Tryd.prog.info? 33).map (fun i => (i.zero, i.size, i.bytes)) = some (some (.int .u32 0), 1, 4) := by kernel_rfl

/-- 'append(ws, x)' as one step of a region that draws. -/
theorem step_appW {w : World} {ops : Array Oper} {o : Oper} {a : Act} {K : Act → World → Prop} {Q : Exit → Act → World → Prop} {E : Prop} (hg : o.guard = none) (s x : Operand)
    (ho : o.op = .call { callee := .builtin .append, args := #[s, x], argTypes := #[53, 53] })
    (B : Nat) (v : Value) (ws : List UInt32) (hs : a.eval s = v) (hown : OwnW w B v ws) (g1 : Nat) (u : UInt32) (hx : a.eval x = .slice (some ⟨g1, 0, none⟩) 1 1) (hc : w.cell? ⟨g1, 0, none⟩ = some (.int .u32 (u.toNat : Int)))
    (hlen : ws.length ≤ 1000000) (hB : B ≤ w.heap.size)
    (h : ∀ v' w', OwnW w' B v' (ws ++ [u]) → Below B w w' → K (a.put o.dst v') w') : if Region.wanted o (yielded ops a.tmps) = true then Oper.wp Tryd.prog o a w K Q else E := by
  obtain ⟨i0, h0, hz0, hz1, hz2⟩ := info_parts Tryd.info39
  have hw : Region.wanted o (yielded ops a.tmps) = true := by simp [Region.wanted, hg]
  rw [if_pos hw]
  refine wp_append_own w s x _ ho B 33 i0 (.int .u32 0) 1 4 Tryd.underlying53 h0 hz0 hz1 hz2 rfl (by decide) v ws.length _ hs hown ⟨g1, 0, none⟩ 1 1 [c32 u] hx rfl (fun j y hj => ?_) (fun y hy => by simp at hy; subst hy; rfl) (by unfold maxLen; omega) (by omega) hB ?_
  · match j, hj with
    | 0, hj =>
      simp at hj
      subst hj
      simpa [Addr.add, c32] using hc
  · intro v' w' hown' hgrow _
    refine h v' w' ?_ ((Below.refl B w).grown hgrow hB fun k hk => (hown.lt k hk).1)
    rw [OwnW, List.length_append, wc_append]
    exact hown'

/-- .. in a plain region. -/
theorem wpList_appW (w : World) {ops : Array Oper} {rest : List Oper} {o : Oper} {a : Act} {Q : Exit → Act → World → Prop} (hg : o.guard = none) (s x : Operand)
    (ho : o.op = .call { callee := .builtin .append, args := #[s, x], argTypes := #[53, 53] })
    (B : Nat) (v : Value) (ws : List UInt32) (hs : a.eval s = v) (hown : OwnW w B v ws) (g1 : Nat) (u : UInt32) (hx : a.eval x = .slice (some ⟨g1, 0, none⟩) 1 1) (hc : w.cell? ⟨g1, 0, none⟩ = some (.int .u32 (u.toNat : Int)))
    (hlen : ws.length ≤ 1000000) (hB : B ≤ w.heap.size)
    (h : ∀ v' w', OwnW w' B v' (ws ++ [u]) → Below B w w' → wpList Tryd.prog ops Q rest (a.put o.dst v') w') : wpList Tryd.prog ops Q (o :: rest) a w := by
  refine wpList_plain hg fun K hK => ?_
  have := step_appW (ops := ops) (K := K) (Q := Q) (E := False) hg s x ho B v ws hs hown g1 u hx hc hlen hB (fun v' w' h1 h2 => hK _ _ (h v' w' h1 h2))
  rw [if_pos (by simp [Region.wanted, hg])] at this
  exact this

end Go.Proofs.YtogklpeehfoijaaDoor
