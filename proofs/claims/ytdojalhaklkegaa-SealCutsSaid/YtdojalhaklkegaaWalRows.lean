/-
  ROWS OF ROWS OF THE CALL'S OWN (OwnLL), 'append' onto rows of anything in plain regions, AND THE CONTRACT OF orlopref10.Ahead. Conditions: as each says.
-/
import Derived.Test.YtdojalhaklkegaaRefWal
import Derived.Test.YtdojalhaklkegaaPkB
import Derived.Maps.AppendAt
namespace Go.Proofs.Ytdojalhaklkegaa
open Go.RowKit
set_option linter.unusedVariables false

theorem rows10 : RowTy 36 22 1 24 (.slice none 0 0) := ⟨Try.underlying36, by kernel_rfl, rfl, by decide⟩

/-- 'append(xs, ys...)' onto an owned row, in a plain region. -/
theorem wpList_app_row {t e : TypeId} {size bytes : Nat} {z : Value} (hT : RowTy t e size bytes z) (w : World) {ops : Array Oper} {rest : List Oper} {o : Oper} {a : Act} {Q : Exit → Act → World → Prop} (hg : o.guard = none) (s x : Operand)
    (ho : o.op = .call { callee := .builtin .append, args := #[s, x], argTypes := #[t, t] })
    (B : Nat) (v : Value) (n : Nat) (xs : List Value) (hs : a.eval s = v) (hown : w.ownsRow B e size v n xs) (ad : Addr) (m c : Nat) (news : List Value) (hx : a.eval x = .slice (some ad) m c) (hl : news.length = m * size)
    (hc : ∀ j u, news[j]? = some u → w.cell? (ad.add j) = some u) (h1 : ∀ u ∈ news, u.oneCell' = true) (hm : n + m ≤ maxLen) (hb : (n + m) * bytes ≤ 140737488355328) (hB : B ≤ w.heap.size)
    (h : ∀ v' w', w'.ownsRow B e size v' (n + m) (xs ++ news) → w.grownBy w' v.ownBlock → (v'.ownBlock = v.ownBlock ∨ v'.ownBlock = some w.heap.size) → wpList Try.prog ops Q rest (a.put o.dst v') w') : wpList Try.prog ops Q (o :: rest) a w := by
  obtain ⟨hu, hi, hz, h0⟩ := hT
  obtain ⟨i0, hi0, hz0, hz1, hz2⟩ := info_any hi
  exact wpList_append_own_at (P := Try.prog) w hg s x t ho B e i0 z size bytes hu hi0 hz0 hz1 hz2 hz h0 v n xs hs hown ad m c news hx hl hc h1 hm hb hB fun v' w' a b _ d => h v' w' a b d

/-- A row of rows of the call's own, from block B on; so are its rows. -/
structure OwnLL (w : World) (B : Nat) (v : Value) (L : List (List UInt8)) (rows : List Value) : Prop where
  row : w.ownsRow B 22 1 v L.length rows
  each : ∀ i, i < L.length → IsB w (rows.getD i undef) (L.getD i []) ∧ (∀ n c, rows.getD i undef = .slice none n c → c = 0) ∧ Lies (fun k => B ≤ k ∧ k < w.heap.size ∧ v.ownBlock ≠ some k) (rows.getD i undef)

theorem OwnLL.len {w : World} {B : Nat} {v : Value} {L : List (List UInt8)} {rows : List Value} (h : OwnLL w B v L rows) : rows.length = L.length := by
  have := h.row.1
  omega

theorem OwnLL.nil (w : World) (B : Nat) : OwnLL w B (.slice none 0 0) [] [] := ⟨World.ownsRow_nil _ _ _ _, fun i hi => by cases hi⟩

theorem OwnLL.chg {F : Nat → Prop} {w w' : World} {B : Nat} {v : Value} {L : List (List UInt8)} {rows : List Value} (h : OwnLL w B v L rows) (c : Chg F w w') (hF : ∀ k, F k → B ≤ k → k < w.heap.size → False) : OwnLL w' B v L rows where
  row := own_chg h.row c fun b hb hf => hF b hf (h.row.lt b hb).1 (h.row.lt b hb).2
  each := fun i hi => ⟨(h.each i hi).1.chg c ((h.each i hi).2.2.mono fun k hk hf => hF k hf hk.1 hk.2.1), (h.each i hi).2.1, (h.each i hi).2.2.mono fun k hk => ⟨hk.1, Nat.lt_of_lt_of_le hk.2.1 c.size, hk.2.2⟩⟩

theorem OwnLL.below {w w' : World} {B : Nat} {v : Value} {L : List (List UInt8)} {rows : List Value} (h : OwnLL w B v L rows) (c : Below w.heap.size w w') : OwnLL w' B v L rows :=
  h.chg (Chg.of_below (F := fun _ => False) c) fun _ h _ _ => h

theorem OwnLL.isLL {w : World} {B : Nat} {v : Value} {L : List (List UInt8)} {rows : List Value} (h : OwnLL w B v L rows) : IsLL w v L rows := by
  obtain ⟨ao, cap, rfl⟩ := ownShape h.row
  have hl := h.len
  rcases h.row.2 with ⟨e, hn⟩ | ⟨g, cap', cur, e, hb, hg, hn, hm, hs, ht⟩
  · injection e with e1 e2 e3
    refine ⟨ao, cap, rfl, by omega, by unfold maxLen; omega, hl, fun i hi => by omega, .inl (by cases L; rfl; simp at hn)⟩
  · injection e with e1 e2 e3
    subst e1 e3
    refine ⟨_, cap, rfl, by omega, hm, hl, fun i hi => ⟨(h.each i hi).1, (h.each i hi).2.1⟩, ?_⟩
    by_cases h0 : L = []
    · exact .inl h0
    · refine .inr ⟨g, 0, rfl, fun i hi => ?_⟩
      obtain ⟨g2, e9, _, cs, _⟩ := ownCells h.row (by cases L; exact absurd rfl h0; simp)
      injection e9 with e9
      injection e9 with e9
      subst e9
      rw [Nat.zero_add, cs _ (by omega), List.getD_eq_getElem?_getD, List.getElem?_eq_getElem (by omega)]
      rfl

theorem OwnLL.gains {w w' : World} {K : World → Prop} {v : Value} {L : List (List UInt8)} {rows : List Value} (h : OwnLL w' w.heap.size v L rows) : Gains w w' K (fun x => IsLL x v L rows) :=
  fun F x c hf _ => (h.chg c fun k h1 h2 h3 => by have := hf k h1; omega).isLL

/-- A row more. -/
theorem OwnLL.add {w w2 w4 : World} {B : Nat} {v v' rv : Value} {L : List (List UInt8)} {rows : List Value} {bs : List UInt8} (h : OwnLL w B v L rows) (k : Below w.heap.size w w2) (hB : B ≤ w.heap.size) (d : Own w2 w.heap.size rv bs)
    (o : w4.ownsRow B 22 1 v' (L.length + 1) (rows ++ [rv])) (g : w2.grownBy w4 v.ownBlock) (a : v'.ownBlock = v.ownBlock ∨ ∃ j, v'.ownBlock = some j ∧ w2.heap.size ≤ j) : OwnLL w4 B v' (L ++ [bs]) (rows ++ [rv]) where
  row := by rw [List.length_append]; exact o
  each := by
    intro i hi
    have hi' : i < L.length + 1 := by simpa using hi
    have hl := h.len
    have hk := k.size
    have c4 : Chg (fun b => v.ownBlock = some b) w2 w4 := Chg.of_grown g fun k hk => hk
    have hv : ∀ b, v.ownBlock = some b → b < w.heap.size := fun b hb => (h.row.lt b hb).2
    have hne : ∀ b, b < w2.heap.size → v.ownBlock ≠ some b → v'.ownBlock ≠ some b := fun b h1 h2 e => by
      rcases a with a | ⟨j, a, hj⟩
      · exact h2 (a ▸ e)
      · rw [a] at e
        injection e with e
        omega
    have g4 := c4.size
    rw [getD_snoc _ _ _ _ (by rw [hl]; exact hi'), getD_snoc _ _ _ _ hi', hl]
    by_cases hlt : i < L.length
    · rw [if_pos hlt, if_pos hlt]
      obtain ⟨h1, h2, h3⟩ := h.each i hlt
      exact ⟨(h1.below k).chg c4 (h3.mono fun b hb => hb.2.2), h2, h3.mono fun b hb => ⟨hb.1, by omega, hne b (by omega) hb.2.2⟩⟩
    · rw [if_neg hlt, if_neg hlt]
      have ld : Lies (fun b => w.heap.size ≤ b ∧ b < w2.heap.size) rv := d.lies fun k h1 h2 => ⟨h1, h2⟩
      exact ⟨d.isB.chg c4 (ld.mono fun b hb e => by have := hv b e; omega), d.nil0, ld.mono fun b hb => ⟨by omega, by omega, hne b hb.2 fun e => by have := hv b e; omega⟩⟩

theorem M.drop42_take (s : List (List UInt8)) (k : Nat) (h : 42 + k < s.length) : (s.drop 42).take (k + 1) = (s.drop 42).take k ++ [s.getD (42 + k) []] := by
  rw [List.take_add_one, List.getElem?_drop, List.getD_eq_getElem?_getD, List.getElem?_eq_getElem h]
  rfl

end Go.Proofs.Ytdojalhaklkegaa
