/-
  CONTRACT OF orlopref05.rest: what is left by 2^130 - 5. Conditions: a number of 36 digits, below 2^256.
-/
import Derived.Test.YtogklpeehfoijaaDoorRefP
import Derived.Test.YtogklpeehfoijaaDoorPolyTag
namespace Go.Proofs.YtogklpeehfoijaaDoor
open Go.RowKit
set_option linter.unusedVariables false

namespace M

def rdn (A : Nat) : Nat → Nat
  | 0 => A
  | k + 1 => rd (rdn A k)

theorem rd_two (A : Nat) (h : A < 2 ^ 130 + 5 * 2 ^ 126) : rd A < 2 ^ 130 := by
  rw [rd]
  have e1 : (2 : Nat) ^ 130 = 1361129467683753853853498429727072845824 := by decide
  have e2 : (2 : Nat) ^ 126 = 85070591730234615865843651857942052864 := by decide
  rw [e1, e2] at *
  omega

theorem rd_small (A : Nat) (h : A < 2 ^ 130) : rd A = A := by
  rw [rd, Nat.mod_eq_of_lt h, Nat.div_eq_of_lt h]
  rfl

theorem rdn_mod (A k : Nat) : rdn A k % P = A % P := by
  induction k with
  | zero => rfl
  | succ k ih => rw [rdn, rd_mod, ih]

theorem rdn_four (A : Nat) (h : A < 2 ^ 256) : rdn A 4 < 2 ^ 130 ∧ ∀ k, k < 4 → rdn A k < 2 ^ 256 := by
  have h1 : rdn A 1 < 2 ^ 130 + 5 * 2 ^ 126 := rd_lt A (2 ^ 126) (by rw [← Nat.pow_add]; exact h)
  have h2 : rdn A 2 < 2 ^ 130 := rd_two _ h1
  have h3 : rdn A 3 = rdn A 2 := rd_small _ h2
  have h4 : rdn A 4 = rdn A 2 := by rw [rdn, h3]; exact rd_small _ h2
  have e1 : (2 : Nat) ^ 130 < 2 ^ 256 := by decide
  have e2 : (2 : Nat) ^ 130 + 5 * 2 ^ 126 < 2 ^ 256 := by decide
  refine ⟨by rw [h4]; exact h2, fun k hk => ?_⟩
  match k, hk with
  | 0, _ => exact h
  | 1, _ => exact Nat.lt_trans h1 e2
  | 2, _ => exact Nat.lt_trans h2 e1
  | 3, _ => rw [h3]; exact Nat.lt_trans h2 e1

theorem set_row (N : Nat) : (dg N 17).set 16 (N / 256 ^ 16 % 256 % 4) = dg (N % 2 ^ 130) 17 := by
  show (dg N 16 ++ [N / 256 ^ 16 % 256]).set 16 _ = dg (N % 2 ^ 130) 16 ++ [N % 2 ^ 130 / 256 ^ 16 % 256]
  have e1 : dg (N % 2 ^ 130) 16 = dg N 16 := dg_congr _ _ _ (by rw [two130, Nat.mod_mul_right_mod])
  have e2 : N % 2 ^ 130 / 256 ^ 16 % 256 = N / 256 ^ 16 % 256 % 4 := by
    rw [two130, Nat.mod_mul_right_div_self]
    omega
  have hl : (dg N 16).length = 16 := dg_length _ _
  rw [e1, e2, List.set_append_right _ _ (by omega), hl, Nat.sub_self, List.set_cons_zero]

theorem last_ok (A4 : Nat) (h : A4 < 2 ^ 130) (hP : ¬ A4 < P) : (A4 + 5) % 2 ^ 130 = A4 % P := by
  have e1 : (2 : Nat) ^ 130 = 1361129467683753853853498429727072845824 := by decide
  rw [e1] at *
  unfold P at *
  omega

end M

theorem isI_front {w : World} {ao : Option Addr} {n cap : Nat} {l : List Nat} (h : IsI w (.slice ao n cap) l) (m : Nat) (hm : m ≤ l.length) : IsI w (.slice ao m cap) (l.take m) := by
  obtain ⟨ao', cap', e, h1, h2, h3⟩ := h
  injection e with e1 e2 e3
  subst e1 e2 e3
  have hl : (l.take m).length = m := by rw [List.length_take]; omega
  refine ⟨_, cap, by rw [hl], by omega, h2, ?_⟩
  rcases h3 with h3 | ⟨b, off, rfl, hc⟩
  · exact .inl (by rw [h3]; simp)
  · refine .inr ⟨b, off, rfl, fun i hi => ?_⟩
    rw [hl] at hi
    rw [hc i (by omega)]
    simp [List.getD_eq_getElem?_getD, hi]

theorem isI_one (w : World) (g : Nat) (x : Nat) (hg : g = w.heap.size) : IsI (w.alloc (.cells #[.int .i64 (x : Int)] 3)) (.slice (some ⟨g, 0, none⟩) 1 1) [x] := by
  subst hg
  refine ⟨_, 1, rfl, Nat.le_refl _, by unfold maxLen; omega, .inr ⟨w.heap.size, 0, rfl, fun i hi => ?_⟩⟩
  match i, hi with
  | 0, _ => simp

theorem IsI.cells {w : World} {ao : Option Addr} {n cap : Nat} {l : List Nat} (h : IsI w (.slice ao n cap) l) (ad : Addr) (ha : ao = some ad) : ∀ (j : Nat) (u : Value), (ic l)[j]? = some u → w.cell? (ad.add j) = some u := by
  intro j u hj
  have hlt : j < l.length := by
    have := (List.getElem?_eq_some_iff.1 hj).1
    rwa [ic_length] at this
  obtain ⟨ao', cap', e, h1, h2, h3⟩ := h
  injection e with e1 e2 e3
  subst e1
  rcases h3 with h3 | ⟨b, off, h4, hc⟩
  · rw [h3] at hlt; simp at hlt
  · rw [ha] at h4
    injection h4 with h4
    subst h4
    rw [Addr.add_lit, hc j hlt, ← hj, ic_get _ _ hlt]

/-- 'append(xs, ys...)' onto a row of the call's own. -/
theorem wp_appIs {w : World} {o : Oper} {a : Act} {K : Act → World → Prop} {Q : Exit → Act → World → Prop} (s x : Operand)
    (ho : o.op = .call { callee := .builtin .append, args := #[s, x], argTypes := #[49, 49] })
    (B : Nat) (v : Value) (ws : List Nat) (hs : a.eval s = v) (hown : OwnI w B v ws) (ad : Addr) (n cap : Nat) (ys : List Nat) (hx : a.eval x = .slice (some ad) n cap) (hi : IsI w (.slice (some ad) n cap) ys) (hn : n = ys.length)
    (hlen : ws.length + ys.length ≤ 1000000) (hB : B ≤ w.heap.size)
    (h : ∀ v' w', OwnI w' B v' (ws ++ ys) → w.grownBy w' v.ownBlock → K (a.put o.dst v') w') : Oper.wp Tryd.prog o a w K Q := by
  obtain ⟨i0, h0, hz0, hz1, hz2⟩ := info_parts Tryd.info47
  refine wp_append_own w s x _ ho B 3 i0 (.int .i64 0) 1 8 Tryd.underlying49 h0 hz0 hz1 hz2 rfl (by decide) v ws.length _ hs hown ad n cap (ic ys) hx (by rw [ic_length, Nat.mul_one, hn]) (hi.cells ad rfl) (ic_oneCell _) (by unfold maxLen; omega) (by omega) hB ?_
  intro v' w' hown' hgrow _
  refine h v' w' ?_ hgrow
  rw [OwnI, List.length_append, ic_append, ← hn]
  exact hown'

theorem step_appIs {w : World} {ops : Array Oper} {o : Oper} {a : Act} {K : Act → World → Prop} {Q : Exit → Act → World → Prop} {E : Prop} (hg : o.guard = none) (s x : Operand)
    (ho : o.op = .call { callee := .builtin .append, args := #[s, x], argTypes := #[49, 49] })
    (B : Nat) (v : Value) (ws : List Nat) (hs : a.eval s = v) (hown : OwnI w B v ws) (ad : Addr) (n cap : Nat) (ys : List Nat) (hx : a.eval x = .slice (some ad) n cap) (hi : IsI w (.slice (some ad) n cap) ys) (hn : n = ys.length)
    (hlen : ws.length + ys.length ≤ 1000000) (hB : B ≤ w.heap.size)
    (h : ∀ v' w', OwnI w' B v' (ws ++ ys) → w.grownBy w' v.ownBlock → K (a.put o.dst v') w') : if Region.wanted o (yielded ops a.tmps) = true then Oper.wp Tryd.prog o a w K Q else E := by
  rw [if_pos (by simp [Region.wanted, hg])]
  exact wp_appIs s x ho B v ws hs hown ad n cap ys hx hi hn hlen hB h

theorem wpList_appIs (w : World) {ops : Array Oper} {rest : List Oper} {o : Oper} {a : Act} {Q : Exit → Act → World → Prop} (hg : o.guard = none) (s x : Operand)
    (ho : o.op = .call { callee := .builtin .append, args := #[s, x], argTypes := #[49, 49] })
    (B : Nat) (v : Value) (ws : List Nat) (hs : a.eval s = v) (hown : OwnI w B v ws) (ad : Addr) (n cap : Nat) (ys : List Nat) (hx : a.eval x = .slice (some ad) n cap) (hi : IsI w (.slice (some ad) n cap) ys) (hn : n = ys.length)
    (hlen : ws.length + ys.length ≤ 1000000) (hB : B ≤ w.heap.size)
    (h : ∀ v' w', OwnI w' B v' (ws ++ ys) → w.grownBy w' v.ownBlock → wpList Tryd.prog ops Q rest (a.put o.dst v') w') : wpList Tryd.prog ops Q (o :: rest) a w := by
  refine wpList_plain hg fun K hK => ?_
  exact wp_appIs s x ho B v ws hs hown ad n cap ys hx hi hn hlen hB fun v' w' h1 h2 => hK _ _ (h v' w' h1 h2)

theorem ownI_empty (w : World) (B : Nat) (hB : B ≤ w.heap.size) : OwnI (w.alloc (.cells #[] 3)) B (.slice (some ⟨w.heap.size, 0, none⟩) 0 0) [] := ownI_lit w B #[] [] hB rfl (Nat.zero_le _)

end Go.Proofs.YtogklpeehfoijaaDoor
