/-
  CONTRACT OF orlopref05.Tag: the document's tag by definition. Conditions: messages of up to 4096 bytes.
-/
import Derived.Test.YtogklpeehfoijaaDoorRefP4
import Derived.Test.YtogklpeehfoijaaDoorTagMath
import Derived.Test.YtogklpeehfoijaaDoorAppend
namespace Go.Proofs.YtogklpeehfoijaaDoor
open Go.RowKit
set_option linter.unusedVariables false

namespace M

/-- r and s as digits. -/
def rD (key : List UInt8) : Nat → List Nat
  | 0 => []
  | k + 1 => rD key k ++ [((clamp key).getD k 0).toNat]

def bD (b : List UInt8) : Nat → List Nat
  | 0 => []
  | k + 1 => bD b k ++ [(b.getD k 0).toNat]

theorem bD_length (b : List UInt8) (k : Nat) : (bD b k).length = k := by
  induction k with
  | zero => rfl
  | succ k ih => simp [bD, ih]

theorem bD_get (b : List UInt8) (k i : Nat) (h : i < k) : (bD b k).getD i 0 = (b.getD i 0).toNat := by
  induction k with
  | zero => omega
  | succ k ih =>
    by_cases hk : i < k
    · have := ih hk
      rw [List.getD_eq_getElem?_getD] at this ⊢
      rw [bD, List.getElem?_append_left (by rw [bD_length]; exact hk)]
      exact this
    · have : i = k := by omega
      subst this
      rw [bD, List.getD_eq_getElem?_getD, List.getElem?_append_right (by rw [bD_length]; omega), bD_length, Nat.sub_self]
      rfl

theorem rD_eq (key : List UInt8) (k : Nat) : rD key k = bD (clamp key) k := by
  induction k with
  | zero => rfl
  | succ k ih => rw [rD, bD, ih]

theorem bD_dig (b : List UInt8) (k : Nat) : Dig (bD b k) := by
  intro i
  by_cases h : i < k
  · rw [bD_get b k i h]
    exact (b.getD i 0).toNat_lt
  · rw [List.getD_eq_getElem?_getD, List.getElem?_eq_none (by rw [bD_length]; omega)]
    decide

theorem gi_bD (b : List UInt8) (k : Nat) : gi (bD b k) k = gl b k := gi_bytes _ _ _ fun i hi => bD_get b k i hi

/-- The piece's digits. -/
theorem gi_piece (m : List UInt8) (c q : Nat) (hq : q = (chk16 m c).length) : gi (bD (chk16 m c) q ++ [1]) 18 = pN m c ∧ Dig (bD (chk16 m c) q ++ [1]) := by
  subst hq
  have hl : (chk16 m c).length ≤ 16 := by rw [chk16_length]; omega
  have hL : (bD (chk16 m c) (chk16 m c).length ++ [1]).length = (chk16 m c).length + 1 := by rw [List.length_append, bD_length]; rfl
  have hg : ∀ i, i < (chk16 m c).length → (bD (chk16 m c) (chk16 m c).length ++ [1]).getD i 0 = ((chk16 m c).getD i 0).toNat := by
    intro i hi
    rw [List.getD_eq_getElem?_getD, List.getElem?_append_left (by rw [bD_length]; exact hi), ← List.getD_eq_getElem?_getD, bD_get _ _ _ hi]
  have h1 : (bD (chk16 m c) (chk16 m c).length ++ [1]).getD (chk16 m c).length 0 = 1 := by
    rw [List.getD_eq_getElem?_getD, List.getElem?_append_right (by rw [bD_length]; omega), bD_length, Nat.sub_self]
    rfl
  refine ⟨?_, fun i => ?_⟩
  · rw [gi_all _ 18 (by rw [hL]; omega), hL, gi, gi_bytes _ (chk16 m c) _ hg, h1, Nat.one_mul, pN_eq]
  · by_cases hi : i < (chk16 m c).length
    · rw [hg i hi]
      exact ((chk16 m c).getD i 0).toNat_lt
    · by_cases he : i = (chk16 m c).length
      · subst he
        rw [h1]
        decide
      · rw [List.getD_eq_getElem?_getD, List.getElem?_eq_none (by rw [hL]; omega)]
        decide

theorem le_next (T k : Nat) : le T (k + 1) = le T k ++ [UInt8.ofNat (T / 256 ^ k % 256)] := by
  rw [le]
  congr 2
  apply UInt8.toNat_inj.1
  simp

end M

/-- 'append(xs, y)' onto a row of the call's own; and where the new row lies. -/
theorem wpList_appI_at (w : World) {ops : Array Oper} {rest : List Oper} {o : Oper} {a : Act} {Q : Exit → Act → World → Prop} (hg : o.guard = none) (s x : Operand)
    (ho : o.op = .call { callee := .builtin .append, args := #[s, x], argTypes := #[49, 49] })
    (B : Nat) (v : Value) (ws : List Nat) (hs : a.eval s = v) (hown : OwnI w B v ws) (g1 : Nat) (u : Nat) (hx : a.eval x = .slice (some ⟨g1, 0, none⟩) 1 1) (hc : w.cell? ⟨g1, 0, none⟩ = some (.int .i64 (u : Int)))
    (hlen : ws.length ≤ 1000000) (hB : B ≤ w.heap.size)
    (h : ∀ v' w', OwnI w' B v' (ws ++ [u]) → w.grownBy w' v.ownBlock → (v'.ownBlock = v.ownBlock ∨ v'.ownBlock = some w.heap.size) → wpList Tryd.prog ops Q rest (a.put o.dst v') w') : wpList Tryd.prog ops Q (o :: rest) a w := by
  obtain ⟨i0, h0, hz0, hz1, hz2⟩ := info_parts Tryd.info47
  refine wpList_append_own_at w hg s x _ ho B 3 i0 (.int .i64 0) 1 8 Tryd.underlying49 h0 hz0 hz1 hz2 rfl (by decide) v ws.length _ hs hown ⟨g1, 0, none⟩ 1 1 [ci u] hx rfl (fun j y hj => ?_) (fun y hy => by simp at hy; subst hy; rfl) (by unfold maxLen; omega) (by omega) hB ?_
  · match j, hj with
    | 0, hj =>
      simp at hj
      subst hj
      simpa [Addr.add, ci] using hc
  · intro v' w' hown' hgrow _ hat
    refine h v' w' ?_ hgrow hat
    rw [OwnI, List.length_append, ic_append]
    exact hown'

theorem OwnI.kept2 {w w' : World} {B : Nat} {v : Value} {ws : List Nat} {row : Option Nat} (h : OwnI w B v ws) (g : w.grownBy w' row) (hne : ∀ k, v.ownBlock = some k → row ≠ some k) : OwnI w' B v ws := by
  refine World.ownsRow.kept h g ?_
  cases hv : v.ownBlock with
  | none => exact .inl rfl
  | some k => exact .inr fun e => hne k hv e.symm

def ApartI (x y : Value) : Prop := ∀ k, x.ownBlock = some k → y.ownBlock ≠ some k

theorem ApartI.symm {x y : Value} (h : ApartI x y) : ApartI y x := fun k e1 e2 => h k e2 e1

theorem ApartI.next {w : World} {B : Nat} {x x' y : Value} {ws : List Nat} (h : ApartI x y) (hy : OwnI w B y ws) (n : Nat) (hn : w.heap.size ≤ n) (hat : x'.ownBlock = x.ownBlock ∨ x'.ownBlock = some n) : ApartI x' y := by
  intro k e1 e2
  rcases hat with hat | hat
  · exact h k (hat ▸ e1) e2
  · rw [hat] at e1
    injection e1 with e1
    have : k < w.heap.size := by
      rcases hy.2 with ⟨rfl, _⟩ | ⟨g, cap, cur, rfl, hb, hg, _⟩
      · simp [Value.ownBlock] at e2
      · obtain rfl : g = k := by simpa [Value.ownBlock] using e2
        exact (Array.getElem?_eq_some_iff.1 hg).1
    omega

theorem rtag_no (kv mv : Value) (key m : List UInt8) (w : World) (hk : IsB w kv key) (hl : ¬ key.length = 32) :
    Calls Tryd.prog 19 #[kv, mv] w fun e w' => e = .returned (.tuple #[.slice none 0 0, .int .i64 1]) ∧ w' = w := by
  obtain ⟨a1, c1, rfl, _, _, _⟩ := hk
  obtain ⟨n, hn⟩ : ∃ n, n = key.length := ⟨_, rfl⟩
  rw [← hn] at hl ⊢
  have hli : ¬ (n : Int) = 32 := by omega
  clear hn
  go_enter Tryd.func19, Tryd.ntmps19
  go_wp2
  go_ret2
  exact ⟨rfl, rfl⟩

end Go.Proofs.YtogklpeehfoijaaDoor
