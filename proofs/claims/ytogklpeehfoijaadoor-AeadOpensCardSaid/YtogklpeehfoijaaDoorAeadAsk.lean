/-
  A KEY, A NONCE, WHAT IS SAID BESIDE AND A TEXT IN ONE BLOCK (orloplaw06.Ask by value): where they lie; and orloplaw06.small. Conditions: none.
-/
import Derived.Test.YtogklpeehfoijaaDoorAeadAwake
import Derived.Test.YtogklpeehfoijaaDoorRefOpen
namespace Go.Proofs.YtogklpeehfoijaaDoor
open Go.RowKit
set_option linter.unusedVariables false

/-- Where an ask lies, and what its rows are. -/
structure AskIs (w : World) (g : Nat) (kv nv bv tv : Value) (key nonce beside text : List UInt8) : Prop where
  blk : Blk w g 24 [kv, nv, bv, tv]
  key : IsB w kv key
  nonce : IsB w nv nonce
  beside : IsB w bv beside
  text : IsB w tv text

theorem AskIs.below {w w' : World} {g : Nat} {kv nv bv tv : Value} {key nonce beside text : List UInt8} (h : AskIs w g kv nv bv tv key nonce beside text) (k : Below w.heap.size w w') : AskIs w' g kv nv bv tv key nonce beside text :=
  ⟨h.blk.below k h.blk.lt, h.key.below k, h.nonce.below k, h.beside.below k, h.text.below k⟩

theorem AskIs.c0 {w : World} {g : Nat} {kv nv bv tv : Value} {key nonce beside text : List UInt8} (h : AskIs w g kv nv bv tv key nonce beside text) : w.cell? ⟨g, 0, none⟩ = some kv := by rw [h.blk.cell]; rfl
theorem AskIs.c1 {w : World} {g : Nat} {kv nv bv tv : Value} {key nonce beside text : List UInt8} (h : AskIs w g kv nv bv tv key nonce beside text) : w.cell? ⟨g, 1, none⟩ = some nv := by rw [h.blk.cell]; rfl
theorem AskIs.c2 {w : World} {g : Nat} {kv nv bv tv : Value} {key nonce beside text : List UInt8} (h : AskIs w g kv nv bv tv key nonce beside text) : w.cell? ⟨g, 2, none⟩ = some bv := by rw [h.blk.cell]; rfl
theorem AskIs.c3 {w : World} {g : Nat} {kv nv bv tv : Value} {key nonce beside text : List UInt8} (h : AskIs w g kv nv bv tv key nonce beside text) : w.cell? ⟨g, 3, none⟩ = some tv := by rw [h.blk.cell]; rfl

theorem AskIs.range {w : World} {g : Nat} {kv nv bv tv : Value} {key nonce beside text : List UInt8} (h : AskIs w g kv nv bv tv key nonce beside text) : w.rangeAt g 0 [kv, nv, bv, tv] := h.blk.range 0 _ [] rfl

theorem askIs_new {w : World} {kv nv bv tv : Value} {key nonce beside text : List UInt8} (hk : IsB w kv key) (hn : IsB w nv nonce) (hb : IsB w bv beside) (ht : IsB w tv text) :
    AskIs (w.alloc (.cells #[kv, nv, bv, tv] 24)) w.heap.size kv nv bv tv key nonce beside text :=
  have k : Below w.heap.size w (w.alloc (.cells #[kv, nv, bv, tv] 24)) := (Below.refl _ _).alloc (Nat.le_refl _) _
  ⟨Blk.newAt _ _ _ _ _ rfl rfl, hk.below k, hn.below k, hb.below k, ht.below k⟩

theorem small_any (a1 a2 a3 a4 : Option Addr) (n1 n2 n3 n4 c1 c2 c3 c4 : Nat) (w : World) :
    Calls Tryd.prog 8 #[.agg #[.slice a1 n1 c1, .slice a2 n2 c2, .slice a3 n3 c3, .slice a4 n4 c4]] w fun e w' => e = .returned (.bool (decide (n3 ≤ 1024 ∧ n4 ≤ 1024))) ∧ Below w.heap.size w w' := by
  by_cases h3 : n3 ≤ 1024
  · by_cases h4 : n4 ≤ 1024
    · rw [decide_eq_true ⟨h3, h4⟩]
      have h3' : (n3 : Int) ≤ 1024 := by omega
      have h4' : (n4 : Int) ≤ 1024 := by omega
      have e0 := (Below.refl w.heap.size w).alloc (Nat.le_refl _) (.cells #[.slice a1 n1 c1, .slice a2 n2 c2, .slice a3 n3 c3, .slice a4 n4 c4] 24)
      go_enter Tryd.func8, Tryd.ntmps8
      go_wp2
      go_ret
      exact ⟨rfl, e0⟩
    · rw [decide_eq_false (fun h => h4 h.2)]
      have h3' : (n3 : Int) ≤ 1024 := by omega
      have h4' : ¬ (n4 : Int) ≤ 1024 := by omega
      have e0 := (Below.refl w.heap.size w).alloc (Nat.le_refl _) (.cells #[.slice a1 n1 c1, .slice a2 n2 c2, .slice a3 n3 c3, .slice a4 n4 c4] 24)
      go_enter Tryd.func8, Tryd.ntmps8
      go_wp2
      go_ret
      exact ⟨rfl, e0⟩
  · rw [decide_eq_false (fun h => h3 h.1)]
    have h3' : ¬ (n3 : Int) ≤ 1024 := by omega
    have e0 := (Below.refl w.heap.size w).alloc (Nat.le_refl _) (.cells #[.slice a1 n1 c1, .slice a2 n2 c2, .slice a3 n3 c3, .slice a4 n4 c4] 24)
    go_enter Tryd.func8, Tryd.ntmps8
    go_wp2
    go_ret
    exact ⟨rfl, e0⟩

theorem requal_same (v1 v2 : Value) (bs : List UInt8) (w : World) (h1 : IsB w v1 bs) (h2 : IsB w v2 bs) :
    Calls Tryd.prog 11 #[v1, v2] w fun e w' => e = .returned (.bool true) ∧ Below w.heap.size w w' := by
  refine (equal_any v1 v2 bs bs w h1 h2).mono ?_
  rintro e w' ⟨rfl, n, rfl⟩
  exact ⟨by simp, below_draws w n⟩

end Go.Proofs.YtogklpeehfoijaaDoor
