/-
  A REGION THAT DRAWS ITS ORDER: reads that may come up in any order, and nothing else meanwhile, taken first in the world at hand. Conditions: none.
-/
import Derived.Test.YtogklpeehfoijaaDoorInRound
namespace Go.Proofs.YtogklpeehfoijaaDoor
open Go
set_option linter.unusedVariables false

variable {P : Program} {md : Region.Mode} {ops : Array Oper} {w : World}

/-- The next f operations: whichever come up, one alone is left for the last place. -/
def oneLast (md : Region.Mode) (ops : Array Oper) : Nat → Array Bool → Bool
  | 0, _ => true
  | 1, l => decide ((Region.ready md ops l).length ≤ 1)
  | f + 2, l => (Region.ready md ops l).all fun j => oneLast md ops (f + 1) (l.setIfInBounds j true)

theorem wpAnyL_first2 {i : Nat} {oi : Oper} {v : Value} {L : Array Bool → Act → Prop} (hi : ops[i]? = some oi) (hsel : ∀ (j : Nat) (o : Oper) cs b, ops[j]? = some o → o.op ≠ .select cs b) :
    ∀ (f : Nat) (listed : Array Bool) (a : Act), oneLast md ops (f + 1) listed = true →
      (∀ j oj, ops[j]? = some oj → j ≠ i → listed.getD j true = false → (∀ e ∈ oj.after, Region.binds md e = true → e.on ≠ i) → oi.apart ops oj = true) →
      i ∈ Region.ready md ops listed → YieldsAt P ops w oi v a →
      wpAnyL P md ops w ops.size L f (listed.setIfInBounds i true) (a.put oi.dst v) → wpAnyL P md ops w ops.size L (f + 1) listed a := by
  intro f
  induction f with
  | zero =>
    intro listed a ho _ hr hy H
    refine ⟨fun h => (by rw [h] at hr; cases hr), fun j hj => ?_⟩
    obtain ⟨_, oj, hoj, _⟩ := mem_ready.1 hj
    refine ⟨(Array.getElem?_eq_some_iff.1 hoj).1, ?_⟩
    have hl : (Region.ready md ops listed).length ≤ 1 := by simpa [oneLast] using ho
    obtain rfl : j = i := by
      match hq : Region.ready md ops listed, hl with
      | [x], _ =>
        rw [hq] at hj hr
        simp at hj hr
        rw [hj, hr]
      | [], _ => rw [hq] at hj; cases hj
    exact hy.stOp hi H
  | succ f ih =>
    intro listed a ho hfree hr hy H
    refine ⟨fun h => (by rw [h] at hr; cases hr), fun j hj => ?_⟩
    have hun := (mem_ready.1 hr).1
    obtain ⟨hjun, oj, hoj, hall⟩ := mem_ready.1 hj
    refine ⟨(Array.getElem?_eq_some_iff.1 hoj).1, ?_⟩
    by_cases hji : j = i
    · subst hji; exact hy.stOp hi H
    · have h1 := (H.2 j (ready_mono hj hji)).2
      have hnot : ∀ e ∈ oj.after, Region.binds md e = true → e.on ≠ i := fun e he hb heq => by
        have h1 := hall e he hb
        rw [heq, getD_both hun] at h1
        cases h1
      have h2 := stOp_put hoj (hfree j oj hoj hji hjun hnot) (fun cs b => hsel i oi cs b hi) (fun cs b => hsel j oj cs b hoj) hy h1
      have hfree' : ∀ k ok, ops[k]? = some ok → k ≠ i → (listed.setIfInBounds j true).getD k true = false →
          (∀ e ∈ ok.after, Region.binds md e = true → e.on ≠ i) → oi.apart ops ok = true := fun k ok hk hki hun hno => by
        refine hfree k ok hk hki ?_ hno
        by_cases hjk : j = k
        · subst hjk; exact hjun
        · rw [getD_set_ne true hjk] at hun; exact hun
      have ho' : oneLast md ops (f + 1) (listed.setIfInBounds j true) = true := List.all_eq_true.1 ho j hj
      refine stOp_mono (fun a' h3 => ih (listed.setIfInBounds j true) a' ho' hfree' (ready_mono hr (Ne.symm hji)) h3.1 ?_) h2
      rw [Array.setIfInBounds_comm _ _ hji]
      exact h3.2

/-- Number i taken first among reads; the slot that it writes known. -/
theorem wpAnyL_take_at {i d : Nat} {oi : Oper} {v : Value} {L : Array Bool → Act → Prop} {f : Nat} {listed : Array Bool} {tmps : Array Value} {defers : List Deferred} (hi : ops[i]? = some oi) (hdst : oi.dst = some d)
    (hs : Region.noSelect ops = true) (ho : oneLast md ops (f + 1) listed = true) (hf : Region.free md ops listed i = true) (hr : (Region.ready md ops listed).contains i = true)
    (hy : YieldsAt P ops w oi v { tmps := tmps, defers := defers })
    (h : wpAnyL P md ops w ops.size L f (listed.setIfInBounds i true) { tmps := tmps.setIfInBounds d v, defers := defers }) : wpAnyL P md ops w ops.size L (f + 1) listed { tmps := tmps, defers := defers } := by
  refine wpAnyL_first2 hi (Region.noSelect_spec hs) f listed _ ho (Region.free_spec hi hf) (by simpa using hr) hy ?_
  rw [hdst]
  exact h

/-- Reads, and then the rest. -/
theorem wpAny_reads (f g : Nat) {Q : Exit → Act → World → Prop} {listed : Array Bool} {a : Act} (h : wpAnyL P md ops w ops.size (fun listed' a' => wpAny P md ops Q g listed' a' w) f listed a) : wpAny P md ops Q (f + g) listed a w :=
  wpAny_of_head (fun _ _ h => h) f listed a h

end Go.Proofs.YtogklpeehfoijaaDoor
