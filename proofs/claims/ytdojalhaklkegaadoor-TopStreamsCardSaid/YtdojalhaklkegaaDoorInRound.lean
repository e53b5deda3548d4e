/-
  FROM THE PLAIN WALK TO A LOOP BODY's WALK WITHIN A RANGE OVER A FUNCTION: what a list of operations (none of them a defer statement) does in a function's own activation it does in a round; so laws on 'wpList' and 'wpStill' serve there. Conditions: the fence is the wide one; the post lets nothing outgrown out.
  A REGION THAT DRAWS ITS ORDER: reads that may come up in any order, and nothing else meanwhile, taken first in the world at hand. Conditions: none.
-/
import Derived.RangeFuncNested
import Derived.RangeFuncCalls
import Derived.StillTail
import Derived.TacticsIn
import Derived.OrdersIn

namespace Go.Proofs.YtdojalhaklkegaaDoor
open Go.RowKit
set_option linter.unusedVariables false

variable {P : Program} {Q : Exit → Act → World → Prop} {n : Nat}

theorem rows_in {row : String} {args : Array Value} {w : World} {R : Value → World → Prop} (l : Nat) (h : Rows P row args w R) : RowsIn (Fence.wide.inRound l) n P row args w R :=
  fun c cs _ => let ⟨v, w', r, s⟩ := h c cs; ⟨v, w', r, stepsIn_wide.2 s⟩

/-- One operation. -/
theorem wpIn_of_wp_op (l : Nat) {o : Oper} (hd : ∀ c, o.op ≠ .defer c) {a : Act} {w : World} {K : Act → World → Prop} (h : o.wp P a w K Q) : o.wpIn (Fence.wide.inRound l) n P a w K Q := by
  refine ⟨fun _ _ => trivial, ?_⟩
  show o.uponIn _ n P a K Q ((o.semAt (some l) a.eval).run P w)
  rw [Oper.semAt_some l _ _ hd]
  unfold Oper.wp at h
  generalize (execOp a.eval o).run P w = r at h
  cases r with
  | ok x w' =>
    cases x <;> simp only [Oper.upon, Oper.uponIn] at h ⊢
    all_goals first
      | exact h
      | exact ⟨fun hh => (by simp [Fence.wide, Fence.inRound] at hh), CallsIn.inRound l (callsIn_wide.2 h)⟩
      | exact ⟨fun hh => (by simp [Fence.wide, Fence.inRound] at hh), rows_in l h⟩
  | halt x w' => cases x <;> simp only [Oper.upon, Oper.uponIn] at h ⊢ <;> exact h

/-- No operation of the list is a defer statement. -/
def NoDefer (ops : List Oper) : Prop := ∀ o ∈ ops, ∀ c, o.op ≠ .defer c

theorem wpListIn_of_wpList (l : Nat) (hlo : ¬ LetsOut Q) {ops : Array Oper} : ∀ {rest : List Oper} {a : Act} {w : World}, NoDefer rest → wpList P ops Q rest a w → wpListIn (Fence.wide.inRound l) n P ops Q rest a w
  | [], _, _, _, h => h
  | o :: rest, a, w, hd, h => by
    unfold wpList at h
    unfold wpListIn
    split
    · rename_i hw
      rw [if_pos hw] at h
      rcases h with h | ⟨_, h⟩
      · exact wpIn_of_wp_op l (hd o (by simp)) (Oper.wp_mono (fun a w h => wpListIn_of_wpList l hlo (fun o' ho' => hd o' (by simp [ho'])) h) h)
      · exact absurd h hlo
    · rename_i hw
      rw [if_neg hw] at h
      exact ⟨fun _ _ => trivial, wpListIn_of_wpList l hlo (fun o' ho' => hd o' (by simp [ho'])) h⟩

theorem wpAnyIn_of_wpAny (l : Nat) (hlo : ¬ LetsOut Q) {ops : Array Oper} (hd : NoDefer ops.toList) {md : Region.Mode} : ∀ {k : Nat} {listed : Array Bool} {a : Act} {w : World}, wpAny P md ops Q k listed a w → wpAnyIn (Fence.wide.inRound l) n P md ops Q k listed a w
  | 0, _, _, _, h => h
  | k + 1, listed, a, w, ⟨h0, h1⟩ => by
    refine ⟨h0, fun i hi => ?_⟩
    have h := h1 i hi
    unfold wpOp at h
    unfold wpOpIn
    cases ho : ops[i]? with
    | none =>
      rw [ho] at h
      exact wpAnyIn_of_wpAny l hlo hd h
    | some o =>
      rw [ho] at h
      simp only at h ⊢
      have hm : o ∈ ops.toList := by
        have := Array.mem_of_getElem? ho
        simpa using this
      split
      · rename_i hw
        rw [if_pos hw] at h
        rcases h with h | ⟨_, h⟩
        · exact wpIn_of_wp_op l (hd o hm) (Oper.wp_mono (fun a w h => wpAnyIn_of_wpAny l hlo hd h) h)
        · exact absurd h hlo
      · rename_i hw
        rw [if_neg hw] at h
        exact ⟨fun _ _ => trivial, wpAnyIn_of_wpAny l hlo hd h⟩

/-- An operation that yields in whatever world, taken first; the slot that it writes known. -/
theorem wpAny_take_at {ops : Array Oper} {md : Region.Mode} {i d : Nat} {oi : Oper} {v : Value} {fuel : Nat} {listed : Array Bool} {tmps : Array Value} {defers : List Deferred} {w : World} (hi : ops[i]? = some oi) (hdst : oi.dst = some d)
    (hs : Region.noSelect ops = true) (hf : Region.free md ops listed i = true) (hr : (Region.ready md ops listed).contains i = true)
    (hQ : ∀ c a w, Q (.panic c) (a.put oi.dst v) w → Q (.panic c) a w) (hy : Yields P ops oi v { tmps := tmps, defers := defers })
    (h : wpAny P md ops Q fuel (listed.setIfInBounds i true) { tmps := tmps.setIfInBounds d v, defers := defers } w) : wpAny P md ops Q (fuel + 1) listed { tmps := tmps, defers := defers } w := by
  refine wpAny_take hi hs hf hr hQ hy ?_
  rw [hdst]
  exact h

/-- A region in its text's order. -/
theorem wpIn_region_of_list (l : Nat) (hlo : ¬ LetsOut Q) {id : Nat} {ops : List Oper} {a : Act} {w : World} (hd : NoDefer ops) (h : wpList P ops.toArray Q ops a w) : (Code.region id ops.toArray false).wpIn (Fence.wide.inRound l) n P Q a w :=
  wpIn_region_lit (wpListIn_of_wpList l hlo hd h)

/-- A region that draws, of reads and calls that leave the world alone, ahead of a forced tail. -/
theorem wpIn_region_still (r : Nat) (hlo : ¬ LetsOut Q) {id : Nat} {a : Act} {w : World} {l : List Oper} (m : Nat) (hm : P.follows .mixedOrders = true) (hB : Region.lexTailB .any l.toArray m = true) (hd : NoDefer l)
    (h : wpStill P l.toArray w.drew (fun a' => wpList P l.toArray Q (l.drop m) a' w.drew) (l.take m) a) : (Code.region id l.toArray true).wpIn (Fence.wide.inRound r) n P Q a w := by
  simp only [Region.lexTailB, Bool.and_eq_true, decide_eq_true_eq] at hB
  obtain ⟨⟨⟨⟨hsel, hn⟩, hs⟩, hc⟩, hlex⟩ := hB
  have hn' : m < l.length := by simpa using hn
  have htl : (l.take m).length = m := by simp; omega
  have hdl : (l.drop m).length = l.toArray.size - m := by simp
  have inv0 : HeadInv .any l.toArray m (Array.replicate l.toArray.size false) :=
    ⟨by simp, fun j oj _ hl => (by rw [getD_replicate_false] at hl; cases hl), fun t _ ht => getD_in (by simpa using ht) (getD_replicate_false _ _)⟩
  have H := wpAnyL_lex (md := .any) (g := l.toArray.size - m) hsel hs hc hn (l.take m) 0 _ a (fun j hj => by
    have hj' : j < m := by rw [htl] at hj; exact hj
    simp [hj']) (by simpa using htl) inv0 (by rw [htl]; exact hlex) h
  refine wpIn_region_any hm ?_
  have := wpAny_of_head (Q' := Q) (g := l.toArray.size - m) (fun listed a' hL => by
    have := wpAny_of_seq (md := .any) (Q' := Q) (l.drop m) m listed a' { w with drawn := w.drawn + 1 } (fun j => by simp [List.getElem?_drop]) (by rw [hdl]; exact hL.1) hL.2
    rwa [hdl] at this) _ _ _ H
  rw [htl, show m + (l.toArray.size - m) = l.toArray.size by omega] at this
  exact wpAnyIn_of_wpAny r hlo (by simpa using hd) this

end Go.Proofs.YtdojalhaklkegaaDoor

namespace Go.Proofs.YtdojalhaklkegaaDoor
open Go
set_option linter.unusedVariables false

variable {P : Program} {md : Region.Mode} {ops : Array Oper} {w : World}

/-- The next f operations: whichever come up, one alone is left for the last place. -/
def oneLast (md : Region.Mode) (ops : Array Oper) : Nat → Array Bool → Bool
  | 0, _ => true
  | 1, l => decide ((Region.ready md ops l).length ≤ 1)
  | f + 2, l => (Region.ready md ops l).all fun j => oneLast md ops (f + 1) (l.setIfInBounds j true)

theorem wpAnyL_first2 {i : Nat} {oi : Oper} {v : Value} {L : Array Bool → Act → Prop} (hi : ops[i]? = some oi) (hsel : ∀ (j : Nat) (o : Oper) cs b, ops[j]? = some o → o.op ≠ .select cs b) :
    ∀ (f : Nat) (listed : Array Bool) (a : Act), oneLast md ops (f + 1) listed = true →
      (∀ j oj, ops[j]? = some oj → j ≠ i → listed.getD j true = false → (∀ e ∈ oj.after, Region.binds md e = true → e.on ≠ i) → oi.apart ops oj = true) →
      i ∈ Region.ready md ops listed → YieldsAt P ops w oi v a →
      wpAnyL P md ops w ops.size L f (listed.setIfInBounds i true) (a.put oi.dst v) → wpAnyL P md ops w ops.size L (f + 1) listed a := by
  intro f
  induction f with
  | zero =>
    intro listed a ho _ hr hy H
    refine ⟨fun h => (by rw [h] at hr; cases hr), fun j hj => ?_⟩
    obtain ⟨_, oj, hoj, _⟩ := mem_ready.1 hj
    refine ⟨(Array.getElem?_eq_some_iff.1 hoj).1, ?_⟩
    have hl : (Region.ready md ops listed).length ≤ 1 := by simpa [oneLast] using ho
    obtain rfl : j = i := by
      match hq : Region.ready md ops listed, hl with
      | [x], _ =>
        rw [hq] at hj hr
        simp at hj hr
        rw [hj, hr]
      | [], _ => rw [hq] at hj; cases hj
    exact hy.stOp hi H
  | succ f ih =>
    intro listed a ho hfree hr hy H
    refine ⟨fun h => (by rw [h] at hr; cases hr), fun j hj => ?_⟩
    have hun := (mem_ready.1 hr).1
    obtain ⟨hjun, oj, hoj, hall⟩ := mem_ready.1 hj
    refine ⟨(Array.getElem?_eq_some_iff.1 hoj).1, ?_⟩
    by_cases hji : j = i
    · subst hji; exact hy.stOp hi H
    · have h1 := (H.2 j (ready_mono hj hji)).2
      have hnot : ∀ e ∈ oj.after, Region.binds md e = true → e.on ≠ i := fun e he hb heq => by
        have h1 := hall e he hb
        rw [heq, getD_both hun] at h1
        cases h1
      have h2 := stOp_put hoj (hfree j oj hoj hji hjun hnot) (fun cs b => hsel i oi cs b hi) (fun cs b => hsel j oj cs b hoj) hy h1
      have hfree' : ∀ k ok, ops[k]? = some ok → k ≠ i → (listed.setIfInBounds j true).getD k true = false →
          (∀ e ∈ ok.after, Region.binds md e = true → e.on ≠ i) → oi.apart ops ok = true := fun k ok hk hki hun hno => by
        refine hfree k ok hk hki ?_ hno
        by_cases hjk : j = k
        · subst hjk; exact hjun
        · rw [getD_set_ne true hjk] at hun; exact hun
      have ho' : oneLast md ops (f + 1) (listed.setIfInBounds j true) = true := List.all_eq_true.1 ho j hj
      refine stOp_mono (fun a' h3 => ih (listed.setIfInBounds j true) a' ho' hfree' (ready_mono hr (Ne.symm hji)) h3.1 ?_) h2
      rw [Array.setIfInBounds_comm _ _ hji]
      exact h3.2

/-- Number i taken first among reads; the slot that it writes known. -/
theorem wpAnyL_take_at {i d : Nat} {oi : Oper} {v : Value} {L : Array Bool → Act → Prop} {f : Nat} {listed : Array Bool} {tmps : Array Value} {defers : List Deferred} (hi : ops[i]? = some oi) (hdst : oi.dst = some d)
    (hs : Region.noSelect ops = true) (ho : oneLast md ops (f + 1) listed = true) (hf : Region.free md ops listed i = true) (hr : (Region.ready md ops listed).contains i = true)
    (hy : YieldsAt P ops w oi v { tmps := tmps, defers := defers })
    (h : wpAnyL P md ops w ops.size L f (listed.setIfInBounds i true) { tmps := tmps.setIfInBounds d v, defers := defers }) : wpAnyL P md ops w ops.size L (f + 1) listed { tmps := tmps, defers := defers } := by
  refine wpAnyL_first2 hi (Region.noSelect_spec hs) f listed _ ho (Region.free_spec hi hf) (by simpa using hr) hy ?_
  rw [hdst]
  exact h

/-- Reads, and then the rest. -/
theorem wpAny_reads (f g : Nat) {Q : Exit → Act → World → Prop} {listed : Array Bool} {a : Act} (h : wpAnyL P md ops w ops.size (fun listed' a' => wpAny P md ops Q g listed' a' w) f listed a) : wpAny P md ops Q (f + g) listed a w :=
  wpAny_of_head (fun _ _ h => h) f listed a h

end Go.Proofs.YtdojalhaklkegaaDoor
