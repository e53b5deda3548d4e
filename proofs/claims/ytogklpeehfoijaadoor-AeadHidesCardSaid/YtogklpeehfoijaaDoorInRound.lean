/-
  FROM THE PLAIN WALK TO A LOOP BODY's WALK WITHIN A RANGE OVER A FUNCTION: what a list of operations (none of them a defer statement) does in a function's own activation it does in a round; so laws on 'wpList' and 'wpStill' serve there. Conditions: the fence is the wide one; the post lets nothing outgrown out.
-/
import Derived.RangeFuncNested
import Derived.RangeFuncCalls
import Derived.StillTail
import Derived.TacticsIn
import Derived.OrdersIn
namespace Go.Proofs.YtogklpeehfoijaaDoor
open Go.RowKit
set_option linter.unusedVariables false

variable {P : Program} {Q : Exit → Act → World → Prop} {n : Nat}

theorem rows_in {row : String} {args : Array Value} {w : World} {R : Value → World → Prop} (l : Nat) (h : Rows P row args w R) : RowsIn (Fence.wide.inRound l) n P row args w R :=
  fun c cs _ => let ⟨v, w', r, s⟩ := h c cs; ⟨v, w', r, stepsIn_wide.2 s⟩

/-- One operation. -/
theorem wpIn_of_wp_op (l : Nat) {o : Oper} (hd : ∀ c, o.op ≠ .defer c) {a : Act} {w : World} {K : Act → World → Prop} (h : o.wp P a w K Q) : o.wpIn (Fence.wide.inRound l) n P a w K Q := by
  refine ⟨fun _ _ => trivial, ?_⟩
  show o.uponIn _ n P a K Q ((o.semAt (some l) a.eval).run P w)
  rw [Oper.semAt_some l _ _ hd]
  unfold Oper.wp at h
  generalize (execOp a.eval o).run P w = r at h
  cases r with
  | ok x w' =>
    cases x <;> simp only [Oper.upon, Oper.uponIn] at h ⊢
    all_goals first
      | exact h
      | exact ⟨fun hh => (by simp [Fence.wide, Fence.inRound] at hh), CallsIn.inRound l (callsIn_wide.2 h)⟩
      | exact ⟨fun hh => (by simp [Fence.wide, Fence.inRound] at hh), rows_in l h⟩
  | halt x w' => cases x <;> simp only [Oper.upon, Oper.uponIn] at h ⊢ <;> exact h

/-- No operation of the list is a defer statement. -/
def NoDefer (ops : List Oper) : Prop := ∀ o ∈ ops, ∀ c, o.op ≠ .defer c

theorem wpListIn_of_wpList (l : Nat) (hlo : ¬ LetsOut Q) {ops : Array Oper} : ∀ {rest : List Oper} {a : Act} {w : World}, NoDefer rest → wpList P ops Q rest a w → wpListIn (Fence.wide.inRound l) n P ops Q rest a w
  | [], _, _, _, h => h
  | o :: rest, a, w, hd, h => by
    unfold wpList at h
    unfold wpListIn
    split
    · rename_i hw
      rw [if_pos hw] at h
      rcases h with h | ⟨_, h⟩
      · exact wpIn_of_wp_op l (hd o (by simp)) (Oper.wp_mono (fun a w h => wpListIn_of_wpList l hlo (fun o' ho' => hd o' (by simp [ho'])) h) h)
      · exact absurd h hlo
    · rename_i hw
      rw [if_neg hw] at h
      exact ⟨fun _ _ => trivial, wpListIn_of_wpList l hlo (fun o' ho' => hd o' (by simp [ho'])) h⟩

theorem wpAnyIn_of_wpAny (l : Nat) (hlo : ¬ LetsOut Q) {ops : Array Oper} (hd : NoDefer ops.toList) {md : Region.Mode} : ∀ {k : Nat} {listed : Array Bool} {a : Act} {w : World}, wpAny P md ops Q k listed a w → wpAnyIn (Fence.wide.inRound l) n P md ops Q k listed a w
  | 0, _, _, _, h => h
  | k + 1, listed, a, w, ⟨h0, h1⟩ => by
    refine ⟨h0, fun i hi => ?_⟩
    have h := h1 i hi
    unfold wpOp at h
    unfold wpOpIn
    cases ho : ops[i]? with
    | none =>
      rw [ho] at h
      exact wpAnyIn_of_wpAny l hlo hd h
    | some o =>
      rw [ho] at h
      simp only at h ⊢
      have hm : o ∈ ops.toList := by
        have := Array.mem_of_getElem? ho
        simpa using this
      split
      · rename_i hw
        rw [if_pos hw] at h
        rcases h with h | ⟨_, h⟩
        · exact wpIn_of_wp_op l (hd o hm) (Oper.wp_mono (fun a w h => wpAnyIn_of_wpAny l hlo hd h) h)
        · exact absurd h hlo
      · rename_i hw
        rw [if_neg hw] at h
        exact ⟨fun _ _ => trivial, wpAnyIn_of_wpAny l hlo hd h⟩

/-- An operation that yields in whatever world, taken first; the slot that it writes known. -/
theorem wpAny_take_at {ops : Array Oper} {md : Region.Mode} {i d : Nat} {oi : Oper} {v : Value} {fuel : Nat} {listed : Array Bool} {tmps : Array Value} {defers : List Deferred} {w : World} (hi : ops[i]? = some oi) (hdst : oi.dst = some d)
    (hs : Region.noSelect ops = true) (hf : Region.free md ops listed i = true) (hr : (Region.ready md ops listed).contains i = true)
    (hQ : ∀ c a w, Q (.panic c) (a.put oi.dst v) w → Q (.panic c) a w) (hy : Yields P ops oi v { tmps := tmps, defers := defers })
    (h : wpAny P md ops Q fuel (listed.setIfInBounds i true) { tmps := tmps.setIfInBounds d v, defers := defers } w) : wpAny P md ops Q (fuel + 1) listed { tmps := tmps, defers := defers } w := by
  refine wpAny_take hi hs hf hr hQ hy ?_
  rw [hdst]
  exact h

/-- A region in its text's order. -/
theorem wpIn_region_of_list (l : Nat) (hlo : ¬ LetsOut Q) {id : Nat} {ops : List Oper} {a : Act} {w : World} (hd : NoDefer ops) (h : wpList P ops.toArray Q ops a w) : (Code.region id ops.toArray false).wpIn (Fence.wide.inRound l) n P Q a w :=
  wpIn_region_lit (wpListIn_of_wpList l hlo hd h)

/-- A region that draws, of reads and calls that leave the world alone, ahead of a forced tail. -/
theorem wpIn_region_still (r : Nat) (hlo : ¬ LetsOut Q) {id : Nat} {a : Act} {w : World} {l : List Oper} (m : Nat) (hm : P.follows .mixedOrders = true) (hB : Region.lexTailB .any l.toArray m = true) (hd : NoDefer l)
    (h : wpStill P l.toArray w.drew (fun a' => wpList P l.toArray Q (l.drop m) a' w.drew) (l.take m) a) : (Code.region id l.toArray true).wpIn (Fence.wide.inRound r) n P Q a w := by
  simp only [Region.lexTailB, Bool.and_eq_true, decide_eq_true_eq] at hB
  obtain ⟨⟨⟨⟨hsel, hn⟩, hs⟩, hc⟩, hlex⟩ := hB
  have hn' : m < l.length := by simpa using hn
  have htl : (l.take m).length = m := by simp; omega
  have hdl : (l.drop m).length = l.toArray.size - m := by simp
  have inv0 : HeadInv .any l.toArray m (Array.replicate l.toArray.size false) :=
    ⟨by simp, fun j oj _ hl => (by rw [getD_replicate_false] at hl; cases hl), fun t _ ht => getD_in (by simpa using ht) (getD_replicate_false _ _)⟩
  have H := wpAnyL_lex (md := .any) (g := l.toArray.size - m) hsel hs hc hn (l.take m) 0 _ a (fun j hj => by
    have hj' : j < m := by rw [htl] at hj; exact hj
    simp [hj']) (by simpa using htl) inv0 (by rw [htl]; exact hlex) h
  refine wpIn_region_any hm ?_
  have := wpAny_of_head (Q' := Q) (g := l.toArray.size - m) (fun listed a' hL => by
    have := wpAny_of_seq (md := .any) (Q' := Q) (l.drop m) m listed a' { w with drawn := w.drawn + 1 } (fun j => by simp [List.getElem?_drop]) (by rw [hdl]; exact hL.1) hL.2
    rwa [hdl] at this) _ _ _ H
  rw [htl, show m + (l.toArray.size - m) = l.toArray.size by omega] at this
  exact wpAnyIn_of_wpAny r hlo (by simpa using hd) this

end Go.Proofs.YtogklpeehfoijaaDoor
