/-
  FROM THE PLAIN WALK TO A WALK AT THE WIDE FENCE, FOR THE FIRST OPERATIONS OF A LIST. Conditions: the post lets nothing outgrown out.
-/
import Derived.Test.YtdojalhaklkegaaDoorInRound
namespace Go.Proofs.YtdojalhaklkegaaDoor
open Go.RowKit
set_option linter.unusedVariables false

variable {P : Program} {Q : Exit → Act → World → Prop} {n : Nat}

theorem rows_wide {row : String} {args : Array Value} {w : World} {R : Value → World → Prop} (h : Rows P row args w R) : RowsIn Fence.wide n P row args w R :=
  fun c cs _ => let ⟨v, w', r, s⟩ := h c cs; ⟨v, w', r, stepsIn_wide.2 s⟩

theorem wpInW_of_wp {o : Oper} {a : Act} {w : World} {K K' : Act → World → Prop} (h : o.wp P a w K (Exit.then K' Q)) : o.wpIn Fence.wide n P a w K Q := by
  refine ⟨fun _ _ => trivial, ?_⟩
  show o.uponIn _ n P a K Q ((execOp a.eval o).run P w)
  unfold Oper.wp at h
  generalize (execOp a.eval o).run P w = r at h
  cases r with
  | ok x w' =>
    cases x <;> simp only [Oper.upon, Oper.uponIn] at h ⊢
    all_goals first
      | exact h
      | exact ⟨fun hh => (by simp [Fence.wide] at hh), callsIn_wide.2 h⟩
      | exact ⟨fun hh => (by simp [Fence.wide] at hh), rows_wide h⟩
  | halt x w' => cases x <;> simp only [Oper.upon, Oper.uponIn] at h ⊢ <;> exact h

theorem wpListInW_split (hlo : ¬ LetsOut Q) {ops : Array Oper} : ∀ (m : Nat) {l : List Oper} {a : Act} {w : World},
    wpList P ops (Exit.then (fun a w => wpListIn Fence.wide n P ops Q (l.drop m) a w) Q) (l.take m) a w → wpListIn Fence.wide n P ops Q l a w
  | 0, _, _, _, h => h
  | m + 1, [], a, w, h => h
  | m + 1, o :: rest, a, w, h => by
    simp only [List.take_succ_cons, List.drop_succ_cons] at h
    unfold wpList at h
    unfold wpListIn
    split
    · rename_i hw
      rw [if_pos hw] at h
      rcases h with h | ⟨_, h⟩
      · exact wpInW_of_wp (Oper.wp_mono (fun a w h => wpListInW_split hlo m h) h)
      · exact absurd h hlo
    · rename_i hw
      rw [if_neg hw] at h
      exact ⟨fun _ _ => trivial, wpListInW_split hlo m h⟩

end Go.Proofs.YtdojalhaklkegaaDoor
