/-
  CONTRACTS OF word.Equal AND word.Wipe. Conditions: what is wiped is a row of the call's own.
-/
import Derived.Test.YtdojalhaklkegaaRefA
import Derived.Lib.SliceRun
namespace Go.Proofs.Ytdojalhaklkegaa
open Go.RowKit

theorem xor_zero_iff (a b : Nat) : a ^^^ b = 0 ↔ a = b := by
  constructor
  · intro h
    apply Nat.eq_of_testBit_eq
    intro i
    have := congrArg (fun n => n.testBit i) h
    simpa using this
  · rintro rfl
    exact Nat.xor_self a

theorem or_zero_iff (a b : Nat) : a ||| b = 0 ↔ a = 0 ∧ b = 0 := by
  constructor
  · intro h
    refine ⟨Nat.eq_of_testBit_eq fun i => ?_, Nat.eq_of_testBit_eq fun i => ?_⟩
    all_goals
      have := congrArg (fun n => n.testBit i) h
      simp at this
      simp [this]
  · rintro ⟨rfl, rfl⟩
    rfl

theorem take_succ_iff (xs ys : List UInt8) (k : Nat) (hx : k < xs.length) (hy : k < ys.length) :
    xs.take (k + 1) = ys.take (k + 1) ↔ xs.take k = ys.take k ∧ (xs.getD k 0).toNat = (ys.getD k 0).toNat := by
  constructor
  · intro h
    refine ⟨?_, ?_⟩
    · have := congrArg (List.take k) h
      simpa [List.take_take, Nat.min_eq_left (Nat.le_succ k)] using this
    · have := congrArg (fun l => (l.getD k 0)) h
      simp [List.getD_eq_getElem?_getD] at this
      simp [List.getD_eq_getElem?_getD, this]
  · rintro ⟨h1, h2⟩
    exact M.take_next xs ys k hx hy h1 h2

theorem requal_b (v1 v2 : Value) (xs ys : List UInt8) (w : World) (h1 : IsB w v1 xs) (h2 : IsB w v2 ys) :
    Calls Try.prog 11 #[v1, v2] w fun e w' => e = .returned (.bool (decide (xs = ys))) ∧ Below w.heap.size w w' := by
  refine (equal_any v1 v2 xs ys w h1 h2).mono ?_
  rintro e w' ⟨rfl, n, rfl⟩
  exact ⟨rfl, below_draws w n⟩

/-- Cells written one after the other, from the place o on. -/
def over (xs : List Value) : Nat → List Value → List Value
  | _, [] => xs
  | o, v :: r => over (xs.set o v) (o + 1) r

theorem over_all (z : Value) : ∀ (ys : List Value) (o : Nat), over (List.replicate o z ++ ys) o (List.replicate ys.length z) = List.replicate (o + ys.length) z := by
  intro ys
  induction ys with
  | nil => intro o; simp [over]
  | cons y r ih =>
    intro o
    have e : (List.replicate o z ++ y :: r).set o z = List.replicate (o + 1) z ++ r := by
      rw [List.replicate_succ', List.append_assoc]
      simp
    rw [List.length_cons, List.replicate_succ, over, e, ih (o + 1)]
    congr 1
    omega

/-- Many stores into a row that is owned. -/
theorem stored_many {base g n cap : Nat} {e : TypeId} : ∀ (vs : List Value) (o : Nat) (w : World) (xs : List Value), w.ownsRow base e 1 (.slice (some ⟨g, 0, none⟩) n cap) n xs →
    (w.setCells g o vs).ownsRow base e 1 (.slice (some ⟨g, 0, none⟩) n cap) n (over xs o vs) ∧ w.grownBy (w.setCells g o vs) (some g) := by
  intro vs
  induction vs with
  | nil => intro o w xs h; exact ⟨h, World.grownBy.refl _ _⟩
  | cons v r ih =>
    intro o w xs h
    obtain ⟨h1, g1⟩ := h.stored o v
    obtain ⟨h2, g2⟩ := ih (o + 1) _ _ h1
    refine ⟨h2, ⟨g2.os.trans g1.os, g2.tape.trans g1.tape, g2.output.trans g1.output, Nat.le_trans g1.size g2.size, fun k hk hne => ?_⟩⟩
    exact (g2.block k (Nat.lt_of_lt_of_le hk g1.size) hne).trans (g1.block k hk hne)

end Go.Proofs.Ytdojalhaklkegaa
