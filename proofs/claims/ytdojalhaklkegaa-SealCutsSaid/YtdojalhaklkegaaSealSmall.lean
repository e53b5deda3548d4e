/-
  CONTRACT OF orloplaw17.small; an Ask where it lies. Conditions: none.
-/
import Derived.Test.YtdojalhaklkegaaSealAwake
namespace Go.Proofs.Ytdojalhaklkegaa
open Go.RowKit Go.Maps
set_option linter.unusedVariables false
set_option maxRecDepth 100000

set_option maxHeartbeats 4000000 in
theorem small17_any (a1 a2 a3 a4 : Option Addr) (n1 n2 n3 n4 c1 c2 c3 c4 : Nat) (size : Int) (w : World) (h4l : n4 < 9223372036854775808) (hsz : size < 9223372036854775808) :
    Calls Try.prog 5 #[.agg #[.slice a1 n1 c1, .slice a2 n2 c2, .slice a3 n3 c3, .slice a4 n4 c4, .int .i64 size]] w fun e w' => ∃ r, e = .returned (.bool r) ∧ (r = true → n3 ≤ 300 ∧ n4 ≤ 1500 ∧ (size < 1 ∨ n4 / size.toNat ≤ 60)) ∧ Below w.heap.size w w' := by
  have E0 := Lib.hid ((Below.refl w.heap.size w).alloc (Nat.le_refl _) (.cells #[.slice a1 n1 c1, .slice a2 n2 c2, .slice a3 n3 c3, .slice a4 n4 c4, .int .i64 size] 24))
  by_cases h3 : n3 ≤ 300
  · have q3 : decide ((n3 : Int) ≤ 300) = true := decide_eq_true (by omega)
    by_cases h4 : n4 ≤ 1500
    · have q4 : decide ((n4 : Int) ≤ 1500) = true := decide_eq_true (by omega)
      by_cases h5 : size < 1
      · have q5 : decide (size < 1) = true := decide_eq_true h5
        have HE : Hid (n3 ≤ 300 ∧ n4 ≤ 1500 ∧ (size < 1 ∨ n4 / size.toNat ≤ 60)) := ⟨h3, h4, .inl h5⟩
        clear h3 h4 h5 h4l hsz
        go_enter Try.func5, Try.ntmps5
        go_wp2
        go_ret
        exact ⟨true, rfl, fun _ => HE.out, E0.out⟩
      · have q5 : decide (size < 1) = false := decide_eq_false h5
        obtain ⟨b, rfl⟩ := Int.eq_ofNat_of_zero_le (show 0 ≤ size by omega)
        have zn : ¬ b = 0 := by omega
        obtain ⟨q, hq⟩ : ∃ q, q = n4 / b := ⟨_, rfl⟩
        have hqn : q ≤ n4 := by rw [hq]; exact Nat.div_le_self _ _
        have v3 : wrap64 (q : Int) = (q : Int) := by clear hq; unfold wrap64; omega
        have v1 : (n4 : Int).tdiv (b : Int) = (q : Int) := by rw [hq]; rfl
        by_cases h6 : q ≤ 60
        · have HE : Hid (n3 ≤ 300 ∧ n4 ≤ 1500 ∧ ((b : Int) < 1 ∨ n4 / ((b : Int)).toNat ≤ 60)) := ⟨h3, h4, .inr (by rw [Int.toNat_natCast, ← hq]; exact h6)⟩
          have q6 : decide ((q : Int) ≤ 60) = true := decide_eq_true (Int.ofNat_le.2 h6)
          clear h3 h4 h5 h4l hsz hq hqn h6
          go_enter Try.func5, Try.ntmps5
          go_wp2
          go_ret
          exact ⟨true, rfl, fun _ => HE.out, E0.out⟩
        · have q6 : decide ((q : Int) ≤ 60) = false := decide_eq_false (fun h => h6 (Int.ofNat_le.1 h))
          clear h3 h4 h5 h4l hsz hq hqn h6
          go_enter Try.func5, Try.ntmps5
          go_wp2
          go_ret
          exact ⟨false, rfl, fun h => absurd h (by decide), E0.out⟩
    · have q4 : decide ((n4 : Int) ≤ 1500) = false := decide_eq_false (by omega)
      clear h3 h4 h4l hsz
      go_enter Try.func5, Try.ntmps5
      go_wp2
      go_ret
      exact ⟨false, rfl, fun h => absurd h (by decide), E0.out⟩
  · have q3 : decide ((n3 : Int) ≤ 300) = false := decide_eq_false (by omega)
    clear h3 h4l hsz
    go_enter Try.func5, Try.ntmps5
    go_wp2
    go_ret
    exact ⟨false, rfl, fun h => absurd h (by decide), E0.out⟩

end Go.Proofs.Ytdojalhaklkegaa
