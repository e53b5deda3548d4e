/-
  '==' OF TWO NUMBERS OF orlopref07 (arrays of 32 ints). Conditions: both are below 2^256.
-/
import Derived.Test.YteombilmndlhjaaRefR
import Derived.ChangeKeysEq
import Derived.Laws.StructEq
namespace Go.Proofs.Yteombilmndlhjaa
open Go.RowKit
set_option linter.unusedVariables false

theorem M.dg_eq {x y : Nat} (hx : x < 256 ^ 32) (hy : y < 256 ^ 32) (h : ∀ i, i < 32 → x / 256 ^ i % 256 = y / 256 ^ i % 256) : x = y := by
  have e : M.dg x 32 = M.dg y 32 := by
    apply M.ext_getDN
    · rw [M.dg_length, M.dg_length]
    · intro i hi
      rw [M.dg_length] at hi
      rw [M.dg_get x 32 i hi, M.dg_get y 32 i hi, h i hi]
  have h1 := M.gi_dg x 32 32 (Nat.le_refl _)
  have h2 := M.gi_dg y 32 32 (Nat.le_refl _)
  rw [Nat.mod_eq_of_lt hx] at h1
  rw [Nat.mod_eq_of_lt hy] at h2
  rw [← h1, ← h2, e]

theorem eq_items {x y : Nat} {K L : List Value} (hK : IsN K x) (hL : IsN L y) (w : World) : ∀ is : List Nat, (∀ i ∈ is, i < 32) →
    (Op.eqItems 9999 3 1 K.toArray L.toArray is).run Try.prog w = .ok (is.all fun i => decide (x / 256 ^ i % 256 = y / 256 ^ i % 256)) w
  | [], _ => by simp [Op.eqItems]
  | i :: is, h => by
    have hi : i < 32 := h i (by simp)
    have ih := eq_items hK hL w is fun j hj => h j (by simp [hj])
    have pk : Try.prog.plainKey 3 = true := by kernel_rfl
    have e1 : K.toArray[i * 1]? = some (.int .i64 ((x / 256 ^ i % 256 : Nat) : Int)) := by
      rw [Nat.mul_one, List.getElem?_toArray, hK.1, nm_get x i hi]
    have e2 : L.toArray[i * 1]? = some (.int .i64 ((y / 256 ^ i % 256 : Nat) : Int)) := by
      rw [Nat.mul_one, List.getElem?_toArray, hL.1, nm_get y i hi]
    rw [Op.eqItems]
    simp only [Sem.run_bind, run_part_plain w pk e1, run_part_plain w pk e2, Result.andThen_ok]
    rw [run_equalIn_int w 9998 3 .i64 .i64 _ _ Try.underlying3]
    simp only [Result.andThen_ok]
    by_cases he : x / 256 ^ i % 256 = y / 256 ^ i % 256
    · simp [he, ih]
    · have hb : (((x / 256 ^ i % 256 : Nat) : Int) == ((y / 256 ^ i % 256 : Nat) : Int)) = false := by
        rw [beq_eq_false_iff_ne]
        intro h2
        exact he (by omega)
      simp only [hb]
      simp [he]

/-- The numbers are compared. -/
theorem run_eq_num {x y : Nat} {K L : List Value} (hK : IsN K x) (hL : IsN L y) (w : World) : (binOp .eql 49 (.agg K.toArray) (.agg L.toArray)).run Try.prog w = .ok (.bool (decide (x = y))) w := by
  obtain ⟨i0, hi⟩ := info_of_underlying Try.underlying3
  rw [run_eql_struct, run_equalIn_array w 9999 K.toArray L.toArray Try.underlying49 hi]
  rw [show Try.prog.cellsOf 3 = 1 by kernel_rfl, eq_items hK hL w _ (fun i h => by simpa using h)]
  simp only [Result.andThen_ok]
  congr 2
  by_cases h : x = y
  · subst h
    simp
  · rw [decide_eq_false h]
    simp only [List.all_eq_false, decide_eq_true_eq]
    refine Classical.byContradiction fun hn => h (M.dg_eq hK.2 hL.2 fun i hi => ?_)
    refine Classical.byContradiction fun hne => hn ⟨i, by simpa using hi, hne⟩

end Go.Proofs.Yteombilmndlhjaa
