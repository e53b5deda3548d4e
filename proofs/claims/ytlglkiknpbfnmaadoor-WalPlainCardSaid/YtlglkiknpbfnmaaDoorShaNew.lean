/-
  CONTRACTS OF sha.New AND sha.padding. Conditions: the program's two tables lie as they were laid.
-/
import Derived.Test.YtlglkiknpbfnmaaDoorShaHash
import Derived.Test.YtlglkiknpbfnmaaDoorWordA
namespace Go.Proofs.YtlglkiknpbfnmaaDoor
open Go.RowKit
set_option linter.unusedVariables false

/-- An operation whose value is known. -/
theorem wpList_value {P : Program} {ops : Array Oper} {rest : List Oper} {o : Oper} {a : Act} {w : World} {Q : Exit → Act → World → Prop} (hg : o.guard = none) (v : Value)
    (h : (execOp a.eval o).run P w = .ok (.value v) w) (hk : wpList P ops Q rest (a.put o.dst v) w) : wpList P ops Q (o :: rest) a w := by
  refine wpList_plain hg fun K hK => ?_
  unfold Oper.wp
  rw [h]
  exact hK _ _ hk

theorem new_any (w : World) (hL : Laid w) :
    Calls Tryd.prog 56 #[] w fun e w' => e = .returned (.pointer (some ⟨w.heap.size, 0, none⟩)) ∧ HashIs w' w.heap.size [] ∧ Below w.heap.size w w' := by
  have HR : Hid (w.rangeAt 0 0 (wc M.H0.l)) := by
    intro j v hv
    have hj : j < 8 := by have := (List.getElem?_eq_some_iff.1 hv).1; rwa [wc_length] at this
    rw [Nat.zero_add, hL.beg j hj, ← hv, wc_get _ _ hj]
  clear hL
  go_enter Tryd.func56, Tryd.ntmps56
  go_wp2_with (refine wpList_load_mid rfl 94 (.global 0) rfl 0 0 rfl (wc M.H0.l) _ HR.out Tryd.underlying94 rfl (by kernel_rfl) ?_; refine wpList_value rfl (.agg (Hc M.H0.l (List.replicate 64 0) 0).toArray) (by kernel_rfl) ?_)
  go_ret
  exact ⟨rfl, ⟨List.replicate 64 0, rfl, rfl, Blk.newAt _ _ _ _ _ rfl (by simp; rfl)⟩, (Below.refl _ _).alloc (Nat.le_refl _) _⟩

set_option maxRecDepth 100000 in
theorem padding_any (n : Nat) (w : World) (hn : n ≤ 1125899906842624) :
    Calls Tryd.prog 63 #[.int .u64 n] w (Makes w (M.pad n)) := by
  obtain ⟨a, ha⟩ : ∃ a, a = n % 64 := ⟨_, rfl⟩
  obtain ⟨z, hz⟩ : ∃ z, z = (119 - a) % 64 := ⟨_, rfl⟩
  have hmod : (n : Int) % 64 = (a : Int) := by rw [ha]; simp
  have ha64 : a < 64 := by omega
  have HA : Hid (a = n % 64) := ha
  have HZ : Hid (z = (119 - a) % 64) := hz
  clear ha hz
  go_enter Tryd.func63, Tryd.ntmps63
  go_wp2_with (refine wpList_make_cap _ rfl (.tmp 15) (.tmp 18) rfl .i64 .i64 _ _ (1 + z) (9 + z) rfl rfl (by have := HZ.out; omega) (by have := HZ.out; omega) (by omega) (by have := HZ.out; omega) ?_)
  intro w1 o1 b1
  have o1' : w1.ownsRow w.heap.size 5 1 (.slice (some ⟨w.heap.size, 0, none⟩) (1 + z) (9 + z)) (1 + z) (Lib.byteCells (List.replicate (1 + z) 0)) := by
    have := o1
    rwa [Own, List.length_replicate] at this
  have hc : w1.cell? ⟨w.heap.size, 0, none⟩ = some (.int .u8 0) := by
    rw [o1'.cellAt 0 (by omega), byteCells_getElem? _ 0 (by simp; omega)]
    simp [List.getD_eq_getElem?_getD, show 0 < 1 + z by omega]
  have hf : w1.frozen? ⟨w.heap.size, 0, none⟩ = false := o1'.frozenAt 0
  have s1 := (o1'.stored 0 (.int .u8 128)).1
  have bs1 : Below w.heap.size w (w1.setCell ⟨w.heap.size, 0, none⟩ (.int .u8 128)) := b1.setCell (Nat.le_refl _) _
  have S1 : Hid (Own (w1.setCell ⟨w.heap.size, 0, none⟩ (.int .u8 128)) w.heap.size (.slice (some ⟨w.heap.size, 0, none⟩) (1 + z) (9 + z)) (128 :: List.replicate z 0)) := by
    rw [Hid, Own, List.length_cons, List.length_replicate, Nat.add_comm z 1]
    have e : (Lib.byteCells (List.replicate (1 + z) 0)).set 0 (.int .u8 128) = Lib.byteCells (128 :: List.replicate z 0) := by
      rw [Nat.add_comm 1 z, List.replicate_succ]
      rfl
    rw [← e]
    exact s1
  obtain ⟨v, hv⟩ : ∃ v, v = 8 * n := ⟨_, rfl⟩
  have h8 : (8 : Int) * (n : Int) = (v : Int) := by omega
  have HVV : Hid (v = 8 * n) := hv
  clear hv o1 o1' s1
  go_wp2_with (first
    | (go_at_call 68; go_must (refine (big64_any v _).mono ?_); rintro e w3 ⟨r, rfl, o3, b3⟩)
    | (at_builtin; go_must (refine wpList_app _ rfl _ _ rfl w.heap.size _ (128 :: List.replicate z 0) rfl (S1.out.below b3) r (M.le v 8).reverse rfl o3.isB o3.nil0 (by simp [M.le_length]; have := HZ.out; omega) (Nat.le_trans bs1.size b3.size) ?_)))
  intro r4 w4 o4 b4 _
  go_wp2
  go_ret
  refine ⟨_, rfl, ?_, (bs1.trans (b3.mono bs1.size)).trans b4⟩
  have e : M.pad n = (128 :: List.replicate z 0) ++ (M.le v 8).reverse := by
    rw [M.pad, HVV.out, HZ.out, HA.out, Nat.mod_eq_of_lt (show 8 * n < 18446744073709551616 by omega)]
  rw [e]
  exact o4

end Go.Proofs.YtlglkiknpbfnmaaDoor
