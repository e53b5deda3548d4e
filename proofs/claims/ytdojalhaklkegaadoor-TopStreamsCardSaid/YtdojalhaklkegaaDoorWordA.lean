/-
  CONTRACTS OF word.leastFirst, word.greatestFirst, Put32, Put64, Big32, Big64: the numbers' bytes in memory of the call's own. Conditions: none but that the numbers are numbers of their kinds.
-/
import Derived.Test.YtdojalhaklkegaaDoorPtN
import Derived.WalkSpells
namespace Go.Proofs.YtdojalhaklkegaaDoor
open Go.RowKit

theorem leastFirst_any (v n : Nat) (w : World) (hn : n ≤ 8) :
    Calls Tryd.prog 95 #[.int .u64 v, .int .i64 n] w (Makes w (M.le v n)) := by
  obtain ⟨i0, hi, hz0, hz1, hz2⟩ := info_parts Tryd.info5
  go_enter Tryd.func95, Tryd.ntmps95
  go_wp2_with (at_make; go_must (refine wpList_make_full _ rfl _ _ 24 rfl w.heap.size 5 i0 (.int .u8 0) 1 Tryd.underlying24 hi hz0 hz1 .i64 .i64 n n n rfl rfl rfl rfl (by rw [hz2]; omega) (by unfold maxLen; omega) (Nat.le_refl _) ?_))
  intro w1 hown hgrow
  have hb1 : Below w.heap.size w w1 := (Below.refl _ _).grown hgrow (Nat.le_refl _) (by intro k hk; cases hk)
  have HO : Hid (w1.ownsRow w.heap.size 5 1 (.slice (some ⟨w.heap.size, 0, none⟩) n n) n (Lib.byteCells (M.le v 0) ++ List.replicate (n - 0) (.int .u8 0))) := by
    have e : Lib.byteCells (M.le v 0) ++ List.replicate (n - 0) (Value.int .u8 0) = (madeCells #[Value.int IntKind.u8 0] n).toList := by
      simp [M.le, Lib.byteCells, toList_madeCells_one]
    rw [Hid, e]
    exact hown
  clear hown hgrow hi hz0 hz1 hz2
  go_wp2
  go_loopw [10] (fun i wr => ∃ k : Nat, k ≤ n ∧ i = .int .i64 k ∧ Hid (wr.ownsRow w.heap.size 5 1 (.slice (some ⟨w.heap.size, 0, none⟩) n n) n (Lib.byteCells (M.le v k) ++ List.replicate (n - k) (.int .u8 0))) ∧ Below w.heap.size w wr)
    (fun i _ => n - (intOf i).toNat)
  case atStart => exact ⟨0, Nat.zero_le _, rfl, HO, hb1⟩
  case round =>
    rename_i wr
    obtain ⟨k, hk, rfl, hown, hb⟩ := hrel
    by_cases hlt : k < n
    · have hc : wr.cell? ⟨w.heap.size, k, none⟩ = some (.int .u8 0) := by
        rw [hown.out.cellAt k (by omega)]
        rw [List.getElem?_append_right (by simp [byteCells_length, M.le_length])]
        rw [byteCells_length, M.le_length, Nat.sub_self, List.getElem?_replicate, if_pos (by omega)]
      have hf : wr.frozen? ⟨w.heap.size, k, none⟩ = false := hown.out.frozenAt k
      go_wp2
      go_roundw
      case rel =>
        refine ⟨k + 1, by omega, by go_num, ?_, hb.setCell (Nat.le_refl _) _⟩
        have h := (hown.out.stored k (Value.int IntKind.u8 (↑v / 2 ^ (8 * k) % 256))).1
        rw [set_next _ _ _ k (n - k) (by simp [byteCells_length, M.le_length]) (by omega), byte_of] at h
        rw [Hid, M.le, byteCells_append, Nat.sub_add_eq, byte_of]
        exact h
      case measure => simp [intOf]; omega
    · obtain rfl : k = n := by omega
      go_wp2
      go_ret
      refine ⟨_, rfl, ?_, hb⟩
      have h := hown.out
      rw [Nat.sub_self, List.replicate_zero, List.append_nil] at h
      rw [Own, M.le_length]
      exact h

theorem greatestFirst_any (v n : Nat) (w : World) (hn : n ≤ 8) :
    Calls Tryd.prog 97 #[.int .u64 v, .int .i64 n] w (Makes w (M.le v n).reverse) := by
  obtain ⟨i0, hi, hz0, hz1, hz2⟩ := info_parts Tryd.info5
  go_enter Tryd.func97, Tryd.ntmps97
  go_wp2_with (at_make; go_must (refine wpList_make_full _ rfl _ _ 24 rfl w.heap.size 5 i0 (.int .u8 0) 1 Tryd.underlying24 hi hz0 hz1 .i64 .i64 n n n rfl rfl rfl rfl (by rw [hz2]; omega) (by unfold maxLen; omega) (Nat.le_refl _) ?_))
  intro w1 hown hgrow
  have hb1 : Below w.heap.size w w1 := (Below.refl _ _).grown hgrow (Nat.le_refl _) (by intro k hk; cases hk)
  have HO : Hid (w1.ownsRow w.heap.size 5 1 (.slice (some ⟨w.heap.size, 0, none⟩) n n) n (List.replicate (n - 0) (.int .u8 0) ++ Lib.byteCells (M.le v 0).reverse)) := by
    have e : List.replicate (n - 0) (Value.int .u8 0) ++ Lib.byteCells (M.le v 0).reverse = (madeCells #[Value.int IntKind.u8 0] n).toList := by
      simp [M.le, Lib.byteCells, toList_madeCells_one]
    rw [Hid, e]
    exact hown
  clear hown hgrow hi hz0 hz1 hz2
  go_wp2
  go_loopw [10] (fun i wr => ∃ k : Nat, k ≤ n ∧ i = .int .i64 k ∧ Hid (wr.ownsRow w.heap.size 5 1 (.slice (some ⟨w.heap.size, 0, none⟩) n n) n (List.replicate (n - k) (.int .u8 0) ++ Lib.byteCells (M.le v k).reverse)) ∧ Below w.heap.size w wr)
    (fun i _ => n - (intOf i).toNat)
  case atStart => exact ⟨0, Nat.zero_le _, rfl, HO, hb1⟩
  case round =>
    rename_i wr
    obtain ⟨k, hk, rfl, hown, hb⟩ := hrel
    by_cases hlt : k < n
    · have hc : wr.cell? ⟨w.heap.size, n - 1 - k, none⟩ = some (.int .u8 0) := by
        rw [hown.out.cellAt (n - 1 - k) (by omega)]
        rw [List.getElem?_append_left (by simp; omega)]
        rw [List.getElem?_replicate, if_pos (by omega)]
      have hf : wr.frozen? ⟨w.heap.size, n - 1 - k, none⟩ = false := hown.out.frozenAt _
      go_wp2
      go_roundw
      case rel =>
        refine ⟨k + 1, by omega, by go_num, ?_, hb.setCell (Nat.le_refl _) _⟩
        have h := (hown.out.stored (n - 1 - k) (Value.int IntKind.u8 (↑v / 2 ^ (8 * k) % 256))).1
        rw [set_prev _ _ _ (n - 1 - k) (n - k) (by omega), byte_of] at h
        rw [Hid, M.le, List.reverse_append, show n - (k + 1) = n - 1 - k by omega, byte_of]
        exact h
      case measure => simp [intOf]; omega
    · obtain rfl : k = n := by omega
      go_wp2
      go_ret
      refine ⟨_, rfl, ?_, hb⟩
      have h := hown.out
      rw [Nat.sub_self, List.replicate_zero, List.nil_append] at h
      rw [Own, List.length_reverse, M.le_length]
      exact h

theorem put32_any (v : Nat) (w : World) (hv : v ≤ 4294967295) :
    Calls Tryd.prog 76 #[.int .u32 v] w (Makes w (M.le v 4)) := by
  go_enter Tryd.func76, Tryd.ntmps76
  go_wp2_with (go_at_call 95; go_must (refine (leastFirst_any v 4 _ (by omega)).mono ?_); rintro e w1 ⟨r, rfl, h1, h2⟩)
  go_ret
  exact ⟨r, rfl, h1, h2⟩

theorem put64_any (v : Nat) (w : World) :
    Calls Tryd.prog 64 #[.int .u64 v] w (Makes w (M.le v 8)) := by
  go_enter Tryd.func64, Tryd.ntmps64
  go_wp2_with (go_at_call 95; go_must (refine (leastFirst_any v 8 _ (by omega)).mono ?_); rintro e w1 ⟨r, rfl, h1, h2⟩)
  go_ret
  exact ⟨r, rfl, h1, h2⟩

theorem big32_any (v : Nat) (w : World) (hv : v ≤ 4294967295) :
    Calls Tryd.prog 66 #[.int .u32 v] w (Makes w (M.le v 4).reverse) := by
  go_enter Tryd.func66, Tryd.ntmps66
  go_wp2_with (go_at_call 97; go_must (refine (greatestFirst_any v 4 _ (by omega)).mono ?_); rintro e w1 ⟨r, rfl, h1, h2⟩)
  go_ret
  exact ⟨r, rfl, h1, h2⟩

theorem big64_any (v : Nat) (w : World) :
    Calls Tryd.prog 116 #[.int .u64 v] w (Makes w (M.le v 8).reverse) := by
  go_enter Tryd.func116, Tryd.ntmps116
  go_wp2_with (go_at_call 97; go_must (refine (greatestFirst_any v 8 _ (by omega)).mono ?_); rintro e w1 ⟨r, rfl, h1, h2⟩)
  go_ret
  exact ⟨r, rfl, h1, h2⟩

end Go.Proofs.YtdojalhaklkegaaDoor
