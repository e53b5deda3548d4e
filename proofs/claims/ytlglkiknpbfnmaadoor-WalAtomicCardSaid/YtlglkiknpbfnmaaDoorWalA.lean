/-
  CONTRACTS OF package wal's SMALL CALLS: Blocks, has, Read, Write, Sync, emptyHead. Conditions: the Wal lies so (WalIs), the disk too.
-/
import Derived.Test.YtlglkiknpbfnmaaDoorPkRefWal
import Derived.Test.YtlglkiknpbfnmaaDoorZeros
namespace Go.Proofs.YtlglkiknpbfnmaaDoor
open Go.RowKit
set_option linter.unusedVariables false
set_option maxRecDepth 100000

/-- A Wal over the disk at g. -/
def WalIs (w : World) (gw g : Nat) : Prop := Blk w gw 65 [.pointer (some ⟨g, 0, none⟩)]

theorem WalIs.below {w w' : World} {gw g : Nat} (h : WalIs w gw g) (k : Below w.heap.size w w') : WalIs w' gw g := Blk.below h k h.lt

section
variable {T : Nat → Prop} {w : World} {gw g : Nat} {m : M.Dsk}

set_option maxHeartbeats 2000000 in
theorem wblocks10 (hD : CodeDk T w g m) (hW : WalIs w gw g) : Calls Tryd.prog 23 #[.pointer (some ⟨gw, 0, none⟩)] w fun e w' => e = .returned (.int .i64 ((m.safe.length : Int) - 42)) ∧ w' = w := by
  have C := Lib.hid (codeDk_blocks hD)
  have c0 : w.cell? ⟨gw, 0, none⟩ = some (.pointer (some ⟨g, 0, none⟩)) := hW.cell 0
  have hf := hD.ok.few
  obtain ⟨n, hn⟩ : ∃ n, n = m.safe.length := ⟨_, rfl⟩
  rw [← hn] at C hf ⊢
  obtain ⟨r, hr⟩ : ∃ r, (n : Int) - 42 = r := ⟨_, rfl⟩
  rw [hr]
  have n1 : wrap64 r = r := by unfold wrap64; omega
  clear hD hW hn hf
  go_enter Tryd.func23, Tryd.ntmps23
  go_wp2_with fail
  refine C.out.mono ?_
  rintro e w1 ⟨rfl, rfl⟩
  go_wp2
  go_ret
  exact ⟨by first | rfl | (show Ending.returned (.int .i64 (wrap64 r)) = _; rw [n1]), rfl⟩

set_option maxHeartbeats 2000000 in
theorem whas10 (hD : CodeDk T w g m) (hW : WalIs w gw g) (i : Int) : Calls Tryd.prog 40 #[.pointer (some ⟨gw, 0, none⟩), .int .i64 i] w fun e w' => e = .returned (.bool (decide (0 ≤ i ∧ i < (m.safe.length : Int) - 42))) ∧ w' = w := by
  have C := Lib.hid (wblocks10 hD hW)
  obtain ⟨n, hn⟩ : ∃ n, n = (m.safe.length : Int) - 42 := ⟨_, rfl⟩
  rw [← hn] at C ⊢
  clear hD hW hn
  by_cases h0 : 0 ≤ i
  · by_cases h1 : i < n
    · have e : decide (0 ≤ i ∧ i < n) = true := decide_eq_true ⟨h0, h1⟩
      have E := Lib.hid e
      clear e
      go_enter Tryd.func40, Tryd.ntmps40
      go_wp2_with fail
      refine C.out.mono ?_
      rintro e w1 ⟨rfl, rfl⟩
      go_wp2
      go_ret
      exact ⟨by first | rfl | (rw [E.out]; rfl) | (rw [E.out]; show Ending.returned (.bool (decide (i < n))) = _; rw [decide_eq_false (by omega)]), rfl⟩
    · have e : decide (0 ≤ i ∧ i < n) = false := decide_eq_false fun h => h1 h.2
      have E := Lib.hid e
      clear e
      go_enter Tryd.func40, Tryd.ntmps40
      go_wp2_with fail
      refine C.out.mono ?_
      rintro e w1 ⟨rfl, rfl⟩
      go_wp2
      go_ret
      exact ⟨by first | rfl | (rw [E.out]; rfl) | (rw [E.out]; show Ending.returned (.bool (decide (i < n))) = _; rw [decide_eq_false (by omega)]), rfl⟩
  · have e : decide (0 ≤ i ∧ i < n) = false := decide_eq_false fun h => h0 h.1
    have E := Lib.hid e
    clear e
    have e2 : decide (0 ≤ i) = false := decide_eq_false h0
    go_enter Tryd.func40, Tryd.ntmps40
    go_wp2
    go_ret
    exact ⟨by first | rfl | (rw [E.out]; rfl) | (rw [E.out]; show Ending.returned (.bool (decide (i < n))) = _; rw [decide_eq_false (by omega)]), rfl⟩

set_option maxHeartbeats 2000000 in
theorem wread10 (hD : CodeDk T w g m) (hW : WalIs w gw g) (hw : m.wait.length < 1000000) (i : Nat) (hi : 42 + i < m.safe.length) : Calls Tryd.prog 24 #[.pointer (some ⟨gw, 0, none⟩), .int .i64 (i : Int)] w fun e w' =>
    ∃ r, e = .returned (.tuple #[r, .int .i64 0]) ∧ Own w' w.heap.size r (m.read (42 + i)) ∧ Below w.heap.size w w' := by
  have H := Lib.hid (whas10 hD hW (i : Int))
  rw [decide_eq_true (show 0 ≤ (i : Int) ∧ (i : Int) < (m.safe.length : Int) - 42 by omega)] at H
  have R := Lib.hid (codeDk_read hD hw ((42 + i : Nat) : Int))
  have e0 : m.doRead ((42 + i : Nat) : Int) = (m.read (42 + i), 0) := by rw [M.Dsk.doRead, if_pos ⟨by omega, by omega⟩, Int.toNat_natCast]
  rw [e0] at R
  have c0 : w.cell? ⟨gw, 0, none⟩ = some (.pointer (some ⟨g, 0, none⟩)) := hW.cell 0
  have hf := hD.ok.few
  obtain ⟨j, hj⟩ : ∃ j, j = 42 + i := ⟨_, rfl⟩
  rw [← hj] at R ⊢
  have n1 : wrap64 (42 + (i : Int)) = (j : Int) := by unfold wrap64; omega
  clear hD hW e0 hf hj hi hw
  go_enter Tryd.func24, Tryd.ntmps24
  go_wp2_with fail
  refine H.out.mono ?_
  rintro e w1 ⟨rfl, rfl⟩
  go_wp2_with fail
  refine R.out.mono ?_
  rintro e w2 ⟨r, rfl, o2, k2⟩
  have O2 := Lib.hid o2
  have K2 := Lib.hid k2
  clear H R o2 k2 n1
  go_wp2
  go_ret2
  exact ⟨_, rfl, O2.out, K2.out⟩

set_option maxHeartbeats 2000000 in
theorem wread10_no (hD : CodeDk T w g m) (hW : WalIs w gw g) (i : Int) (hi : ¬ (0 ≤ i ∧ i < (m.safe.length : Int) - 42)) : Calls Tryd.prog 24 #[.pointer (some ⟨gw, 0, none⟩), .int .i64 i] w fun e w' =>
    e = .returned (.tuple #[.slice none 0 0, .int .i64 1]) ∧ w' = w := by
  have H := Lib.hid (whas10 hD hW i)
  rw [decide_eq_false hi] at H
  clear hD hW hi
  go_enter Tryd.func24, Tryd.ntmps24
  go_wp2_with fail
  refine H.out.mono ?_
  rintro e w1 ⟨rfl, rfl⟩
  go_wp2
  go_ret2
  exact ⟨rfl, rfl⟩

set_option maxHeartbeats 2000000 in
theorem wwrite10 (hD : CodeDk T w g m) (hW : WalIs w gw g) (hw : m.wait.length < 1000000) (i : Nat) (hi : 42 + i < m.safe.length) (bv : Value) (bs : List UInt8) (hb : IsB w bv bs) :
    Calls Tryd.prog 25 #[.pointer (some ⟨gw, 0, none⟩), .int .i64 (i : Int), bv] w fun e w' =>
      e = .returned (.int .i64 (m.doWrite ((42 + i : Nat) : Int) bs).2) ∧ Chg T w w' ∧ ∃ T', CodeDk T' w' g (m.doWrite ((42 + i : Nat) : Int) bs).1 ∧ ∀ k, T' k → T k ∨ w.heap.size ≤ k := by
  have H := Lib.hid (whas10 hD hW (i : Int))
  rw [decide_eq_true (show 0 ≤ (i : Int) ∧ (i : Int) < (m.safe.length : Int) - 42 by omega)] at H
  have R := Lib.hid (codeDk_write hD ((42 + i : Nat) : Int) bv bs hb hw)
  have c0 : w.cell? ⟨gw, 0, none⟩ = some (.pointer (some ⟨g, 0, none⟩)) := hW.cell 0
  have hf := hD.ok.few
  obtain ⟨j, hj⟩ : ∃ j, j = 42 + i := ⟨_, rfl⟩
  rw [← hj] at R ⊢
  have n1 : wrap64 (42 + (i : Int)) = (j : Int) := by unfold wrap64; omega
  obtain ⟨ba, bc, rfl⟩ := hb.shape
  obtain ⟨n, hn⟩ : ∃ n, n = bs.length := ⟨_, rfl⟩
  rw [← hn] at R ⊢
  obtain ⟨q, hq⟩ : ∃ q, q = m.doWrite (j : Int) bs := ⟨_, rfl⟩
  rw [← hq] at R ⊢
  clear hD hW hf hj hi hw hb hn hq
  go_enter Tryd.func25, Tryd.ntmps25
  go_wp2_with fail
  refine H.out.mono ?_
  rintro e w1 ⟨rfl, rfl⟩
  go_wp2_with fail
  refine R.out.mono ?_
  rintro e w2 ⟨rfl, h2⟩
  have H2 := Lib.hid h2
  clear H R h2 n1
  go_wp2
  go_ret
  exact ⟨rfl, H2.out⟩

set_option maxHeartbeats 2000000 in
theorem wwrite10_no (hD : CodeDk T w g m) (hW : WalIs w gw g) (i : Int) (bv : Value) (bs : List UInt8) (hb : IsB w bv bs) (hr : -9223372036854775808 ≤ i ∧ i < 9223372036854775808) (hno : ¬ (0 ≤ i ∧ i < (m.safe.length : Int) - 42 ∧ bs.length = 256)) :
    Calls Tryd.prog 25 #[.pointer (some ⟨gw, 0, none⟩), .int .i64 i, bv] w fun e w' => e = .returned (.int .i64 1) ∧ Below w.heap.size w w' := by
  have H := Lib.hid (whas10 hD hW i)
  obtain ⟨ba, bc, rfl⟩ := hb.shape
  by_cases hi : 0 ≤ i ∧ i < (m.safe.length : Int) - 42
  · rw [decide_eq_true hi] at H
    obtain ⟨sv, wv, dvs, d⟩ := hD
    have R := Lib.hid (write9_no d (42 + i) _ bs hb (by omega))
    have c0 : w.cell? ⟨gw, 0, none⟩ = some (.pointer (some ⟨g, 0, none⟩)) := hW.cell 0
    have hf := d.ok.few
    obtain ⟨j, hj⟩ : ∃ j, j = 42 + i := ⟨_, rfl⟩
    rw [← hj] at R
    have n1 : wrap64 (42 + i) = j := by unfold wrap64; omega
    obtain ⟨n, hn⟩ : ∃ n, n = bs.length := ⟨_, rfl⟩
    rw [← hn] at R ⊢
    clear d hW hf hj hi hb hn hno hr
    go_enter Tryd.func25, Tryd.ntmps25
    go_wp2_with fail
    refine H.out.mono ?_
    rintro e w1 ⟨rfl, rfl⟩
    go_wp2_with fail
    refine R.out.mono ?_
    rintro e w2 ⟨rfl, rfl⟩
    go_wp2
    go_ret
    exact ⟨rfl, Below.refl _ _⟩
  · rw [decide_eq_false hi] at H
    clear hD hW hi hb hno hr
    go_enter Tryd.func25, Tryd.ntmps25
    go_wp2_with fail
    refine H.out.mono ?_
    rintro e w1 ⟨rfl, rfl⟩
    go_wp2
    go_ret
    exact ⟨rfl, Below.refl _ _⟩

set_option maxHeartbeats 2000000 in
theorem wsync10 (hD : CodeDk T w g m) (hW : WalIs w gw g) : Calls Tryd.prog 26 #[.pointer (some ⟨gw, 0, none⟩)] w fun e w' =>
    e = .returned (.int .i64 m.doSync.2) ∧ Chg T w w' ∧ ∃ T', CodeDk T' w' g m.doSync.1 ∧ ∀ k, T' k → T k ∨ w.heap.size ≤ k := by
  have R := Lib.hid (codeDk_sync hD)
  have c0 : w.cell? ⟨gw, 0, none⟩ = some (.pointer (some ⟨g, 0, none⟩)) := hW.cell 0
  obtain ⟨q, hq⟩ : ∃ q, q = m.doSync := ⟨_, rfl⟩
  rw [← hq] at R ⊢
  clear hD hW hq
  go_enter Tryd.func26, Tryd.ntmps26
  go_wp2_with fail
  refine R.out.mono ?_
  rintro e w2 ⟨rfl, h2⟩
  have H2 := Lib.hid h2
  clear R h2
  go_wp2
  go_ret
  exact ⟨rfl, H2.out⟩

theorem emptyHead_any (w : World) : Calls Tryd.prog 44 #[] w (Makes w M.zero256) := by
  obtain ⟨ZC, hZC⟩ := make_run 256 (by decide)
  have hmk : ∀ w : World, (Instr.makeSlice 34 (.int .i64 256) (.int .i64 256)).run Tryd.prog w = .ok (.slice (some ⟨w.heap.size, 0, none⟩) 256 256) (w.alloc (.cells ZC 5)) := fun w => (hZC w).1
  have HMK : Hid (∀ w : World, Own (w.alloc (.cells ZC 5)) w.heap.size (.slice (some ⟨w.heap.size, 0, none⟩) 256 256) M.zero256) := fun w => (hZC w).2
  clear hZC
  go_enter Tryd.func44, Tryd.ntmps44
  go_wp2
  go_ret
  exact ⟨_, rfl, HMK.out w, (Below.refl _ _).alloc (Nat.le_refl _) _⟩

end

end Go.Proofs.YtlglkiknpbfnmaaDoor
