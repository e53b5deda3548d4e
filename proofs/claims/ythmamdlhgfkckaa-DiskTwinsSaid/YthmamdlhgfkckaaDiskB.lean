/-
  CONTRACTS OF package disk's small functions: New, what Load refuses, Blocks, Down, Waiting, Image, Arm, has, act. Conditions: the disk lies so.
-/
import Derived.Test.YthmamdlhgfkckaaDiskA
namespace Go.Proofs.Ythmamdlhgfkckaa
open Go.RowKit
set_option linter.unusedVariables false

set_option maxHeartbeats 2000000 in
theorem load9_no (bv : Value) (bs : List UInt8) (w : World) (hb : IsB w bv bs) (hno : ¬ (bs.length % 256 = 0 ∧ bs.length ≤ 557056)) :
    Calls Try.prog 10 #[bv] w fun e w' => e = .returned (.tuple #[.pointer none, .int .i64 1]) ∧ w' = w := by
  obtain ⟨ao, cap, rfl⟩ := hb.shape
  obtain ⟨l, hl⟩ : ∃ l, l = bs.length := ⟨_, rfl⟩
  rw [← hl] at hno ⊢
  obtain ⟨r, hr⟩ : ∃ r, r = l % 256 := ⟨_, rfl⟩
  have t1 : (l : Int).tmod 256 = (r : Int) := by rw [Int.tmod_eq_emod_of_nonneg (by omega)]; omega
  have t1' : (l : Int) % 256 = (r : Int) := by omega
  clear hb hl
  by_cases h1 : r = 0
  · have h2 : (557056 : Int) < (l : Int) := by omega
    subst h1
    clear hno hr
    go_enter Try.func10, Try.ntmps10
    go_wp2
    go_ret2
    exact ⟨rfl, rfl⟩
  · have h2 : ¬ (r : Int) = 0 := by omega
    have h3 : ((r : Int) != 0) = true := by simpa using h2
    have h4 : ((r : Int) == 0) = false := by simpa using h2
    clear hno hr
    go_enter Try.func10, Try.ntmps10
    go_wp2
    go_ret2
    exact ⟨rfl, rfl⟩

set_option maxHeartbeats 4000000 in
theorem new9_any (n : Int) (hn : -9223372036854775808 ≤ n ∧ n < 9223372036854775808) (w : World) :
    Calls Try.prog 31 #[.int .i64 n] w fun e w' => ∃ g sv T, e = .returned (.pointer (some ⟨g, 0, none⟩)) ∧ DkAt T w' g sv (.slice none 0 0) [] (M.dnew n.toNat) ∧ (∀ k, T k → w.heap.size ≤ k) ∧ Below w.heap.size w w' := by
  have HD := Lib.hid (M.dnew_ok n.toNat)
  obtain ⟨k, hk⟩ : ∃ k, k = min n.toNat 2176 := ⟨_, rfl⟩
  obtain ⟨l, hl⟩ : ∃ l, l = 256 * k := ⟨_, rfl⟩
  obtain ⟨ZC, hZC⟩ := make_run l (by omega)
  have HO : Hid (Own (w.alloc (.cells ZC 5)) w.heap.size (.slice (some ⟨w.heap.size, 0, none⟩) l l) (M.dnew n.toNat).safe.flatten) := by rw [Hid, HD.out.2, ← hk, ← hl]; exact (hZC w).2
  have hmk := (hZC w).1
  obtain ⟨g, hg⟩ : ∃ g, g = w.heap.size + 1 := ⟨_, rfl⟩
  obtain ⟨W, hW⟩ : ∃ W, Hid (W = (w.alloc (.cells ZC 5)).alloc (.cells #[.slice (some ⟨w.heap.size, 0, none⟩) l l, .slice none 0 0, .int .i64 0, .bool false] 60)) := ⟨_, rfl⟩
  have B0 : Blk W g 60 [.slice (some ⟨w.heap.size, 0, none⟩) l l, .slice none 0 0, .int .i64 ((0 : Nat) : Int), .bool false] := by rw [hW.out]; exact Blk.newAt _ _ _ _ _ (by rw [hg]; simp) rfl
  have k2 : Below (w.alloc (.cells ZC 5)).heap.size (w.alloc (.cells ZC 5)) W := by rw [hW.out]; exact (Below.refl _ _).alloc (Nat.le_refl _) _
  have k1 : Below w.heap.size w (w.alloc (.cells ZC 5)) := (Below.refl _ _).alloc (Nat.le_refl _) _
  have R : Hid (DkAt (fun k => w.heap.size ≤ k ∧ k < W.heap.size) W g (.slice (some ⟨w.heap.size, 0, none⟩) l l) (.slice none 0 0) [] (M.dnew n.toNat)) := dkAt_new B0 (HO.out.below k2) (by omega) (fun k hk e => by simp [Value.ownBlock] at hk; omega) rfl HD.out.1
  have K : Hid (Below w.heap.size w W) := k1.trans (k2.mono k1.size)
  have HG : Hid (g = w.heap.size + 1) := hg
  have t3 : wrap64 ((k : Int) * 256) = (l : Int) := by unfold wrap64; omega
  have t3' : wrap64 (256 * (k : Int)) = (l : Int) := by unfold wrap64; omega
  have HMK := Lib.hid hmk
  clear hZC hmk HO B0 k2 k1 HD hg hl
  by_cases h1 : n < 0
  · obtain rfl : k = 0 := by omega
    obtain rfl : l = 0 := by unfold wrap64 at t3; omega
    have hmk : (Instr.makeSlice 22 (.int .i64 0) (.int .i64 0)).run Try.prog w = .ok (.slice (some ⟨w.heap.size, 0, none⟩) 0 0) (w.alloc (.cells ZC 5)) := HMK.out
    clear hk hn t3 t3'
    go_enter Try.func31, Try.ntmps31
    go_upto_region 2 with fail
    go_wp2
    rw [← hW.out, ← HG.out]
    go_ret
    exact ⟨g, _, _, rfl, R.out, fun k h => h.1, K.out⟩
  · by_cases h2 : 2176 < n
    · obtain rfl : k = 2176 := by omega
      obtain rfl : l = 557056 := by unfold wrap64 at t3; omega
      have hmk : (Instr.makeSlice 22 (.int .i64 557056) (.int .i64 557056)).run Try.prog w = .ok (.slice (some ⟨w.heap.size, 0, none⟩) 557056 557056) (w.alloc (.cells ZC 5)) := HMK.out
      clear hk hn t3 t3'
      go_enter Try.func31, Try.ntmps31
      go_upto_region 2 with fail
      go_wp2
      rw [← hW.out, ← HG.out]
      go_ret
      exact ⟨g, rfl, _, _, R.out, fun k h => h.1, K.out⟩
    · obtain rfl : n = (k : Int) := by omega
      have hmk := HMK.out
      have t5 : (k : Int) * 256 = (l : Int) := by unfold wrap64 at t3; omega
      clear hk hn t3 t3'
      go_enter Try.func31, Try.ntmps31
      go_upto_region 2 with fail
      go_wp2
      rw [← hW.out, ← HG.out]
      go_ret
      exact ⟨g, rfl, _, _, R.out, fun k h => h.1, K.out⟩

set_option maxHeartbeats 2000000 in
theorem blocks9_any {T : Nat → Prop} {w : World} {g : Nat} {sv wv : Value} {dvs : List Value} {m : M.Dsk} (h : DkAt T w g sv wv dvs m) :
    Calls Try.prog 27 #[.pointer (some ⟨g, 0, none⟩)] w fun e w' => e = .returned (.int .i64 (m.safe.length : Int)) ∧ w' = w := by
  have c0 : w.cell? ⟨g, 0, none⟩ = some sv := h.blk.cell 0
  obtain ⟨n, hn⟩ : ∃ n, n = m.safe.length := ⟨_, rfl⟩
  obtain ⟨l, hl⟩ : ∃ l, l = 256 * n := ⟨_, rfl⟩
  obtain ⟨sa, sc, es⟩ := ownShape h.srow
  rw [h.flat, ← hn, ← hl] at es
  subst es
  rw [← hn]
  have t2 : (l : Int).tdiv 256 = (n : Int) := by rw [Int.tdiv_eq_ediv_of_nonneg (by omega)]; omega
  have t2' : (l : Int) / 256 = (n : Int) := by omega
  have t4 : wrap64 (n : Int) = (n : Int) := by have := h.ok.few; unfold wrap64; omega
  clear h hn hl
  go_enter Try.func27, Try.ntmps27
  go_wp2
  go_ret
  exact ⟨by show Ending.returned (.int .i64 (wrap64 (n : Int))) = _; rw [t4], rfl⟩

set_option maxHeartbeats 2000000 in
theorem down9_any {T : Nat → Prop} {w : World} {g : Nat} {sv wv : Value} {dvs : List Value} {m : M.Dsk} (h : DkAt T w g sv wv dvs m) :
    Calls Try.prog 23 #[.pointer (some ⟨g, 0, none⟩)] w fun e w' => e = .returned (.bool m.down) ∧ w' = w := by
  have c3 : w.cell? ⟨g, 3, none⟩ = some (.bool m.down) := h.blk.cell 3
  clear h
  go_enter Try.func23, Try.ntmps23
  go_wp2
  go_ret
  exact ⟨rfl, rfl⟩

set_option maxHeartbeats 2000000 in
theorem waiting9_any {T : Nat → Prop} {w : World} {g : Nat} {sv wv : Value} {dvs : List Value} {m : M.Dsk} (h : DkAt T w g sv wv dvs m) :
    Calls Try.prog 24 #[.pointer (some ⟨g, 0, none⟩)] w fun e w' => e = .returned (.int .i64 (m.wait.length : Int)) ∧ w' = w := by
  have c1 : w.cell? ⟨g, 1, none⟩ = some wv := h.blk.cell 1
  obtain ⟨q, hq⟩ : ∃ q, q = m.wait.length := ⟨_, rfl⟩
  obtain ⟨wa, wc, ew⟩ := ownShape h.wrow
  rw [← hq] at ew ⊢
  subst ew
  clear h hq
  go_enter Try.func24, Try.ntmps24
  go_wp2
  go_ret
  exact ⟨rfl, rfl⟩

set_option maxHeartbeats 2000000 in
theorem image9_any {T : Nat → Prop} {w : World} {g : Nat} {sv wv : Value} {dvs : List Value} {m : M.Dsk} (h : DkAt T w g sv wv dvs m) :
    Calls Try.prog 26 #[.pointer (some ⟨g, 0, none⟩)] w (Makes w m.image) := by
  have c0 : w.cell? ⟨g, 0, none⟩ = some sv := h.blk.cell 0
  have C := Lib.hid (clone9_any sv m.safe.flatten w h.srow.isB (by rw [h.flat]; have := h.ok.few; omega))
  clear h
  go_enter Try.func26, Try.ntmps26
  go_wp2_with fail
  refine C.out.mono ?_
  rintro e w1 ⟨r, rfl, o1, k1⟩
  go_wp2
  go_ret
  exact ⟨r, rfl, o1, k1⟩

set_option maxHeartbeats 2000000 in
theorem has9_any {T : Nat → Prop} {w : World} {g : Nat} {sv wv : Value} {dvs : List Value} {m : M.Dsk} (h : DkAt T w g sv wv dvs m) (i : Int) :
    Calls Try.prog 34 #[.pointer (some ⟨g, 0, none⟩), .int .i64 i] w fun e w' => e = .returned (.bool (decide (0 ≤ i ∧ i < (m.safe.length : Int)))) ∧ w' = w := by
  have C := Lib.hid (blocks9_any h)
  obtain ⟨n, hn⟩ : ∃ n, n = m.safe.length := ⟨_, rfl⟩
  rw [← hn] at C ⊢
  clear h hn
  by_cases h0 : 0 ≤ i
  · by_cases h1 : i < (n : Int)
    · have hd : Hid (decide (0 ≤ i ∧ i < (n : Int)) = true) := decide_eq_true ⟨h0, h1⟩
      rw [hd.out]
      go_enter Try.func34, Try.ntmps34
      go_wp2_with fail
      refine C.out.mono ?_
      rintro e w1 ⟨rfl, rfl⟩
      go_wp2
      go_ret
      exact ⟨rfl, rfl⟩
    · have hd : Hid (decide (0 ≤ i ∧ i < (n : Int)) = false) := decide_eq_false fun h => h1 h.2
      rw [hd.out]
      go_enter Try.func34, Try.ntmps34
      go_wp2_with fail
      refine C.out.mono ?_
      rintro e w1 ⟨rfl, rfl⟩
      go_wp2
      go_ret
      exact ⟨by show Ending.returned (.bool (decide (i < (n : Int)))) = _; rw [decide_eq_false (by omega)], rfl⟩
  · have hd : Hid (decide (0 ≤ i ∧ i < (n : Int)) = false) := decide_eq_false fun h => h0 h.1
    rw [hd.out]
    clear C
    go_enter Try.func34, Try.ntmps34
    go_wp2
    go_ret
    exact ⟨rfl, rfl⟩

set_option maxHeartbeats 2000000 in
theorem arm9_any {T : Nat → Prop} {w : World} {g : Nat} {sv wv : Value} {dvs : List Value} {m : M.Dsk} (h : DkAt T w g sv wv dvs m) (n : Int) (hn : -9223372036854775808 ≤ n ∧ n < 9223372036854775808) :
    Calls Try.prog 17 #[.pointer (some ⟨g, 0, none⟩), .int .i64 n] w fun e w' => e = .returned (.tuple #[]) ∧ DkAt T w' g sv wv dvs (m.arm n) ∧ Chg T w w' := by
  have c2 : w.cell? ⟨g, 2, none⟩ = some (.int .i64 (m.left : Int)) := h.blk.cell 2
  have f2 : w.frozen? ⟨g, 2, none⟩ = false := h.blk.frozen 2
  obtain ⟨q, hq⟩ : ∃ q, q = n.toNat := ⟨_, rfl⟩
  have hm : m.arm n = { m with left := q } := by rw [M.Dsk.arm, ← hq]
  rw [hm]
  have B1 := h.blk.set_ 2 (.int .i64 (q : Int))
  have k1 : Chg (fun b => b = g) w (w.setCell ⟨g, 2, none⟩ (.int .i64 (q : Int))) := (Chg.refl _ w).cell 2 _
  have R1 := Lib.hid (h.fields k1 q m.down B1 (by omega))
  have K1 := Lib.hid (k1.one h.tg)
  clear h B1 k1 hm
  by_cases h0 : 0 ≤ n
  · obtain rfl : n = (q : Int) := by omega
    have h0' : ¬ (q : Int) < 0 := by omega
    clear hn hq
    go_enter Try.func17, Try.ntmps17
    go_wp2
    go_end0
    exact ⟨rfl, R1.out, K1.out⟩
  · obtain rfl : q = 0 := by omega
    have h0' : n < 0 := by omega
    clear hn hq
    go_enter Try.func17, Try.ntmps17
    go_wp2
    go_end0
    exact ⟨rfl, R1.out, K1.out⟩

set_option maxHeartbeats 2000000 in
/-- An act, while the power is there. -/
theorem act9_any {T : Nat → Prop} {w : World} {g : Nat} {sv wv : Value} {dvs : List Value} {m : M.Dsk} (h : DkAt T w g sv wv dvs m) (hdn : m.down = false) :
    Calls Try.prog 35 #[.pointer (some ⟨g, 0, none⟩)] w fun e w' => e = .returned (.int .i64 (if m.goes.2 = true then 11 else 0)) ∧ DkAt T w' g sv wv dvs m.goes.1 ∧ Chg (fun b => b = g) w w' := by
  have H := Lib.hid h
  have c2 : w.cell? ⟨g, 2, none⟩ = some (.int .i64 (m.left : Int)) := h.blk.cell 2
  have c3 : w.cell? ⟨g, 3, none⟩ = some (.bool false) := by rw [← hdn]; exact h.blk.cell 3
  have f2 : w.frozen? ⟨g, 2, none⟩ = false := h.blk.frozen 2
  have f3 : w.frozen? ⟨g, 3, none⟩ = false := h.blk.frozen 3
  obtain ⟨l, hl⟩ : ∃ l, l = m.left := ⟨_, rfl⟩
  have hl63 := h.left_
  rw [← hl] at c2 hl63
  by_cases h0 : l = 0
  · have hg : m.goes = (m, false) := by rw [M.Dsk.goes, if_pos (by omega)]
    rw [hg]
    subst h0
    clear h hl63 hl hg hdn
    go_enter Try.func35, Try.ntmps35
    go_wp2
    go_ret
    exact ⟨rfl, H.out, Chg.refl _ _⟩
  · by_cases h1 : l = 1
    · have hg : m.goes = ({ m with left := 0, down := true }, true) := by rw [M.Dsk.goes, if_neg (by omega), if_pos (by omega)]
      rw [hg]
      have B1 := (h.blk.set_ 2 (.int .i64 ((0 : Nat) : Int))).set_ 3 (.bool true)
      have K1 : Chg (fun b => b = g) w ((w.setCell ⟨g, 2, none⟩ (.int .i64 ((0 : Nat) : Int))).setCell ⟨g, 3, none⟩ (.bool true)) := ((Chg.refl _ w).cell 2 _).cell 3 _
      have R1 := Lib.hid (h.fields K1 0 true B1 (by decide))
      have K1' := Lib.hid K1
      subst h1
      clear h hl63 hl hg B1 K1 hdn
      go_enter Try.func35, Try.ntmps35
      go_wp2
      go_ret
      exact ⟨rfl, R1.out, K1'.out⟩
    · obtain ⟨n, hn⟩ : ∃ n, n = l - 1 := ⟨_, rfl⟩
      have hg : m.goes = ({ m with left := n }, false) := by rw [M.Dsk.goes, if_neg (by omega), if_neg (by omega), ← hl, ← hn, hdn]
      rw [hg]
      have s1 : wrap64 ((l : Int) - 1) = (n : Int) := by unfold wrap64; omega
      have s2 : ((n : Int) == 0) = false := by have : ¬ (n : Int) = 0 := by omega
                                               simpa using this
      have s3 : ((l : Int) == 0) = false := by have : ¬ (l : Int) = 0 := by omega
                                               simpa using this
      have B1 := (h.blk.set_ 2 (.int .i64 (n : Int))).set_ 3 (.bool false)
      have K1 : Chg (fun b => b = g) w ((w.setCell ⟨g, 2, none⟩ (.int .i64 (n : Int))).setCell ⟨g, 3, none⟩ (.bool false)) := ((Chg.refl _ w).cell 2 _).cell 3 _
      have R1 := Lib.hid (h.fields K1 n false B1 (by omega))
      have hdn' : Hid (m.down = false) := hdn
      have K1' := Lib.hid K1
      have n0 : ¬ n = 0 := by omega
      clear h hl63 hl hg B1 K1 h1 hn hdn
      go_enter Try.func35, Try.ntmps35
      go_wp2
      go_ret
      exact ⟨rfl, by rw [hdn'.out]; exact R1.out, K1'.out⟩

end Go.Proofs.Ythmamdlhgfkckaa
