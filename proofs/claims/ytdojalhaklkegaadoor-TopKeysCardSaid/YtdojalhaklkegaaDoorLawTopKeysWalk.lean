/-
  THE WALK OF orloptop.TopKeys: it returns true, and writes nothing that was there. Conditions: the program's tables of layers 2 and 4 lie as they were laid.
-/
import Derived.Test.YtdojalhaklkegaaDoorTopSealing
import Derived.Test.YtdojalhaklkegaaDoorMacMac
import Derived.Test.YtdojalhaklkegaaDoorRefA
import Derived.Lib.SlBytesConst
namespace Go.Proofs.YtdojalhaklkegaaDoor
open Go.RowKit
set_option linter.unusedVariables false
set_option maxRecDepth 100000

theorem tequal_yes (v1 v2 : Value) (bs : List UInt8) (w : World) (h1 : IsB w v1 bs) (h2 : IsB w v2 bs) :
    Calls Tryd.prog 12 #[v1, v2] w fun e w' => e = .returned (.bool true) ∧ Below w.heap.size w w' := by
  refine (equal_any v1 v2 bs bs w h1 h2).mono ?_
  rintro e w' ⟨rfl, n, rfl⟩
  exact ⟨by simp, below_draws w n⟩

theorem isB_info (w : World) (t : TypeId) (fr : Nat × Nat) : IsB (w.alloc (.cells #[.int .u8 105, .int .u8 110, .int .u8 102, .int .u8 111] t fr)) (.slice (some ⟨w.heap.size, 0, none⟩) 4 4) [105, 110, 102, 111] := by
  refine ⟨_, 4, rfl, Nat.le_refl _, by unfold maxLen; omega, .inr ⟨w.heap.size, 0, rfl, fun i hi => ?_⟩⟩
  rw [World.cell?_alloc_mark]
  match i, hi with
  | 0, _ => rfl
  | 1, _ => rfl
  | 2, _ => rfl
  | 3, _ => rfl

set_option maxHeartbeats 1000000 in
theorem topKeys_walk (w : World) (hLP : Laid w ∧ LaidP w) (v1 : Value) (xs : List UInt8) (h1 : IsB w v1 xs) (v2 : Value) (ys : List UInt8) (h2 : IsB w v2 ys) (n0 n1 : Nat) (u0 : n0 < 256) (u1 : n1 < 256) :
    Calls Tryd.prog 6 #[v1, v2, .agg #[.int .u8 n0, .int .u8 n1]] w fun e w' => e = .returned (.bool true) ∧ Below w.heap.size w w' := by
  obtain ⟨ao1, cap1, rfl⟩ := h1.shape
  obtain ⟨ao2, cap2, rfl⟩ := h2.shape
  have hl1 : xs.length ≤ maxLen := by obtain ⟨_, _, _, h1, h2, _⟩ := h1; omega
  have hl2 : ys.length ≤ maxLen := by obtain ⟨_, _, _, h1, h2, _⟩ := h2; omega
  unfold maxLen at hl1 hl2
  have H1 := Lib.hid h1
  have H2 := Lib.hid h2
  have HL := Lib.hid hLP.1
  have HP := Lib.hid hLP.2
  clear h1 h2 hLP
  have kB : Below w.heap.size w (w.alloc (.cells #[.int .u8 n0, .int .u8 n1] 49)) := (Below.refl _ _).alloc (Nat.le_refl _) _
  have KB := Lib.hid kB
  clear kB
  by_cases hb : 500 < xs.length
  · go_enter Tryd.func6, Tryd.ntmps6
    go_wp2_with fail
    refine (sealing_any _ (HP.out.below KB.out HP.out.size)).mono ?_
    rintro e w1 ⟨rfl, k⟩
    go_wp2
    go_ret
    exact ⟨rfl, KB.out.trans (k.mono KB.out.size)⟩
  · by_cases hb2 : 500 < ys.length
    · go_enter Tryd.func6, Tryd.ntmps6
      go_wp2_with fail
      refine (sealing_any _ (HP.out.below KB.out HP.out.size)).mono ?_
      rintro e w1 ⟨rfl, k⟩
      go_wp2
      go_ret
      exact ⟨rfl, KB.out.trans (k.mono KB.out.size)⟩
    · have hx : xs.length ≤ 500 := by omega
      have hy : ys.length ≤ 500 := by omega
      go_enter Tryd.func6, Tryd.ntmps6
      go_wp2_with fail
      refine (sealing_any _ (HP.out.below KB.out HP.out.size)).mono ?_
      rintro e w1 ⟨rfl, b1⟩
      have k1 : Below w.heap.size w w1 := KB.out.trans (b1.mono KB.out.size)
      have c0 : w1.cell? ⟨w.heap.size, 0, none⟩ = some (.int .u8 (n0 : Int)) := by
        rw [b1.cell (by show w.heap.size < _; simp), (Blk.newAt w _ _ w.heap.size _ rfl rfl).cell]
        rfl
      have c1 : w1.cell? ⟨w.heap.size, 1, none⟩ = some (.int .u8 (n1 : Int)) := by
        rw [b1.cell (by show w.heap.size < _; simp), (Blk.newAt w _ _ w.heap.size _ rfl rfl).cell]
        rfl
      have K1 := Lib.hid k1
      have kc := fun (w : World) (C : Array Value) (n c : Nat) => Lib.run_convert_bytes_const (P := Tryd.prog) w 24 5 C n c Tryd.underlying24 Tryd.underlying5
      clear b1 k1
      rcases Nat.lt_trichotomy n0 n1 with h | h | h
      · have hi : (n0 : Int) < (n1 : Int) := by omega
        have hj : ¬ (n1 : Int) < (n0 : Int) := by omega
        have hab : n0 ≤ n1 := by omega
        go_wp2_with fail
        have KA : Hid (Below w1.heap.size w1 (w1.alloc (.cells #[.int .u8 105, .int .u8 110, .int .u8 102, .int .u8 111] 5 (4, 5)))) := (Below.refl _ _).alloc (Nat.le_refl _) _
        have k1a : Below w.heap.size w (w1.alloc (.cells #[.int .u8 105, .int .u8 110, .int .u8 102, .int .u8 111] 5 (4, 5))) := K1.out.trans (KA.out.mono K1.out.size)
        refine (derive_any _ _ _ xs ys [105, 110, 102, 111] n0 _ (HL.out.below k1a HL.out.size) (H1.out.below k1a) (H2.out.below k1a) (isB_info w1 5 _) (by omega) (by omega) (by decide) (by omega)).mono ?_
        rintro e w2 ⟨r2, rfl, o2, b2⟩
        have K2 : Hid (Below w.heap.size w w2) := k1a.trans (b2.mono k1a.size)
        obtain ⟨ao3, c3, rfl⟩ := o2.shape'
        rw [M.expd_length] at o2 ⊢
        have O2 := Lib.hid o2
        clear o2 b2 KA k1a K1
        go_wp2_with fail
        have KC : Hid (Below w2.heap.size w2 (w2.alloc (.cells #[.int .u8 105, .int .u8 110, .int .u8 102, .int .u8 111] 5 (4, 5)))) := (Below.refl _ _).alloc (Nat.le_refl _) _
        have k2a : Below w.heap.size w (w2.alloc (.cells #[.int .u8 105, .int .u8 110, .int .u8 102, .int .u8 111] 5 (4, 5))) := K2.out.trans (KC.out.mono K2.out.size)
        refine (derive_any _ _ _ xs ys [105, 110, 102, 111] n1 _ (HL.out.below k2a HL.out.size) (H1.out.below k2a) (H2.out.below k2a) (isB_info w2 5 _) (by omega) (by omega) (by decide) (by omega)).mono ?_
        rintro e w3 ⟨r3, rfl, o3, b3⟩
        have K3 : Hid (Below w.heap.size w w3) := k2a.trans (b3.mono k2a.size)
        obtain ⟨ao4, c4, rfl⟩ := o3.shape'
        rw [M.expd_length] at o3 ⊢
        have hc4 : n1 ≤ c4 := by
          obtain ⟨_, _, e, h1, _⟩ := o3.isB
          injection e with _ e1 e
          omega
        have hac4 : (n0 : Int) ≤ (c4 : Int) := by omega
        have I3 : Hid (IsB w3 (.slice ao4 n0 c4) (M.expd (M.block (M.mac ys xs)) [105, 110, 102, 111] n0)) := by
          have := o3.isB.take n0 hab
          rwa [M.expd_take _ _ _ _ hab] at this
        have I2 : Hid (IsB w3 (.slice ao3 n0 c3) (M.expd (M.block (M.mac ys xs)) [105, 110, 102, 111] n0)) := ((O2.out.below (KC.out.trans (b3.mono KC.out.size))).isB)
        clear o3 b3 hc4 KC k2a K2 O2
        go_wp2_with fail
        refine (tequal_yes _ _ _ w3 I3.out I2.out).mono ?_
        rintro e w4 ⟨rfl, b4⟩
        have k4 : Below w.heap.size w w4 := K3.out.trans (b4.mono K3.out.size)
        go_wp2
        go_ret
        exact ⟨rfl, k4⟩
      · subst h
        have hi : ¬ (n0 : Int) < (n0 : Int) := by omega
        have hab : n0 ≤ n0 := by omega
        go_wp2_with fail
        have KA : Hid (Below w1.heap.size w1 (w1.alloc (.cells #[.int .u8 105, .int .u8 110, .int .u8 102, .int .u8 111] 5 (4, 5)))) := (Below.refl _ _).alloc (Nat.le_refl _) _
        have k1a : Below w.heap.size w (w1.alloc (.cells #[.int .u8 105, .int .u8 110, .int .u8 102, .int .u8 111] 5 (4, 5))) := K1.out.trans (KA.out.mono K1.out.size)
        refine (derive_any _ _ _ xs ys [105, 110, 102, 111] n0 _ (HL.out.below k1a HL.out.size) (H1.out.below k1a) (H2.out.below k1a) (isB_info w1 5 _) (by omega) (by omega) (by decide) (by omega)).mono ?_
        rintro e w2 ⟨r2, rfl, o2, b2⟩
        have K2 : Hid (Below w.heap.size w w2) := k1a.trans (b2.mono k1a.size)
        obtain ⟨ao3, c3, rfl⟩ := o2.shape'
        rw [M.expd_length] at o2 ⊢
        have O2 := Lib.hid o2
        clear o2 b2 KA k1a K1
        go_wp2_with fail
        have KC : Hid (Below w2.heap.size w2 (w2.alloc (.cells #[.int .u8 105, .int .u8 110, .int .u8 102, .int .u8 111] 5 (4, 5)))) := (Below.refl _ _).alloc (Nat.le_refl _) _
        have k2a : Below w.heap.size w (w2.alloc (.cells #[.int .u8 105, .int .u8 110, .int .u8 102, .int .u8 111] 5 (4, 5))) := K2.out.trans (KC.out.mono K2.out.size)
        refine (derive_any _ _ _ xs ys [105, 110, 102, 111] n0 _ (HL.out.below k2a HL.out.size) (H1.out.below k2a) (H2.out.below k2a) (isB_info w2 5 _) (by omega) (by omega) (by decide) (by omega)).mono ?_
        rintro e w3 ⟨r3, rfl, o3, b3⟩
        have K3 : Hid (Below w.heap.size w w3) := k2a.trans (b3.mono k2a.size)
        obtain ⟨ao4, c4, rfl⟩ := o3.shape'
        rw [M.expd_length] at o3 ⊢
        have hc4 : n0 ≤ c4 := by
          obtain ⟨_, _, e, h1, _⟩ := o3.isB
          injection e with _ e1 e
          omega
        have hac4 : (n0 : Int) ≤ (c4 : Int) := by omega
        have I3 : Hid (IsB w3 (.slice ao4 n0 c4) (M.expd (M.block (M.mac ys xs)) [105, 110, 102, 111] n0)) := by
          have := o3.isB.take n0 hab
          rwa [M.expd_take _ _ _ _ hab] at this
        have I2 : Hid (IsB w3 (.slice ao3 n0 c3) (M.expd (M.block (M.mac ys xs)) [105, 110, 102, 111] n0)) := ((O2.out.below (KC.out.trans (b3.mono KC.out.size))).isB)
        clear o3 b3 hc4 KC k2a K2 O2
        go_wp2_with fail
        refine (tequal_yes _ _ _ w3 I3.out I2.out).mono ?_
        rintro e w4 ⟨rfl, b4⟩
        have k4 : Below w.heap.size w w4 := K3.out.trans (b4.mono K3.out.size)
        go_wp2
        go_ret
        exact ⟨rfl, k4⟩
      · have hi : (n1 : Int) < (n0 : Int) := by omega
        have hj : ¬ (n0 : Int) < (n1 : Int) := by omega
        have hab : n1 ≤ n0 := by omega
        go_wp2_with fail
        have KA : Hid (Below w1.heap.size w1 (w1.alloc (.cells #[.int .u8 105, .int .u8 110, .int .u8 102, .int .u8 111] 5 (4, 5)))) := (Below.refl _ _).alloc (Nat.le_refl _) _
        have k1a : Below w.heap.size w (w1.alloc (.cells #[.int .u8 105, .int .u8 110, .int .u8 102, .int .u8 111] 5 (4, 5))) := K1.out.trans (KA.out.mono K1.out.size)
        refine (derive_any _ _ _ xs ys [105, 110, 102, 111] n1 _ (HL.out.below k1a HL.out.size) (H1.out.below k1a) (H2.out.below k1a) (isB_info w1 5 _) (by omega) (by omega) (by decide) (by omega)).mono ?_
        rintro e w2 ⟨r2, rfl, o2, b2⟩
        have K2 : Hid (Below w.heap.size w w2) := k1a.trans (b2.mono k1a.size)
        obtain ⟨ao3, c3, rfl⟩ := o2.shape'
        rw [M.expd_length] at o2 ⊢
        have O2 := Lib.hid o2
        clear o2 b2 KA k1a K1
        go_wp2_with fail
        have KC : Hid (Below w2.heap.size w2 (w2.alloc (.cells #[.int .u8 105, .int .u8 110, .int .u8 102, .int .u8 111] 5 (4, 5)))) := (Below.refl _ _).alloc (Nat.le_refl _) _
        have k2a : Below w.heap.size w (w2.alloc (.cells #[.int .u8 105, .int .u8 110, .int .u8 102, .int .u8 111] 5 (4, 5))) := K2.out.trans (KC.out.mono K2.out.size)
        refine (derive_any _ _ _ xs ys [105, 110, 102, 111] n0 _ (HL.out.below k2a HL.out.size) (H1.out.below k2a) (H2.out.below k2a) (isB_info w2 5 _) (by omega) (by omega) (by decide) (by omega)).mono ?_
        rintro e w3 ⟨r3, rfl, o3, b3⟩
        have K3 : Hid (Below w.heap.size w w3) := k2a.trans (b3.mono k2a.size)
        obtain ⟨ao4, c4, rfl⟩ := o3.shape'
        rw [M.expd_length] at o3 ⊢
        have hc4 : n0 ≤ c4 := by
          obtain ⟨_, _, e, h1, _⟩ := o3.isB
          injection e with _ e1 e
          omega
        have hac4 : (n1 : Int) ≤ (c4 : Int) := by omega
        have I3 : Hid (IsB w3 (.slice ao4 n1 c4) (M.expd (M.block (M.mac ys xs)) [105, 110, 102, 111] n1)) := by
          have := o3.isB.take n1 hab
          rwa [M.expd_take _ _ _ _ hab] at this
        have I2 : Hid (IsB w3 (.slice ao3 n1 c3) (M.expd (M.block (M.mac ys xs)) [105, 110, 102, 111] n1)) := ((O2.out.below (KC.out.trans (b3.mono KC.out.size))).isB)
        clear o3 b3 hc4 KC k2a K2 O2
        go_wp2_with fail
        refine (tequal_yes _ _ _ w3 I3.out I2.out).mono ?_
        rintro e w4 ⟨rfl, b4⟩
        have k4 : Below w.heap.size w w4 := K3.out.trans (b4.mono K3.out.size)
        go_wp2
        go_ret
        exact ⟨rfl, k4⟩

end Go.Proofs.YtdojalhaklkegaaDoor
