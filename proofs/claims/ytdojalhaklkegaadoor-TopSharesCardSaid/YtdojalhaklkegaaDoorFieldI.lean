/-
  CONTRACTS OF (field.Elem).Square, Times, squared AND Invert. Conditions: the cells are elements'.
-/
import Derived.Test.YtdojalhaklkegaaDoorFieldM
namespace Go.Proofs.YtdojalhaklkegaaDoor
open Go.RowKit
set_option linter.unusedVariables false

set_option maxHeartbeats 2000000 in
theorem fsquare_any (A : List Value) (x : Nat) (w : World) (hA : Fl A x) :
    Calls Tryd.prog 87 #[.agg A.toArray] w (GivesE Fl w (x * x % M.Q)) := by
  have HA := Lib.hid hA
  have C := Lib.hid (fun w => fmul_any A A x x w hA hA)
  clear hA
  obtain ⟨g, hg⟩ : ∃ g, g = w.heap.size := ⟨_, rfl⟩
  obtain ⟨W, hW⟩ : ∃ W, Hid (W = (w.alloc (.cells A.toArray 62)).alloc (.cells z5.toArray 62)) := ⟨_, rfl⟩
  have A0 : Hid (Blk W g 62 A) := by rw [hW.out, hg]; exact (Blk.newAt _ _ _ _ _ rfl rfl).alloc _
  have A1 : Hid (Blk W (g + 1) 62 z5) := by rw [hW.out, hg]; exact Blk.newAt _ _ _ _ _ (by simp) rfl
  have K0 : Hid (Below w.heap.size w W) := by rw [hW.out]; exact ((Below.refl _ _).alloc (Nat.le_refl _) _).alloc (by simp) _
  have HG : Hid (w.heap.size ≤ g + 1) := by rw [Hid]; omega
  go_enter Tryd.func87, Tryd.ntmps87
  go_upto_region 1 with fail
  rw [← z5_arr, ← hW.out, ← hg]
  clear hW hg
  go_wp2_with (refine wpList_load_el rfl (.tmp 1) rfl g rfl A A0.out HA.out.len ?_)
  refine (C.out _).mono ?_
  rintro e w1 ⟨L, rfl, hL, k1⟩
  have B2 : Hid (Blk w1 (g + 1) 62 z5) := A1.out.below k1 A1.out.lt
  have K1 : Hid (Below w.heap.size w w1) := K0.out.trans (k1.mono K0.out.size)
  go_wp2_with (refine wpList_store_el rfl rfl (.tmp 2) (.tmp 5) rfl (g + 1) rfl L z5 rfl B2.out z5_len hL.len hL.one ?_; intro w3 hb3 ho3)
  exact bodyPost_ret (results_cell_row rfl _ _ (g + 1) _ _ _ _ rfl hb3 Tryd.underlying62 rfl (by rw [List.size_toArray, hL.len]; kernel_rfl)) rfl ⟨L, rfl, hL, K1.out.trans (ho3.below K1.out.size HG.out)⟩

theorem fl_small (n : Nat) (h : n < 4294967296) : Fl (uc [n, 0, 0, 0, 0]) (n % M.Q) := by
  refine ⟨n, 0, 0, 0, 0, rfl, ⟨by omega, by decide, by decide, by decide, by decide⟩, ?_⟩
  simp only [M.V5, Nat.zero_mul, Nat.add_zero]

set_option maxHeartbeats 2000000 in
theorem ftimes_any (A : List Value) (x n : Nat) (w : World) (hA : Fl A x) (hn : n < 4294967296) :
    Calls Tryd.prog 88 #[.agg A.toArray, .int .u32 (n : Int)] w (GivesE Fl w (x * n % M.Q)) := by
  have HA := Lib.hid hA
  obtain ⟨N, hN⟩ : ∃ N, N = uc [n, 0, 0, 0, 0] := ⟨_, rfl⟩
  have C := Lib.hid (fun w => fmul_any A N x (n % M.Q) w hA (by rw [hN]; exact fl_small n hn))
  rw [Nat.mul_mod, Nat.mod_mod, ← Nat.mul_mod] at C
  have HN : Hid (#[Value.int .u64 (n : Int), .int .u64 0, .int .u64 0, .int .u64 0, .int .u64 0] = N.toArray) := by rw [hN]; rfl
  have t1 : IntKind.u64.wrap (n : Int) = (n : Int) := n_wrap n (by omega)
  clear hA hN hn
  obtain ⟨g, hg⟩ : ∃ g, g = w.heap.size := ⟨_, rfl⟩
  obtain ⟨W, hW⟩ : ∃ W, Hid (W = (w.alloc (.cells A.toArray 62)).alloc (.cells z5.toArray 62)) := ⟨_, rfl⟩
  have A0 : Hid (Blk W g 62 A) := by rw [hW.out, hg]; exact (Blk.newAt _ _ _ _ _ rfl rfl).alloc _
  have A1 : Hid (Blk W (g + 1) 62 z5) := by rw [hW.out, hg]; exact Blk.newAt _ _ _ _ _ (by simp) rfl
  have K0 : Hid (Below w.heap.size w W) := by rw [hW.out]; exact ((Below.refl _ _).alloc (Nat.le_refl _) _).alloc (by simp) _
  have HG : Hid (w.heap.size ≤ g + 1) := by rw [Hid]; omega
  go_enter Tryd.func88, Tryd.ntmps88
  go_upto_region 1 with fail
  rw [← z5_arr, ← hW.out, ← hg]
  clear hW hg
  go_wp2_with (refine wpList_load_el rfl (.tmp 2) rfl g rfl A A0.out HA.out.len ?_)
  rw [HN.out]
  refine (C.out _).mono ?_
  rintro e w1 ⟨L, rfl, hL, k1⟩
  have B2 : Hid (Blk w1 (g + 1) 62 z5) := A1.out.below k1 A1.out.lt
  have K1 : Hid (Below w.heap.size w w1) := K0.out.trans (k1.mono K0.out.size)
  go_wp2_with (refine wpList_store_el rfl rfl (.tmp 4) (.tmp 10) rfl (g + 1) rfl L z5 rfl B2.out z5_len hL.len hL.one ?_; intro w3 hb3 ho3)
  exact bodyPost_ret (results_cell_row rfl _ _ (g + 1) _ _ _ _ rfl hb3 Tryd.underlying62 rfl (by rw [List.size_toArray, hL.len]; kernel_rfl)) rfl ⟨L, rfl, hL, K1.out.trans (ho3.below K1.out.size HG.out)⟩

theorem pow_sq (x k q : Nat) : (x ^ (2 ^ k) % q) * (x ^ (2 ^ k) % q) % q = x ^ (2 ^ (k + 1)) % q := by
  rw [← Nat.mul_mod, ← Nat.pow_add, ← Nat.two_mul, Nat.pow_succ, Nat.mul_comm 2]

set_option maxHeartbeats 2000000 in
theorem fsquared_any (A : List Value) (x n : Nat) (w : World) (hA : Fl A x) (hn : n < 1000) :
    Calls Tryd.prog 94 #[.agg A.toArray, .int .i64 (n : Int)] w (GivesE Fl w (x ^ (2 ^ n) % M.Q)) := by
  have HA := Lib.hid hA
  have HX : Hid (x ^ (2 ^ 0) % M.Q = x) := by rw [Hid, Nat.pow_zero, Nat.pow_one, Nat.mod_eq_of_lt hA.lt]
  obtain ⟨q, hq⟩ : ∃ q, q = M.Q := ⟨_, rfl⟩
  have HSQ : Hid (∀ L v w, Fl L v → Calls Tryd.prog 87 #[.agg L.toArray] w (GivesE Fl w (v * v % q))) := by rw [hq]; exact fun L v w h => fsquare_any L v w h
  rw [← hq] at HX ⊢
  clear hA hq
  obtain ⟨g, hg⟩ : ∃ g, g = w.heap.size := ⟨_, rfl⟩
  obtain ⟨W, hW⟩ : ∃ W, Hid (W = (w.alloc (.cells A.toArray 62)).alloc (.cells z5.toArray 62)) := ⟨_, rfl⟩
  have A0 : Hid (Blk W g 62 A) := by rw [hW.out, hg]; exact (Blk.newAt _ _ _ _ _ rfl rfl).alloc _
  have A1 : Hid (Blk W (g + 1) 62 z5) := by rw [hW.out, hg]; exact Blk.newAt _ _ _ _ _ (by simp) rfl
  have K0 : Hid (Below w.heap.size w W) := by rw [hW.out]; exact ((Below.refl _ _).alloc (Nat.le_refl _) _).alloc (by simp) _
  have HG : Hid (w.heap.size = g) := hg.symm
  have HL0 : Hid (Fl A (x ^ (2 ^ 0) % q)) := by rw [HX.out]; exact HA.out
  go_enter Tryd.func94, Tryd.ntmps94
  go_upto_region 1 with fail
  rw [← z5_arr, ← hW.out, ← hg]
  clear hW hg HX HA
  go_wp2
  go_loopw [6] (fun i wr => ∃ (k : Nat) (L : List Value), k ≤ n ∧ i = .int .i64 k ∧ Hid (Fl L (x ^ (2 ^ k) % q)) ∧ Hid (Blk wr g 62 L) ∧ Hid (Blk wr (g + 1) 62 z5) ∧ Hid (Below w.heap.size w wr))
    (fun i _ => n - (intOf i).toNat)
  case atStart => exact ⟨0, A, by omega, rfl, HL0, A0, A1, K0⟩
  case round =>
    clear A0 A1 K0 HL0
    obtain ⟨wA, rfl⟩ : ∃ x, x = wr := ⟨_, rfl⟩
    obtain ⟨k, L, hk, rfl, hL, b0, b1, kk⟩ := hrel
    by_cases hlt : k < n
    · have C := Lib.hid (fun w => HSQ.out L _ w hL.out)
      rw [pow_sq] at C
      go_wp2_with (refine wpList_load_el rfl (.tmp 2) rfl g rfl L b0.out hL.out.len ?_)
      refine (C.out _).mono ?_
      rintro e w1 ⟨L', rfl, hL', k1⟩
      have HL' := Lib.hid hL'
      have B0 : Hid (Blk w1 g 62 L) := b0.out.below k1 b0.out.lt
      have B1 : Hid (Blk w1 (g + 1) 62 z5) := b1.out.below k1 b1.out.lt
      have K1 : Hid (Below w.heap.size w w1) := kk.out.trans (k1.mono kk.out.size)
      clear hL' k1 b0 b1 kk C
      go_wp2_with (refine wpList_store_el rfl rfl (.tmp 2) (.tmp 9) rfl g rfl L' L rfl B0.out hL.out.len HL'.out.len HL'.out.one ?_; intro w3 hb3 ho3)
      have E1 : Hid (Blk w3 (g + 1) 62 z5) := B1.out.grown ho3 (by intro e; injection e with e; omega)
      have E0 : Hid (Blk w3 g 62 L') := hb3
      have EK : Hid (Below w.heap.size w w3) := K1.out.trans (ho3.below K1.out.size (Nat.le_of_eq HG.out))
      clear hb3 ho3 B0 B1 K1
      go_roundw
      case rel => exact ⟨k + 1, L', by omega, by go_num, HL', E0, E1, EK⟩
      case measure => simp [intOf]; omega
    · obtain rfl : k = n := by omega
      go_wp2_with (first
        | (refine wpList_load_el rfl (.tmp 2) rfl g rfl L b0.out hL.out.len ?_)
        | (refine wpList_store_el rfl rfl (.tmp 4) (.tmp 11) rfl (g + 1) rfl L z5 rfl b1.out z5_len hL.out.len hL.out.one ?_; intro w5 hb5 ho5))
      exact bodyPost_ret (results_cell_row rfl _ _ (g + 1) _ _ _ _ rfl hb5 Tryd.underlying62 rfl (by rw [List.size_toArray, hL.out.len]; kernel_rfl)) rfl ⟨L, rfl, hL.out, kk.out.trans (ho5.below kk.out.size (by have := HG.out; omega))⟩

end Go.Proofs.YtdojalhaklkegaaDoor
