/-
  CONTRACTS OF orlopref07.From, Bytes AND Small. Conditions: none but that the numbers are below 2^256.
-/
import Derived.Test.YteombilmndlhjaaRefR
import Derived.Test.YteombilmndlhjaaAppend
namespace Go.Proofs.Yteombilmndlhjaa
open Go.RowKit
set_option linter.unusedVariables false

namespace M

theorem dg_set (v k d : Nat) (hv : v < 256 ^ k) (hk : k < 32) (hd : d < 256) : (dg v 32).set k d = dg (v + d * 256 ^ k) 32 := by
  apply ext_getDN
  · rw [List.length_set, dg_length, dg_length]
  · intro i hi
    rw [List.length_set, dg_length] at hi
    rw [dg_get _ 32 i hi]
    by_cases e : i = k
    · subst e
      rw [Nat.add_mul_div_right _ _ (pow_pos i), Nat.div_eq_of_lt hv, Nat.zero_add, Nat.mod_eq_of_lt hd]
      simp [List.getD_eq_getElem?_getD, dg_length, hi]
    · have e1 : ((dg v 32).set k d).getD i 0 = (dg v 32).getD i 0 := by
        simp only [List.getD_eq_getElem?_getD, List.getElem?_set]
        rw [if_neg (fun h => e h.symm)]
      rw [e1, dg_get _ 32 i hi]
      by_cases hlt : i < k
      · obtain ⟨j, rfl⟩ : ∃ j, k = i + 1 + j := ⟨k - i - 1, by omega⟩
        rw [show v + d * 256 ^ (i + 1 + j) = v + (d * 256 ^ j * 256) * 256 ^ i by rw [Nat.pow_add, Nat.pow_succ, Nat.mul_assoc d, Nat.mul_assoc d, Nat.mul_comm (256 ^ i * 256), Nat.mul_comm (256 ^ i), Nat.mul_assoc], Nat.add_mul_div_right _ _ (pow_pos i)]
        omega
      · have h1 : 256 ^ (k + 1) ≤ 256 ^ i := Nat.pow_le_pow_right (by decide) (by omega)
        have h2 : d * 256 ^ k ≤ 255 * 256 ^ k := Nat.mul_le_mul_right _ (by omega)
        rw [Nat.pow_succ] at h1
        rw [Nat.div_eq_of_lt (show v + d * 256 ^ k < 256 ^ i by omega), Nat.div_eq_of_lt (show v < 256 ^ i by omega)]

theorem gl_past' (b : List UInt8) (k : Nat) (h : b.length ≤ k) : ∀ j, gl b (k + j) = gl b k := by
  intro j
  induction j with
  | zero => rfl
  | succ j ih =>
    rw [← Nat.add_assoc, gl, ih]
    simp [List.getD_eq_getElem?_getD, List.getElem?_eq_none (show b.length ≤ k + j by omega)]

/-- The number that 32 bytes tell. -/
def told (b : List UInt8) : Nat := gl b 32 % 2 ^ 255

theorem told_set (v : Nat) (hv : v < 256 ^ 32) : (dg v 32).set 31 (v / 256 ^ 31 % 256 % 128) = dg (v % 2 ^ 255) 32 := by
  have e : (2 : Nat) ^ 255 = 256 ^ 31 * 128 := by decide +kernel
  have hd : v / 256 ^ 31 < 256 := by
    apply carry_le
    rw [Nat.pow_succ] at hv
    omega
  have h1 : dg v 32 = (dg (v % 256 ^ 31) 32).set 31 (v / 256 ^ 31) := by
    rw [dg_set _ 31 _ (Nat.mod_lt _ (pow_pos 31)) (by decide) hd]
    congr 1
    rw [Nat.mul_comm, Nat.mod_add_div]
  rw [h1, List.set_set, dg_set _ 31 _ (Nat.mod_lt _ (pow_pos 31)) (by decide) (by omega), Nat.mod_eq_of_lt hd, e, Nat.mod_mul, Nat.mul_comm (256 ^ 31)]

end M

theorem nm_set (v k d : Nat) (hv : v < 256 ^ k) (hk : k < 32) (hd : d < 256) : (nm v).set k (.int .i64 (d : Int)) = nm (v + d * 256 ^ k) := by
  rw [show (Value.int .i64 (d : Int)) = ci d from rfl, nm, ic_set, M.dg_set v k d hv hk hd, nm]

theorem nm_zero : z32 = nm 0 := by
  rw [nm, show M.dg 0 32 = List.replicate 32 0 by decide +kernel, z32, ic_zero]

set_option maxRecDepth 100000 in
set_option maxHeartbeats 2000000 in
theorem rbytes_n (L : List Value) (v : Nat) (w : World) (hL : IsN L v) : Calls Try.prog 25 #[.agg L.toArray] w (Makes w (M.le v 32)) := by
  have HL := Lib.hid hL
  obtain ⟨W, hW⟩ : ∃ W, Hid (W = w.alloc (.cells L.toArray 49)) := ⟨_, rfl⟩
  obtain ⟨g, hg⟩ : ∃ g, g = w.heap.size := ⟨_, rfl⟩
  have HG : Hid (g = w.heap.size) := hg
  have B0 : Hid (Blk W g 49 L) := by rw [hW.out, hg]; exact Blk.newAt _ _ _ _ _ rfl rfl
  have K : Hid (Below w.heap.size w W) := by rw [hW.out]; exact (Below.refl _ _).alloc (Nat.le_refl _) _
  clear hL
  go_enter Try.func25, Try.ntmps25
  go_wp2
  rw [← hW.out, ← hg]
  clear hW hg
  go_loopw [3, 4] (fun x i wr => ∃ k : Nat, k ≤ 32 ∧ i = .int .i64 (k : Int) ∧ Hid (Own wr (g + 1) x (M.le v k)) ∧ Hid (Blk wr g 49 L) ∧ Hid (Below w.heap.size w wr))
    (fun _ i _ => 32 - (intOf i).toNat)
  case atStart => exact ⟨0, by omega, rfl, World.ownsRow_nil _ _ _ _, B0, K⟩
  case round =>
    clear B0 K
    obtain ⟨wz, rfl⟩ : ∃ x, x = wr := ⟨_, rfl⟩
    obtain ⟨k, hk, rfl, oo, b0, kk⟩ := hrel
    obtain ⟨vx, rfl⟩ : ∃ z, z = u3 := ⟨_, rfl⟩
    by_cases hlt : k < 32
    · obtain ⟨X, hX⟩ : ∃ X, Hid (X = v / 256 ^ k % 256) := ⟨_, rfl⟩
      have hXl : X < 256 := by rw [hX.out]; exact Nat.mod_lt _ (by decide)
      have c0 : wz.cell? ⟨g, k, none⟩ = some (.int .i64 (X : Int)) := by rw [b0.out.cell, HL.out.1, nm_get v k hlt, ← hX.out]
      have wX : IntKind.u8.wrap (X : Int) = (X : Int) := by rw [show IntKind.u8.wrap (X : Int) = (X : Int) % 256 from rfl]; omega
      have OZ : Hid (IsB (wz.alloc (.cells #[.int .u8 (X : Int)] 5)) (.slice (some ⟨wz.heap.size, 0, none⟩) 1 1) [UInt8.ofNat (v / 256 ^ k)]) := isB_one wz 5 _ _ (by rw [hX.out]; simp)
      have OA : Hid (Own (wz.alloc (.cells #[.int .u8 (X : Int)] 5)) (g + 1) vx (M.le v k)) := oo.out.below ((Below.refl _ _).alloc (Nat.le_refl _) _)
      have BA : Hid (Blk (wz.alloc (.cells #[.int .u8 (X : Int)] 5)) g 49 L) := b0.out.alloc _
      have KA : Hid (Below w.heap.size w (wz.alloc (.cells #[.int .u8 (X : Int)] 5))) := kk.out.alloc kk.out.size _
      have HGS : Hid (g + 1 ≤ (wz.alloc (.cells #[.int .u8 (X : Int)] 5)).heap.size) := BA.out.lt
      clear hX oo b0 kk
      go_wp2_with (at_builtin; go_must (refine wpList_app _ rfl _ _ rfl (g + 1) _ (M.le v k) rfl OA.out _ [UInt8.ofNat (v / 256 ^ k)] rfl OZ.out (fun _ _ h => by cases h) ?d1 HGS.out ?_))
      case d1 => rw [M.le_length]; simp; omega
      intro v2 w2 o2 k2 _
      have O2 : Hid (Own w2 (g + 1) v2 (M.le v (k + 1))) := o2
      have B2 : Hid (Blk w2 g 49 L) := BA.out.below k2 (Nat.lt_succ_self g)
      have K2 : Hid (Below w.heap.size w w2) := KA.out.trans (k2.mono (by have := HG.out; omega))
      clear o2 k2 OZ KA OA BA
      go_wp2
      go_roundw
      case rel => exact ⟨k + 1, by omega, by go_num, O2, B2, K2⟩
      case measure => simp [intOf]; omega
    · obtain rfl : k = 32 := by omega
      go_wp2
      go_ret
      exact ⟨_, rfl, oo.out.mono (by have := HG.out; omega), kk.out⟩

set_option maxRecDepth 100000 in
set_option maxHeartbeats 4000000 in
theorem rfrom_n (bv : Value) (b : List UInt8) (w : World) (hb : IsB w bv b) : Calls Try.prog 23 #[bv] w (GivesN w (M.told b % M.Q)) := by
  obtain ⟨ao, cap, rfl, hl1, hl2, hat⟩ := hb
  unfold maxLen at hl2
  have HAT : Hid (At w ao b) := hat
  obtain ⟨n, hn⟩ : ∃ n, n = b.length := ⟨_, rfl⟩
  have HN := Lib.hid hn
  rw [← hn] at hl1 ⊢
  have CR := Lib.hid (fun w L => rest_n L (M.told b) w)
  obtain ⟨r, hr⟩ : ∃ r, Hid (r = M.told b % M.Q) := ⟨_, rfl⟩
  rw [← hr.out] at CR ⊢
  obtain ⟨W, hW⟩ : ∃ W, Hid (W = (w.alloc (.cells z32.toArray 49)).alloc (.cells z32.toArray 49)) := ⟨_, rfl⟩
  obtain ⟨g, hg⟩ : ∃ g, g = w.heap.size := ⟨_, rfl⟩
  have HG : Hid (g = w.heap.size) := hg
  have B0 : Hid (Blk W g 49 z32) := by rw [hW.out, hg]; exact (Blk.newAt _ _ _ _ _ rfl rfl).alloc _
  have B1 : Hid (Blk W (g + 1) 49 (nm (M.gl b 0))) := by
    rw [hW.out, hg, show M.gl b 0 = 0 from rfl, ← nm_zero]; exact Blk.newAt _ _ _ _ _ (by simp) rfl
  have K : Hid (Below w.heap.size w W) := by rw [hW.out]; exact ((Below.refl _ _).alloc (Nat.le_refl _) _).alloc (by simp) _
  clear hat hn hr
  go_enter Try.func23, Try.ntmps23
  go_wp2
  rw [← z32_arr, ← hW.out, ← hg]
  clear hW hg
  go_loopw [4] (fun i wr => ∃ k : Nat, k ≤ 32 ∧ k ≤ n ∧ i = .int .i64 (k : Int) ∧ Hid (Blk wr (g + 1) 49 (nm (M.gl b k))) ∧ Hid (Blk wr g 49 z32) ∧ Hid (Below w.heap.size w wr))
    (fun i _ => 32 - (intOf i).toNat)
  case atStart => exact ⟨0, by omega, by omega, rfl, B1, B0, K⟩
  case round =>
    clear B0 B1 K
    obtain ⟨wz, rfl⟩ : ∃ x, x = wr := ⟨_, rfl⟩
    obtain ⟨k, hk, hkn, rfl, b1, b0, kk⟩ := hrel
    by_cases hlt : k < 32 ∧ k < n
    · obtain ⟨hk32, hkn2⟩ := hlt
      obtain ⟨bb, off, rfl, hcells⟩ : ∃ b' off, ao = some ⟨b', off, none⟩ ∧ ∀ i, i < b.length → w.cell? ⟨b', off + i, none⟩ = some (.int .u8 ((b.getD i 0).toNat : Int)) := by
        rcases HAT.out with h0 | h0
        · have := HN.out; rw [h0] at this; simp at this; omega
        · exact h0
      have hc0 := hcells k (by have := HN.out; omega)
      obtain ⟨X, hX⟩ : ∃ X, Hid (X = (b.getD k 0).toNat) := ⟨_, rfl⟩
      have hXl : X < 256 := by rw [hX.out]; exact (b.getD k 0).toNat_lt
      have cb : wz.cell? ⟨bb, off + k, none⟩ = some (.int .u8 (X : Int)) := by rw [kk.out.cell (by exact World.block_lt_of_cell? w _ hc0), hc0, ← hX.out]
      obtain ⟨old, hold⟩ : ∃ old : Nat, wz.cell? ⟨g + 1, k, none⟩ = some (.int .i64 (old : Int)) := ⟨_, by rw [b1.out.cell, nm_get _ k hk32]⟩
      have f1 : wz.frozen? ⟨g + 1, k, none⟩ = false := b1.out.frozen _
      have N1 : Hid (Blk (wz.setCell ⟨g + 1, k, none⟩ (.int .i64 (X : Int))) (g + 1) 49 (nm (M.gl b (k + 1)))) := (b1.out.set_ _ _).eq_ (by rw [nm_set _ k X (M.gl_lt b k) hk32 hXl, hX.out]; rfl)
      have N0 : Hid (Blk (wz.setCell ⟨g + 1, k, none⟩ (.int .i64 (X : Int))) g 49 z32) := b0.out.far (show g ≠ g + 1 by omega) _
      have NK : Hid (Below w.heap.size w (wz.setCell ⟨g + 1, k, none⟩ (.int .i64 (X : Int)))) := kk.out.setCell (show w.heap.size ≤ g + 1 by have := HG.out; omega) _
      have wX : IntKind.i64.wrap (X : Int) = (X : Int) := IntWalk.i64_in _ (by omega)
      clear hcells hc0 b1 b0 kk
      go_wp2
      go_roundw
      case rel => exact ⟨k + 1, by omega, by omega, by go_num, N1, N0, NK⟩
      case measure => simp [intOf]; omega
    · have HV : Hid (M.gl b k = M.gl b 32) := by
        by_cases h32 : k = 32
        · rw [h32]; exact rfl
        · have hkn3 : b.length ≤ k := by have := HN.out; omega
          have := M.gl_past' b k hkn3 (32 - k)
          rw [show k + (32 - k) = 32 by omega] at this
          exact this.symm
      have b2 := b1.out
      rw [HV.out] at b2
      obtain ⟨V, hV⟩ : ∃ V, Hid (V = M.gl b 32) := ⟨_, rfl⟩
      rw [← hV.out] at b2
      have hVl : V < 256 ^ 32 := by rw [hV.out]; exact M.gl_lt b 32
      obtain ⟨t, ht⟩ : ∃ t, t = V / 256 ^ 31 % 256 := ⟨_, rfl⟩
      obtain ⟨s, hs⟩ : ∃ s, s = t % 128 := ⟨_, rfl⟩
      have htl : t < 256 := by rw [ht]; exact Nat.mod_lt _ (by decide)
      have m1 : (t : Int) % 128 = (s : Int) := by omega
      have m1' : (t : Int).tmod 128 = (s : Int) := by rw [Int.tmod_eq_emod_of_nonneg (by omega)]; exact m1
      have ct : wz.cell? ⟨g + 1, 31, none⟩ = some (.int .i64 (t : Int)) := by rw [b2.cell, nm_get V 31 (by decide), ← ht]
      have f1 : wz.frozen? ⟨g + 1, 31, none⟩ = false := b2.frozen _
      obtain ⟨U, hU⟩ : ∃ U, U = V % 2 ^ 255 := ⟨V % 2 ^ 255, rfl⟩
      obtain ⟨L, hL⟩ : ∃ L, Hid (L = nm U) := ⟨_, rfl⟩
      have HL : Hid (IsN L (M.told b)) := by
        refine ⟨by rw [hL.out, hU, hV.out, M.told], ?_⟩
        have h1 : M.told b < 2 ^ 255 := Nat.mod_lt _ (Nat.pow_pos (by decide))
        have h2 : (2 : Nat) ^ 255 < 256 ^ 32 := by decide +kernel
        omega
      have N1 : Hid (Blk (wz.setCell ⟨g + 1, 31, none⟩ (.int .i64 (s : Int))) (g + 1) 49 L) := (b2.set_ _ _).eq_ (by rw [hL.out, show (Value.int .i64 (s : Int)) = ci s from rfl, nm, ic_set, hs, ht, M.told_set V hVl, ← hU, nm])
      have N0 : Hid (Blk (wz.setCell ⟨g + 1, 31, none⟩ (.int .i64 (s : Int))) g 49 z32) := b0.out.far (show g ≠ g + 1 by omega) _
      have NK : Hid (Below w.heap.size w (wz.setCell ⟨g + 1, 31, none⟩ (.int .i64 (s : Int)))) := kk.out.setCell (show w.heap.size ≤ g + 1 by have := HG.out; omega) _
      have C := Lib.hid (CR.out (wz.setCell ⟨g + 1, 31, none⟩ (.int .i64 (s : Int))) L HL.out)
      have hcond : ¬ ((k : Int) < 32 ∧ (k : Int) < (n : Int)) := by omega
      clear b2 b1 b0 kk HV hV hL hU ht hs hVl CR hlt
      by_cases hk32 : k < 32
      · have hkn3 : ¬ k < n := by omega
        clear hcond
        go_wp2_with (refine wpList_load_num rfl (.tmp 3) rfl (g + 1) rfl L N1.out HL.out.len ?_)
        refine C.out.mono ?_
        rintro e w4 ⟨R, rfl, hR, k4⟩
        have HR := Lib.hid hR
        have G0 := N0.out.below k4 N0.out.lt
        have K4 : Hid (Below w.heap.size w w4) := NK.out.trans (k4.mono NK.out.size)
        go_wp2_with (refine wpList_store_num rfl rfl (.tmp 2) (.tmp 27) rfl g rfl R z32 rfl G0 z32_len HR.out.len HR.out.one ?_; intro w9 hb9 ho9)
        exact bodyPost_ret (results_cell_row rfl _ _ g _ _ _ _ rfl hb9 Try.underlying49 rfl (by rw [List.size_toArray, HR.out.len]; kernel_rfl)) rfl ⟨R, rfl, HR.out, K4.out.trans (ho9.below K4.out.size (by have := HG.out; omega))⟩
      · clear hcond
        go_wp2_with (refine wpList_load_num rfl (.tmp 3) rfl (g + 1) rfl L N1.out HL.out.len ?_)
        refine C.out.mono ?_
        rintro e w4 ⟨R, rfl, hR, k4⟩
        have HR := Lib.hid hR
        have G0 := N0.out.below k4 N0.out.lt
        have K4 : Hid (Below w.heap.size w w4) := NK.out.trans (k4.mono NK.out.size)
        go_wp2_with (refine wpList_store_num rfl rfl (.tmp 2) (.tmp 27) rfl g rfl R z32 rfl G0 z32_len HR.out.len HR.out.one ?_; intro w9 hb9 ho9)
        exact bodyPost_ret (results_cell_row rfl _ _ g _ _ _ _ rfl hb9 Try.underlying49 rfl (by rw [List.size_toArray, HR.out.len]; kernel_rfl)) rfl ⟨R, rfl, HR.out, K4.out.trans (ho9.below K4.out.size (by have := HG.out; omega))⟩

set_option maxRecDepth 100000 in
set_option maxHeartbeats 4000000 in
theorem small_n (n : Nat) (w : World) (hn : n < 4294967296) : Calls Try.prog 24 #[.int .u32 (n : Int)] w (GivesN w n) := by
  have HN := Lib.hid hn
  obtain ⟨W, hW⟩ : ∃ W, Hid (W = (w.alloc (.cells z32.toArray 49)).alloc (.cells z32.toArray 49)) := ⟨_, rfl⟩
  obtain ⟨g, hg⟩ : ∃ g, g = w.heap.size := ⟨_, rfl⟩
  have HG : Hid (g = w.heap.size) := hg
  have B0 : Hid (Blk W g 49 z32) := by rw [hW.out, hg]; exact (Blk.newAt _ _ _ _ _ rfl rfl).alloc _
  have B1 : Hid (Blk W (g + 1) 49 (nm (n % 256 ^ 0))) := by
    rw [hW.out, hg, show n % 256 ^ 0 = 0 by rw [Nat.pow_zero, Nat.mod_one], ← nm_zero]; exact Blk.newAt _ _ _ _ _ (by simp) rfl
  have K : Hid (Below w.heap.size w W) := by rw [hW.out]; exact ((Below.refl _ _).alloc (Nat.le_refl _) _).alloc (by simp) _
  go_enter Try.func24, Try.ntmps24
  go_wp2
  rw [← z32_arr, ← hW.out, ← hg]
  clear hW hg
  go_loopw [4] (fun i wr => ∃ k : Nat, k ≤ 4 ∧ i = .int .i64 (k : Int) ∧ Hid (Blk wr (g + 1) 49 (nm (n % 256 ^ k))) ∧ Hid (Blk wr g 49 z32) ∧ Hid (Below w.heap.size w wr))
    (fun i _ => 4 - (intOf i).toNat)
  case atStart => exact ⟨0, by omega, rfl, B1, B0, K⟩
  case round =>
    clear B0 B1 K
    obtain ⟨wz, rfl⟩ : ∃ x, x = wr := ⟨_, rfl⟩
    obtain ⟨k, hk, rfl, b1, b0, kk⟩ := hrel
    by_cases hlt : k < 4
    · obtain ⟨m, hm⟩ : ∃ m, m = n / 2 ^ (8 * k) := ⟨_, rfl⟩
      have hml : m < 4294967296 := by rw [hm]; exact Nat.lt_of_le_of_lt (Nat.div_le_self _ _) hn
      obtain ⟨X, hX⟩ : ∃ X, X = m % 256 := ⟨_, rfl⟩
      have hXl : X < 256 := by omega
      have e1 : (n : Int) / 2 ^ (8 * k) = (m : Int) := by rw [hm]; simp
      have m1 : (m : Int) % 256 = (X : Int) := by omega
      have m1' : (m : Int).tmod 256 = (X : Int) := by rw [Int.tmod_eq_emod_of_nonneg (by omega)]; exact m1
      obtain ⟨old, hold⟩ : ∃ old : Nat, wz.cell? ⟨g + 1, k, none⟩ = some (.int .i64 (old : Int)) := ⟨_, by rw [b1.out.cell, nm_get _ k (by omega)]⟩
      have f1 : wz.frozen? ⟨g + 1, k, none⟩ = false := b1.out.frozen _
      have hXe : X = n / 256 ^ k % 256 := by rw [hX, hm, Nat.pow_mul]
      have N1 : Hid (Blk (wz.setCell ⟨g + 1, k, none⟩ (.int .i64 (X : Int))) (g + 1) 49 (nm (n % 256 ^ (k + 1)))) := (b1.out.set_ _ _).eq_ (by rw [nm_set _ k X (Nat.mod_lt _ (M.pow_pos k)) (by omega) hXl, hXe, ← M.mod_next])
      have N0 : Hid (Blk (wz.setCell ⟨g + 1, k, none⟩ (.int .i64 (X : Int))) g 49 z32) := b0.out.far (show g ≠ g + 1 by omega) _
      have NK : Hid (Below w.heap.size w (wz.setCell ⟨g + 1, k, none⟩ (.int .i64 (X : Int)))) := kk.out.setCell (show w.heap.size ≤ g + 1 by have := HG.out; omega) _
      clear hm hX hXe b1 b0 kk
      go_wp2

      go_roundw
      case rel => exact ⟨k + 1, by omega, by go_num, N1, N0, NK⟩
      case measure => simp [intOf]; omega
    · obtain rfl : k = 4 := by omega
      have e4 : n % 256 ^ 4 = n := Nat.mod_eq_of_lt hn
      have b2 := b1.out
      rw [e4] at b2
      obtain ⟨L, hL⟩ : ∃ L, Hid (L = nm n) := ⟨_, rfl⟩
      have HL : Hid (IsN L n) := ⟨hL.out, by have : (4294967296 : Nat) < 256 ^ 32 := by decide +kernel
                                             omega⟩
      rw [← hL.out] at b2
      have B2 := Lib.hid b2
      clear b2 b1 hL e4
      go_wp2_with (first
        | (refine wpList_load_num rfl (.tmp 3) rfl (g + 1) rfl L B2.out HL.out.len ?_)
        | (refine wpList_store_num rfl rfl (.tmp 2) (.tmp 18) rfl g rfl L z32 rfl b0.out z32_len HL.out.len HL.out.one ?_; intro w9 hb9 ho9))
      exact bodyPost_ret (results_cell_row rfl _ _ g _ _ _ _ rfl hb9 Try.underlying49 rfl (by rw [List.size_toArray, HL.out.len]; kernel_rfl)) rfl ⟨L, rfl, HL.out, kk.out.trans (ho9.below kk.out.size (by have := HG.out; omega))⟩

end Go.Proofs.Yteombilmndlhjaa
