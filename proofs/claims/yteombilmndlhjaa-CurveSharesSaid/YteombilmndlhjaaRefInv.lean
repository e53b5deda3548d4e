/-
  CONTRACT OF orlopref07.Invert: the power p - 2, bit by bit. Conditions: the number is below 2^256.
-/
import Derived.Test.YteombilmndlhjaaRefMul
namespace Go.Proofs.Yteombilmndlhjaa
open Go.RowKit
set_option linter.unusedVariables false

namespace M

theorem bit_of (E j : Nat) : E / 256 ^ (j / 8) % 256 / 2 ^ (j % 8) % 2 = E / 2 ^ j % 2 := by
  have e1 : (256 : Nat) ^ (j / 8) = 2 ^ (8 * (j / 8)) := by rw [Nat.pow_mul]
  have e2 : E / 2 ^ j = E / 256 ^ (j / 8) / 2 ^ (j % 8) := by
    rw [e1, Nat.div_div_eq_div_mul, ← Nat.pow_add, show 8 * (j / 8) + j % 8 = j by omega]
  rw [e2]
  generalize E / 256 ^ (j / 8) = X
  have hr : j % 8 < 8 := by omega
  have h := Nat.testBit_mod_two_pow X 8 (j % 8)
  rw [show (2 : Nat) ^ 8 = 256 from rfl, decide_eq_true hr, Bool.true_and] at h
  rw [← Nat.toNat_testBit, ← Nat.toNat_testBit, h]

theorem pow_step (a E q j : Nat) : E / 2 ^ j = 2 * (E / 2 ^ (j + 1)) + E / 2 ^ j % 2 := by
  rw [Nat.pow_succ, ← Nat.div_div_eq_div_mul]
  omega

theorem pow_double (a E q j : Nat) (h : E / 2 ^ j % 2 = 0) : a ^ (E / 2 ^ (j + 1)) % q * (a ^ (E / 2 ^ (j + 1)) % q) % q = a ^ (E / 2 ^ j) % q := by
  have e := pow_step a E q j
  rw [h, Nat.add_zero] at e
  rw [← Nat.mul_mod, ← Nat.pow_add, e, Nat.two_mul]

theorem pow_more (a E q j : Nat) (h : E / 2 ^ j % 2 = 1) : a ^ (E / 2 ^ (j + 1)) % q * (a ^ (E / 2 ^ (j + 1)) % q) % q * a % q = a ^ (E / 2 ^ j) % q := by
  have e := pow_step a E q j
  rw [h] at e
  rw [← Nat.mul_mod (a ^ (E / 2 ^ (j + 1))), ← Nat.pow_add, Nat.mul_mod, Nat.mod_mod, ← Nat.mul_mod, ← Nat.pow_succ, e, Nat.two_mul]

end M

set_option maxRecDepth 100000 in
set_option maxHeartbeats 8000000 in
theorem rinvert_n {K : List Value} {a : Nat} (w : World) (ha : IsN K a) : Calls Try.prog 38 #[.agg K.toArray] w (GivesN w (a ^ (M.Q - 2) % M.Q)) := by
  have HA := Lib.hid ha
  obtain ⟨q, hq⟩ : ∃ q, Hid (q = M.Q) := ⟨_, rfl⟩
  have CP : Hid (∀ w, Calls Try.prog 55 #[] w (GivesN w q)) := by rw [hq.out]; exact prime_n
  have CM := Lib.hid (show ∀ (W : World) (J L : List Value) (u v : Nat), IsN J u → IsN L v → Calls Try.prog 37 #[.agg J.toArray, .agg L.toArray] W (GivesN W (u * v % q)) from fun W J L u v h1 h2 => by rw [hq.out]; exact rmul_n W h1 h2)
  obtain ⟨E, hE⟩ : ∃ E, Hid (E = q - 2) := ⟨_, rfl⟩
  have HQ2 : Hid (2 ≤ q) := by rw [hq.out]; exact show 2 ≤ M.Q by decide +kernel
  have HE0 : Hid (E / 2 ^ 255 = 0) := by rw [hE.out, hq.out]; exact show (M.Q - 2) / 2 ^ 255 = 0 by decide +kernel
  have HI : Hid (a ^ (E / 2 ^ 255) % q = 1) := by
    have := HQ2.out
    rw [HE0.out, Nat.pow_zero, Hid, Nat.mod_eq_of_lt (by omega)]
  rw [← hq.out, ← hE.out]
  obtain ⟨r, hr⟩ : ∃ r, Hid (r = a ^ E % q) := ⟨a ^ E % q, rfl⟩
  rw [← hr.out]
  obtain ⟨W, hW⟩ : ∃ W, Hid (W = (w.alloc (.cells K.toArray 49)).alloc (.cells z32.toArray 49)) := ⟨_, rfl⟩
  obtain ⟨g, hg⟩ : ∃ g, g = w.heap.size := ⟨_, rfl⟩
  have HG : Hid (g = w.heap.size) := hg
  have B0 : Hid (Blk W g 49 K) := by rw [hW.out, hg]; exact (Blk.newAt _ _ _ _ _ rfl rfl).alloc _
  have B1 : Hid (Blk W (g + 1) 49 z32) := by rw [hW.out, hg]; exact Blk.newAt _ _ _ _ _ (by simp) rfl
  have KK : Hid (Below w.heap.size w W) := by rw [hW.out]; exact ((Below.refl _ _).alloc (Nat.le_refl _) _).alloc (by simp) _
  clear ha hq HE0
  go_enter Try.func38, Try.ntmps38
  go_wp2_with fail
  rw [← z32_arr, ← hW.out, ← hg]
  clear hW hg
  refine (CP.out W).mono ?_
  rintro e w1 ⟨P, rfl, hP, k1⟩
  have HP := Lib.hid hP
  have K1 : Hid (Below W.heap.size W w1) := k1
  have C2 := Lib.hid (small_n 2 w1 (by decide))
  clear hP k1
  go_wp2_with fail
  refine C2.out.mono ?_
  rintro e w2 ⟨S2, rfl, hS2, k2⟩
  have HS2 := Lib.hid hS2
  have K2 : Hid (Below W.heap.size W w2) := K1.out.trans (k2.mono K1.out.size)
  clear hS2 k2 C2 K1
  have C3 := Lib.hid (minus_n w2 HP.out HS2.out HQ2.out)
  rw [← hE.out] at C3
  go_wp2_with fail
  refine C3.out.mono ?_
  rintro e w3 ⟨X, rfl, hX, k3⟩
  have HX := Lib.hid hX
  have K3 : Hid (Below W.heap.size W w3) := K2.out.trans (k3.mono K2.out.size)
  clear hX k3 C3 K2 HP HS2 hE
  obtain ⟨g3, hg3⟩ : ∃ g, g = w3.heap.size := ⟨_, rfl⟩
  have E3 : Blk (w3.alloc (.cells z32.toArray 49)) g3 49 z32 := Blk.newAt _ _ _ _ _ hg3 rfl
  have HW1 : Hid (g + 1 < W.heap.size) := B1.out.lt
  have HG3 : Hid (W.heap.size ≤ g3) := by rw [hg3]; exact K3.out.size
  go_wp2_with (first
    | (rw [← z32_arr, ← hg3]; refine wpList_store_num rfl rfl (.tmp 3) (.tmp 8) rfl g3 rfl X z32 rfl E3 z32_len HX.out.len HX.out.one ?_; intro w4 hb4 ho4))
  have n3 : g ≠ g3 ∧ g + 1 ≠ g3 := by have := HW1.out; have := HG3.out; omega
  have A0 : Blk w4 g 49 K := ((B0.out.below K3.out B0.out.lt).alloc _).grown ho4 (by intro e; injection e with e; exact n3.1 e)
  have A1 : Blk w4 (g + 1) 49 z32 := ((B1.out.below K3.out B1.out.lt).alloc _).grown ho4 (by intro e; injection e with e; exact n3.2 e)
  have KA : Hid (Below w.heap.size w w4) := by
    have h1 := KK.out.trans (K3.out.mono KK.out.size)
    exact (h1.alloc h1.size _).trans (ho4.below (by have := h1.size; simp; omega) (by rw [hg3]; exact h1.size))
  have HA0 := Lib.hid A0
  have HA1 := Lib.hid A1
  have HA3 := Lib.hid hb4
  clear B0 B1 KK K3 E3 A0 A1 hb4 ho4 hg3 n3
  have C4 := Lib.hid (small_n 1 w4 (by decide))
  refine C4.out.mono ?_
  rintro e w5 ⟨S1, rfl, hS1, k5⟩
  have HS1 := Lib.hid hS1
  obtain ⟨g4, hg4⟩ : ∃ g, g = w5.heap.size := ⟨_, rfl⟩
  have E4 : Blk (w5.alloc (.cells z32.toArray 49)) g4 49 z32 := Blk.newAt _ _ _ _ _ hg4 rfl
  have HG4 : Hid (g3 < g4 ∧ g + 1 < g3) := ⟨by rw [hg4]; exact Nat.lt_of_lt_of_le HA3.out.lt k5.size, Nat.lt_of_lt_of_le HW1.out HG3.out⟩
  clear hS1 C4
  go_wp2_with (first
    | (rw [← z32_arr, ← hg4]; refine wpList_store_num rfl rfl (.tmp 4) (.tmp 9) rfl g4 rfl S1 z32 rfl E4 z32_len HS1.out.len HS1.out.one ?_; intro w6 hb6 ho6))
  have n4 : g ≠ g4 ∧ g + 1 ≠ g4 ∧ g3 ≠ g4 := by have := HG4.out; omega
  have D0 : Hid (Blk w6 g 49 K) := ((HA0.out.below k5 HA0.out.lt).alloc _).grown ho6 (by intro e; injection e with e; exact n4.1 e)
  have D1 : Hid (Blk w6 (g + 1) 49 z32) := ((HA1.out.below k5 HA1.out.lt).alloc _).grown ho6 (by intro e; injection e with e; exact n4.2.1 e)
  have D3 : Hid (Blk w6 g3 49 X) := ((HA3.out.below k5 HA3.out.lt).alloc _).grown ho6 (by intro e; injection e with e; exact n4.2.2 e)
  have D4 : Hid (Blk w6 g4 49 S1) := hb6
  have KD : Hid (Below w.heap.size w w6) := by
    have h1 := KA.out.trans (k5.mono KA.out.size)
    exact (h1.alloc h1.size _).trans (ho6.below (by have := h1.size; simp; omega) (by rw [hg4]; exact h1.size))
  have HSV : Hid (IsN S1 (a ^ (E / 2 ^ 255) % q)) := by rw [HI.out]; exact HS1.out
  clear HA0 HA1 HA3 KA k5 E4 hb6 ho6 hg4 n4 HS1 HW1 HG3
  go_wp2
  go_loopw [5] (fun iv wr => ∃ (k : Nat) (L : List Value), k ≤ 255 ∧ iv = .int .i64 ((k : Int) - 1) ∧ Hid (IsN L (a ^ (E / 2 ^ k) % q)) ∧ Hid (Blk wr g4 49 L) ∧ Hid (Blk wr g3 49 X) ∧ Hid (Blk wr g 49 K) ∧ Hid (Blk wr (g + 1) 49 z32) ∧ Hid (Below w.heap.size w wr))
    (fun iv _ => (intOf iv + 1).toNat)
  case atStart => exact ⟨255, S1, by omega, rfl, HSV, D4, D3, D0, D1, KD⟩
  case round =>
    clear HSV D4 D3 D0 D1 KD HI
    obtain ⟨wz, rfl⟩ : ∃ x, x = wr := ⟨_, rfl⟩
    obtain ⟨k, L, hk, rfl, hv, b4, b3, b0, b1, kk⟩ := hrel
    by_cases h0 : k = 0
    · subst h0
      have HL : Hid (IsN L r) := by
        have := hv.out
        rw [Nat.pow_zero, Nat.div_one, ← hr.out] at this
        exact this
      have KE := kk.out
      clear hv
      go_wp2_with (first
        | (refine wpList_load_num rfl (.tmp 4) rfl g4 rfl L b4.out HL.out.len ?_)
        | (refine wpList_store_num rfl rfl (.tmp 2) (.tmp 30) rfl (g + 1) rfl L z32 rfl b1.out z32_len HL.out.len HL.out.one ?_; intro w9 hb9 ho9))
      exact bodyPost_ret (results_cell_row rfl _ _ (g + 1) _ _ _ _ rfl hb9 Try.underlying49 rfl (by rw [List.size_toArray, HL.out.len]; kernel_rfl)) rfl ⟨L, rfl, HL.out, KE.trans (ho9.below KE.size (by have := HG.out; omega))⟩
    · obtain ⟨j, rfl⟩ : ∃ j, k = j + 1 := ⟨k - 1, by omega⟩
      have ei : ((j + 1 : Nat) : Int) - 1 = (j : Int) := by omega
      rw [ei]
      have hj0 : (0 : Int) ≤ (j : Int) := by omega
      have C := Lib.hid (CM.out wz L L _ _ hv.out hv.out)
      clear ei h0
      go_wp2_with (first
        | (refine wpList_load_num rfl (.tmp 4) rfl g4 rfl L b4.out hv.out.len ?_))
      refine C.out.mono ?_
      rintro e w1 ⟨N, rfl, hN, k1⟩
      have G4 := b4.out.below k1 b4.out.lt
      have G3 := b3.out.below k1 b3.out.lt
      have G0 := b0.out.below k1 b0.out.lt
      have G1 := b1.out.below k1 b1.out.lt
      have GK := kk.out.trans (k1.mono kk.out.size)
      have HN := Lib.hid hN
      clear b4 b3 b0 b1 kk k1 C hN
      obtain ⟨bb, hbb⟩ : ∃ b, b = j / 8 := ⟨_, rfl⟩
      obtain ⟨rr, hrr⟩ : ∃ r, r = j % 8 := ⟨_, rfl⟩
      obtain ⟨D, hD⟩ : ∃ D, D = E / 256 ^ bb % 256 := ⟨E / 256 ^ bb % 256, rfl⟩
      obtain ⟨d, hd⟩ : ∃ d, d = D / 2 ^ rr := ⟨D / 2 ^ rr, rfl⟩
      obtain ⟨t, ht⟩ : ∃ t, t = d % 2 := ⟨_, rfl⟩
      have HT : Hid (t = E / 2 ^ j % 2) := by rw [ht, hd, hD, hbb, hrr]; exact M.bit_of E j
      have hDl : D < 256 := by rw [hD]; exact Nat.mod_lt _ (by decide)
      have hdl : d < 256 := by rw [hd]; exact Nat.lt_of_le_of_lt (Nat.div_le_self _ _) hDl
      have hb32 : bb < 32 := by omega
      have hr8 : rr < 8 := by omega
      have s1 : (j : Int) / 8 = (bb : Int) := by omega
      have s1' : (j : Int).tdiv 8 = (bb : Int) := by rw [Int.tdiv_eq_ediv_of_nonneg (by omega)]; exact s1
      have s2 : (j : Int) % 8 = (rr : Int) := by omega
      have s2' : (j : Int).tmod 8 = (rr : Int) := by rw [Int.tmod_eq_emod_of_nonneg (by omega)]; exact s2
      have s3 : (D : Int) / 2 ^ rr = (d : Int) := by rw [hd]; simp
      have s4 : (d : Int) % 2 = (t : Int) := by omega
      have s4' : (d : Int).tmod 2 = (t : Int) := by rw [Int.tmod_eq_emod_of_nonneg (by omega)]; exact s4
      have wrr : IntKind.u64.wrap (rr : Int) = (rr : Int) := wraps_u64 _ (by omega) (by omega)
      clear hbb hrr hd ht
      have HDD : Hid (D = E / 256 ^ bb % 256) := hD
      clear hD
      by_cases h1 : t = 1
      · have HT1 : Hid (E / 2 ^ j % 2 = 1) := by rw [← HT.out]; exact h1
        subst h1
        have HN2 : Hid (∀ M', IsN M' (a ^ (E / 2 ^ (j + 1)) % q * (a ^ (E / 2 ^ (j + 1)) % q) % q * a % q) → IsN M' (a ^ (E / 2 ^ j) % q)) := fun M' h => by rw [← M.pow_more a E q j HT1.out]; exact h
        have CC := Lib.hid (fun W => CM.out W N K _ _ HN.out HA.out)
        go_wp2_with (first
          | (refine wpList_store_num rfl rfl (.tmp 4) (.tmp 16) rfl g4 rfl N L rfl G4 hv.out.len HN.out.len HN.out.one ?_; intro w2 hb2 ho2;
             have c3 : w2.cell? ⟨g3, bb, none⟩ = some (.int .i64 (D : Int)) := by
               have h := G3.grown ho2 (by have := HG4.out; intro e; injection e with e; omega)
               rw [h.cell, HX.out.1, nm_get E bb hb32, ← HDD.out])
          | (refine wpList_load_num rfl (.tmp 4) rfl g4 rfl N hb2 HN.out.len ?_)
          | (refine wpList_load_num rfl (.tmp 1) rfl g rfl K (G0.grown ho2 (by have := HG4.out; intro e; injection e with e; omega)) HA.out.len ?_))
        have J3 : Hid (Blk w2 g3 49 X) := G3.grown ho2 (by have := HG4.out; intro e; injection e with e; omega)
        have J0 : Hid (Blk w2 g 49 K) := G0.grown ho2 (by have := HG4.out; intro e; injection e with e; omega)
        have J1 : Hid (Blk w2 (g + 1) 49 z32) := G1.grown ho2 (by have := HG4.out; intro e; injection e with e; omega)
        have J4 : Hid (Blk w2 g4 49 N) := hb2
        have JK : Hid (Below w.heap.size w w2) := GK.trans (ho2.below GK.size (by have := HG4.out; have := HG.out; omega))
        clear G4 G3 G0 G1 GK hb2 ho2 c3
        refine (CC.out w2).mono ?_
        rintro e w3 ⟨N', rfl, hN', k3⟩
        have HNN := Lib.hid (HN2.out N' hN')
        have P4 := J4.out.below k3 J4.out.lt
        have P3 := J3.out.below k3 J3.out.lt
        have P0 := J0.out.below k3 J0.out.lt
        have P1 := J1.out.below k3 J1.out.lt
        have PK := JK.out.trans (k3.mono JK.out.size)
        clear hN' k3 J4 J3 J0 J1 JK CC HN2
        go_wp2_with (refine wpList_store_num rfl rfl (.tmp 4) (.tmp 29) rfl g4 rfl N' N rfl P4 HN.out.len HNN.out.len HNN.out.one ?_; intro w4 hb4 ho4)
        have R3 : Hid (Blk w4 g3 49 X) := P3.grown ho4 (by have := HG4.out; intro e; injection e with e; omega)
        have R0 : Hid (Blk w4 g 49 K) := P0.grown ho4 (by have := HG4.out; intro e; injection e with e; omega)
        have R1 : Hid (Blk w4 (g + 1) 49 z32) := P1.grown ho4 (by have := HG4.out; intro e; injection e with e; omega)
        have R4 : Hid (Blk w4 g4 49 N') := hb4
        have RK : Hid (Below w.heap.size w w4) := PK.trans (ho4.below PK.size (by have := HG4.out; have := HG.out; omega))
        clear P4 P3 P0 P1 PK hb4 ho4
        go_wp2
        go_roundw
        case rel => exact ⟨j, N', by omega, rfl, HNN, R4, R3, R0, R1, RK⟩
        case measure => simp only [intOf]; omega
      · have HT0 : Hid (E / 2 ^ j % 2 = 0) := by rw [← HT.out, Hid]; have := HT.out; omega
        have ht1 : ¬ (t : Int) = 1 := by omega
        have HNN : Hid (IsN N (a ^ (E / 2 ^ j) % q)) := by rw [← M.pow_double a E q j HT0.out]; exact HN.out
        have hbeq : ((t : Int) == 1) = false := by simp; omega
        go_wp2_with (first
          | (refine wpList_store_num rfl rfl (.tmp 4) (.tmp 16) rfl g4 rfl N L rfl G4 hv.out.len HN.out.len HN.out.one ?_; intro w2 hb2 ho2;
             have c3 : w2.cell? ⟨g3, bb, none⟩ = some (.int .i64 (D : Int)) := by
               have h := G3.grown ho2 (by have := HG4.out; intro e; injection e with e; omega)
               rw [h.cell, HX.out.1, nm_get E bb hb32, ← HDD.out]))
        have J3 : Hid (Blk w2 g3 49 X) := G3.grown ho2 (by have := HG4.out; intro e; injection e with e; omega)
        have J0 : Hid (Blk w2 g 49 K) := G0.grown ho2 (by have := HG4.out; intro e; injection e with e; omega)
        have J1 : Hid (Blk w2 (g + 1) 49 z32) := G1.grown ho2 (by have := HG4.out; intro e; injection e with e; omega)
        have J4 : Hid (Blk w2 g4 49 N) := hb2
        have JK : Hid (Below w.heap.size w w2) := GK.trans (ho2.below GK.size (by have := HG4.out; have := HG.out; omega))
        go_roundw
        case rel => exact ⟨j, N, by omega, rfl, HNN, J4, J3, J0, J1, JK⟩
        case measure => simp only [intOf]; omega

end Go.Proofs.Yteombilmndlhjaa
