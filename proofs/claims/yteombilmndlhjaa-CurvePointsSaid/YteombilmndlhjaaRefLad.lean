/-
  CONTRACT OF orlopref08.Ladder. Conditions: the scalar has 32 bytes; the element is below the prime. (Written by gen_ladder.py.)
-/
import Derived.Test.YteombilmndlhjaaFieldLaw
import Derived.Test.YteombilmndlhjaaRefInv
import Derived.Test.YteombilmndlhjaaHeldA
import Derived.Test.YteombilmndlhjaaLadMath
import Derived.Deep.CutRange
namespace Go.Proofs.Yteombilmndlhjaa
open Go.RowKit
set_option linter.unusedVariables false

set_option maxRecDepth 100000 in
set_option maxHeartbeats 16000000 in
theorem rladder_n (kv : Value) (ks : List UInt8) (UL : List Value) (u : Nat) (w : World) (hk : IsB w kv ks) (hkl : ks.length = 32) (hU : IsN UL u) (hu : u < M.Q) :
    Calls Try.prog 22 #[kv, .agg UL.toArray] w (GivesN w (M.ladder M.Q ks u)) := by
  obtain ⟨q, hq⟩ : ∃ q, Hid (q = M.Q) := ⟨_, rfl⟩
  have HQ0 : Hid (0 < q) := by rw [hq.out]; exact M.Q_pos
  have H1q : Hid (1 < q) := by rw [hq.out]; exact (by decide +kernel : 1 < M.Q)
  have H0q : Hid (0 < q) := HQ0
  have HU : Hid (u < q) := by rw [hq.out]; exact hu
  have HUL := Lib.hid hU
  have H1 : Hid ((1 : Nat) < 4294967296) := by rw [Hid]; decide
  have H0 : Hid ((0 : Nat) < 4294967296) := by rw [Hid]; decide
  have H121665 : Hid ((121665 : Nat) < 4294967296) := by rw [Hid]; decide
  have CS : Hid (∀ (n : Nat) (w : World), Hid (n < 4294967296) → Calls Try.prog 24 #[.int .u32 (n : Int)] w (GivesN w n)) := fun n w h => small_n n w h.out
  have CA : Hid (∀ (K L : List Value) (m n r : Nat) (w : World), Hid (IsN K m) → Hid (IsN L n) → Hid ((m + n) % q = r) → Calls Try.prog 35 #[.agg K.toArray, .agg L.toArray] w (GivesN w r)) := by
    rw [hq.out]; intro K L m n r w h1 h2 h3; rw [← h3.out]; exact radd_n w h1.out h2.out
  have CB : Hid (∀ (K L : List Value) (m n r : Nat) (w : World), Hid (IsN K m) → Hid (IsN L n) → Hid (n < q) → Hid ((m + (q - n)) % q = r) → Calls Try.prog 36 #[.agg K.toArray, .agg L.toArray] w (GivesN w r)) := by
    rw [hq.out]; intro K L m n r w h1 h2 h3 h4; rw [← h4.out]; exact rsub_n w h1.out h2.out (Nat.le_of_lt h3.out)
  have CM : Hid (∀ (K L : List Value) (m n r : Nat) (w : World), Hid (IsN K m) → Hid (IsN L n) → Hid (m * n % q = r) → Calls Try.prog 37 #[.agg K.toArray, .agg L.toArray] w (GivesN w r)) := by
    rw [hq.out]; intro K L m n r w h1 h2 h3; rw [← h3.out]; exact rmul_n w h1.out h2.out
  have CI : Hid (∀ (K : List Value) (m r : Nat) (w : World), Hid (IsN K m) → Hid (m ^ (q - 2) % q = r) → Calls Try.prog 38 #[.agg K.toArray] w (GivesN w r)) := by
    rw [hq.out]; intro K m r w h1 h2; rw [← h2.out]; exact rinvert_n w h1.out
  have HKL := Lib.hid hkl
  obtain ⟨ao, cap, rfl, h1, h2, hat⟩ := hk
  obtain ⟨kb, ko, rfl, hc⟩ : ∃ b off, ao = some ⟨b, off, none⟩ ∧ ∀ i, i < ks.length → w.cell? ⟨b, off + i, none⟩ = some (.int .u8 ((ks.getD i 0).toNat : Int)) := by
    rcases hat with h | h
    · rw [h] at hkl; simp at hkl
    · exact h
  have HC : Hid (∀ W, Below w.heap.size w W → ∀ i, i < 32 → W.cell? ⟨kb, ko + i, none⟩ = some (.int .u8 ((ks.getD i 0).toNat : Int))) := by
    intro W kW i hi
    have h := hc i (by omega)
    rw [kW.cell (by exact World.block_lt_of_cell? w _ h), h]
  rw [hkl]
  rw [← hq.out]
  obtain ⟨g, hg⟩ : ∃ g, g = w.heap.size := ⟨_, rfl⟩
  obtain ⟨W, hW⟩ : ∃ W, Hid (W = (w.alloc (.cells UL.toArray 49)).alloc (.cells z32.toArray 49)) := ⟨_, rfl⟩
  have B3 : Hid (Blk W g 49 UL) := by rw [hW.out, hg]; exact (Blk.newAt _ _ _ _ _ rfl rfl).alloc _
  have B4 : Hid (Blk W (g + 1) 49 z32) := by rw [hW.out, hg]; exact Blk.newAt _ _ _ _ _ (by simp) rfl
  have K0 : Hid (Below w.heap.size w W) := by rw [hW.out]; exact ((Below.refl _ _).alloc (Nat.le_refl _) _).alloc (by simp) _
  have HG : Hid (w.heap.size ≤ g) := Nat.le_of_eq hg.symm
  clear hq hkl hU hu hat hc h1 h2
  go_enter Try.func22, Try.ntmps22
  go_upto_region 1 with fail
  rw [← z32_arr, ← hW.out, ← hg]
  clear hW hg
  go_wp2_with fail
  refine (CS.out 1 _ H1).mono ?_
  rintro e w1 ⟨L1, rfl, l1, k1⟩
  have h1 := Lib.hid l1
  obtain ⟨g1, hg1⟩ : ∃ v, v = w1.heap.size := ⟨_, rfl⟩
  have C1 : Hid ((g + 1) < g1) := by have h1 := B4.out.lt; have h2 := k1.size; rw [Hid]; omega
  have N1 : Blk (w1.alloc (.cells z32.toArray 49)) g1 49 z32 := Blk.newAt _ _ _ _ _ hg1 rfl
  go_upto_region 2 with (first | (rw [← z32_arr, ← hg1]; refine wpList_store_num rfl rfl (.tmp 5) (.tmp 18) rfl g1 rfl L1 z32 rfl N1 z32_len h1.out.len h1.out.one ?_; intro X1 hb1 ho1))
  have U1 : Below W.heap.size W X1 := (k1.alloc k1.size _).trans (ho1.below (by have := k1.size; simp <;> omega) (by have := k1.size; omega))
  have KK1 : Hid (Below w.heap.size w X1) := K0.out.trans (U1.mono K0.out.size)
  have b2 : Hid (Blk X1 g 49 UL) := B3.out.below U1 B3.out.lt
  clear B3
  have b3 : Hid (Blk X1 (g + 1) 49 z32) := B4.out.below U1 B4.out.lt
  clear B4
  have Q1 : Hid (Blk X1 g1 49 L1) := hb1
  clear hb1 ho1 N1 hg1 k1 U1 K0
  go_wp2_with fail
  refine (CS.out 0 _ H0).mono ?_
  rintro e w4 ⟨L4, rfl, l4, k4⟩
  have h4 := Lib.hid l4
  obtain ⟨g4, hg4⟩ : ∃ v, v = w4.heap.size := ⟨_, rfl⟩
  have C4 : Hid (g1 < g4) := by have h1 := Q1.out.lt; have h2 := k4.size; rw [Hid]; omega
  have N4 : Blk (w4.alloc (.cells z32.toArray 49)) g4 49 z32 := Blk.newAt _ _ _ _ _ hg4 rfl
  go_upto_region 3 with (first | (rw [← z32_arr, ← hg4]; refine wpList_store_num rfl rfl (.tmp 6) (.tmp 19) rfl g4 rfl L4 z32 rfl N4 z32_len h4.out.len h4.out.one ?_; intro X4 hb4 ho4))
  have U4 : Below X1.heap.size X1 X4 := (k4.alloc k4.size _).trans (ho4.below (by have := k4.size; simp <;> omega) (by have := k4.size; omega))
  have KK4 : Hid (Below w.heap.size w X4) := KK1.out.trans (U4.mono KK1.out.size)
  have b5 : Hid (Blk X4 g 49 UL) := b2.out.below U4 b2.out.lt
  clear b2
  have b6 : Hid (Blk X4 (g + 1) 49 z32) := b3.out.below U4 b3.out.lt
  clear b3
  have b7 : Hid (Blk X4 g1 49 L1) := Q1.out.below U4 Q1.out.lt
  clear Q1
  have Q4 : Hid (Blk X4 g4 49 L4) := hb4
  clear hb4 ho4 N4 hg4 k4 U4 KK1
  have k8 : Below X4.heap.size X4 X4 := Below.refl _ _
  obtain ⟨g8, hg8⟩ : ∃ v, v = X4.heap.size := ⟨_, rfl⟩
  have C8 : Hid (g4 < g8) := by have h1 := Q4.out.lt; have h2 := k8.size; rw [Hid]; omega
  have N8 : Blk (X4.alloc (.cells z32.toArray 49)) g8 49 z32 := Blk.newAt _ _ _ _ _ hg8 rfl
  go_upto_region 4 with (first | (refine wpList_load_num rfl (.tmp 3) rfl g rfl UL b5.out HUL.out.len ?_) | (rw [← z32_arr, ← hg8]; refine wpList_store_num rfl rfl (.tmp 7) (.tmp 20) rfl g8 rfl UL z32 rfl N8 z32_len HUL.out.len HUL.out.one ?_; intro X8 hb8 ho8))
  have U8 : Below X4.heap.size X4 X8 := (k8.alloc k8.size _).trans (ho8.below (by have := k8.size; simp <;> omega) (by have := k8.size; omega))
  have KK8 : Hid (Below w.heap.size w X8) := KK4.out.trans (U8.mono KK4.out.size)
  have b9 : Hid (Blk X8 g 49 UL) := b5.out.below U8 b5.out.lt
  clear b5
  have b10 : Hid (Blk X8 (g + 1) 49 z32) := b6.out.below U8 b6.out.lt
  clear b6
  have b11 : Hid (Blk X8 g1 49 L1) := b7.out.below U8 b7.out.lt
  clear b7
  have b12 : Hid (Blk X8 g4 49 L4) := Q4.out.below U8 Q4.out.lt
  clear Q4
  have Q8 : Hid (Blk X8 g8 49 UL) := hb8
  clear hb8 ho8 N8 hg8 k8 U8 KK4
  go_wp2_with fail
  refine (CS.out 1 _ H1).mono ?_
  rintro e w13 ⟨L13, rfl, l13, k13⟩
  have h13 := Lib.hid l13
  obtain ⟨g13, hg13⟩ : ∃ v, v = w13.heap.size := ⟨_, rfl⟩
  have C13 : Hid (g8 < g13) := by have h1 := Q8.out.lt; have h2 := k13.size; rw [Hid]; omega
  have N13 : Blk (w13.alloc (.cells z32.toArray 49)) g13 49 z32 := Blk.newAt _ _ _ _ _ hg13 rfl
  go_upto_region 5 with (first | (rw [← z32_arr, ← hg13]; refine wpList_store_num rfl rfl (.tmp 8) (.tmp 21) rfl g13 rfl L13 z32 rfl N13 z32_len h13.out.len h13.out.one ?_; intro X13 hb13 ho13))
  have U13 : Below X8.heap.size X8 X13 := (k13.alloc k13.size _).trans (ho13.below (by have := k13.size; simp <;> omega) (by have := k13.size; omega))
  have KK13 : Hid (Below w.heap.size w X13) := KK8.out.trans (U13.mono KK8.out.size)
  have b14 : Hid (Blk X13 g 49 UL) := b9.out.below U13 b9.out.lt
  clear b9
  have b15 : Hid (Blk X13 (g + 1) 49 z32) := b10.out.below U13 b10.out.lt
  clear b10
  have b16 : Hid (Blk X13 g1 49 L1) := b11.out.below U13 b11.out.lt
  clear b11
  have b17 : Hid (Blk X13 g4 49 L4) := b12.out.below U13 b12.out.lt
  clear b12
  have b18 : Hid (Blk X13 g8 49 UL) := Q8.out.below U13 Q8.out.lt
  clear Q8
  have Q13 : Hid (Blk X13 g13 49 L13) := hb13
  clear hb13 ho13 N13 hg13 k13 U13 KK8
  go_wp2
  go_loopw [9] (fun i wr => ∃ (j x2 z2 x3 z3 : Nat) (A2 C2 A3 C3 : List Value), j ≤ 255 ∧ i = .int .i64 (254 - (j : Int)) ∧ Hid (M.lad q ks u j = (x2, z2, x3, z3)) ∧ Hid (x2 < q ∧ z2 < q ∧ x3 < q ∧ z3 < q) ∧ Hid (IsN A2 x2) ∧ Hid (IsN C2 z2) ∧ Hid (IsN A3 x3) ∧ Hid (IsN C3 z3) ∧ Hid (Blk wr g 49 UL) ∧ Hid (Blk wr (g + 1) 49 z32) ∧ Hid (Blk wr g1 49 A2) ∧ Hid (Blk wr g4 49 C2) ∧ Hid (Blk wr g8 49 A3) ∧ Hid (Blk wr g13 49 C3) ∧ Hid (Below w.heap.size w wr))
    (fun i _ => (intOf i + 1).toNat)
  case atStart => exact ⟨0, 1, 0, u, 1, _, _, _, _, by omega, by simp, rfl, ⟨H1q.out, H0q.out, HU.out, H1q.out⟩, h1, h4, HUL, h13, b14, b15, b16, b17, b18, Q13, KK13⟩
  case round =>
    clear b14 b15 b16 b17 b18 Q13 KK13
    obtain ⟨wz, rfl⟩ : ∃ x, x = wr := ⟨_, rfl⟩
    obtain ⟨j, x2, z2, x3, z3, A2, C2, A3, C3, hj, rfl, hlad, hlt4, fx2, fz2, fx3, fz3, b3, b4, b5, b6, b7, b8, kk⟩ := hrel
    have ltx2 : Hid (x2 < q) := hlt4.out.1
    have ltz2 : Hid (z2 < q) := hlt4.out.2.1
    have ltx3 : Hid (x3 < q) := hlt4.out.2.2.1
    have ltz3 : Hid (z3 < q) := hlt4.out.2.2.2
    by_cases hlt : j < 255
    · skip
      obtain ⟨p, hp⟩ : ∃ p, p = 254 - j := ⟨_, rfl⟩
      have c0 : (0 : Int) ≤ 254 - (j : Int) := by omega
      have c1 : (254 - (j : Int)) = (p : Int) := by omega
      obtain ⟨pq, hpq⟩ : ∃ v, v = p / 8 := ⟨_, rfl⟩
      obtain ⟨pr, hpr⟩ : ∃ v, v = p % 8 := ⟨_, rfl⟩
      have hpq32 : pq < 32 := by omega
      have hpr8 : pr < 8 := by omega
      obtain ⟨by_, hby⟩ : ∃ v, v = (ks.getD pq 0).toNat := ⟨_, rfl⟩
      obtain ⟨bit, hbt⟩ : ∃ v, v = by_ / 2 ^ pr % 2 := ⟨_, rfl⟩
      have HBIT : Hid (bit = M.kbit ks (254 - j)) := by rw [Hid, M.kbit, hbt, hby, hpq, hpr, hp]
      have ck := HC.out wz kk.out pq hpq32
      rw [← hby] at ck
      have t1 : (p : Int).tdiv 8 = (pq : Int) := by rw [Int.tdiv_eq_ediv_of_nonneg (by omega)]; omega
      have t1' : (p : Int) / 8 = (pq : Int) := by omega
      have t2 : (p : Int).tmod 8 = (pr : Int) := by rw [Int.tmod_eq_emod_of_nonneg (by omega)]; omega
      have t2' : (p : Int) % 8 = (pr : Int) := by omega
      have t3 : ((by_ : Int) / 2 ^ pr) % 2 = (bit : Int) := by rw [hbt, Int.natCast_emod, Int.natCast_ediv, Int.natCast_pow]; rfl
      have t3' : ((by_ : Int) / 2 ^ pr).tmod 2 = (bit : Int) := by rw [Int.tmod_eq_emod_of_nonneg (Int.ediv_nonneg (by omega) (by exact Int.le_of_lt (Int.pow_pos (by decide))))]; exact t3
      have hbit : bit = 1 ∨ bit = 0 := by omega
      have HPJ : Hid (p = 254 - j) := hp
      have HJ : Hid (j < 255) := hlt
      have hw : wrap64 ((p : Int) - 1) = (p : Int) - 1 := by unfold wrap64; omega
      rw [c1]
      clear hp hpq hpr hby hbt hj hlt c1
      rcases hbit with hbit | hbit
      · skip
        have hb1 : (bit : Int) = 1 := by rw [hbit]; rfl
        go_upto_region 10 with fail
        clear ck t1 t1' t2 t2' t3 t3' c0 hb1 hpq32 hpr8 HC
        go_upto_region 11 with (first | (refine wpList_load_num rfl (.tmp 7) rfl g8 rfl A3 b7.out fx3.out.len ?_) | (refine wpList_load_num rfl (.tmp 5) rfl g1 rfl A2 b5.out fx2.out.len ?_) | (refine wpList_store_num rfl rfl (.tmp 5) (.tmp 38) rfl g1 rfl A3 A2 rfl b5.out fx2.out.len fx3.out.len fx3.out.one ?_; intro X119 hb119 ho119) | (refine wpList_store_num rfl rfl (.tmp 7) (.tmp 39) rfl g8 rfl A2 A3 rfl (b7.out.grown ho119 (by have := HG.out; have := C1.out; have := C4.out; have := C8.out; have := C13.out; intro e; injection e with e; omega)) fx3.out.len fx2.out.len fx2.out.one ?_; intro Y119 hc119 hd119))
        have N119 : Hid (Blk Y119 g1 49 A3) := (show Blk X119 g1 49 A3 from hb119).grown hd119 (by have := HG.out; have := C1.out; have := C4.out; have := C8.out; have := C13.out; intro e; injection e with e; omega)
        have O119 : Hid (Blk Y119 g8 49 A2) := hc119
        have b120 : Hid (Blk Y119 g 49 UL) := (b3.out.grown ho119 (by have := HG.out; have := C1.out; have := C4.out; have := C8.out; have := C13.out; intro e; injection e with e; omega)).grown hd119 (by have := HG.out; have := C1.out; have := C4.out; have := C8.out; have := C13.out; intro e; injection e with e; omega)
        clear b3
        have b121 : Hid (Blk Y119 (g + 1) 49 z32) := (b4.out.grown ho119 (by have := HG.out; have := C1.out; have := C4.out; have := C8.out; have := C13.out; intro e; injection e with e; omega)).grown hd119 (by have := HG.out; have := C1.out; have := C4.out; have := C8.out; have := C13.out; intro e; injection e with e; omega)
        clear b4
        have b122 : Hid (Blk Y119 g4 49 C2) := (b6.out.grown ho119 (by have := HG.out; have := C1.out; have := C4.out; have := C8.out; have := C13.out; intro e; injection e with e; omega)).grown hd119 (by have := HG.out; have := C1.out; have := C4.out; have := C8.out; have := C13.out; intro e; injection e with e; omega)
        clear b6
        have b123 : Hid (Blk Y119 g13 49 C3) := (b8.out.grown ho119 (by have := HG.out; have := C1.out; have := C4.out; have := C8.out; have := C13.out; intro e; injection e with e; omega)).grown hd119 (by have := HG.out; have := C1.out; have := C4.out; have := C8.out; have := C13.out; intro e; injection e with e; omega)
        clear b8
        have KK119 : Hid (Below w.heap.size w Y119) := by
          have h1 := kk.out.trans (ho119.below kk.out.size (by have := HG.out; have := C1.out; have := C4.out; have := C8.out; have := C13.out; omega))
          exact h1.trans (hd119.below h1.size (by have := HG.out; have := C1.out; have := C4.out; have := C8.out; have := C13.out; omega))
        clear hb119 ho119 hc119 hd119 b5 b7 kk
        go_upto_region 12 with (first | (refine wpList_load_num rfl (.tmp 8) rfl g13 rfl C3 b123.out fz3.out.len ?_) | (refine wpList_load_num rfl (.tmp 6) rfl g4 rfl C2 b122.out fz2.out.len ?_) | (refine wpList_store_num rfl rfl (.tmp 6) (.tmp 40) rfl g4 rfl C3 C2 rfl b122.out fz2.out.len fz3.out.len fz3.out.one ?_; intro X124 hb124 ho124) | (refine wpList_store_num rfl rfl (.tmp 8) (.tmp 41) rfl g13 rfl C2 C3 rfl (b123.out.grown ho124 (by have := HG.out; have := C1.out; have := C4.out; have := C8.out; have := C13.out; intro e; injection e with e; omega)) fz3.out.len fz2.out.len fz2.out.one ?_; intro Y124 hc124 hd124))
        have N124 : Hid (Blk Y124 g4 49 C3) := (show Blk X124 g4 49 C3 from hb124).grown hd124 (by have := HG.out; have := C1.out; have := C4.out; have := C8.out; have := C13.out; intro e; injection e with e; omega)
        have O124 : Hid (Blk Y124 g13 49 C2) := hc124
        have b125 : Hid (Blk Y124 g 49 UL) := (b120.out.grown ho124 (by have := HG.out; have := C1.out; have := C4.out; have := C8.out; have := C13.out; intro e; injection e with e; omega)).grown hd124 (by have := HG.out; have := C1.out; have := C4.out; have := C8.out; have := C13.out; intro e; injection e with e; omega)
        clear b120
        have b126 : Hid (Blk Y124 (g + 1) 49 z32) := (b121.out.grown ho124 (by have := HG.out; have := C1.out; have := C4.out; have := C8.out; have := C13.out; intro e; injection e with e; omega)).grown hd124 (by have := HG.out; have := C1.out; have := C4.out; have := C8.out; have := C13.out; intro e; injection e with e; omega)
        clear b121
        have b127 : Hid (Blk Y124 g1 49 A3) := (N119.out.grown ho124 (by have := HG.out; have := C1.out; have := C4.out; have := C8.out; have := C13.out; intro e; injection e with e; omega)).grown hd124 (by have := HG.out; have := C1.out; have := C4.out; have := C8.out; have := C13.out; intro e; injection e with e; omega)
        clear N119
        have b128 : Hid (Blk Y124 g8 49 A2) := (O119.out.grown ho124 (by have := HG.out; have := C1.out; have := C4.out; have := C8.out; have := C13.out; intro e; injection e with e; omega)).grown hd124 (by have := HG.out; have := C1.out; have := C4.out; have := C8.out; have := C13.out; intro e; injection e with e; omega)
        clear O119
        have KK124 : Hid (Below w.heap.size w Y124) := by
          have h1 := KK119.out.trans (ho124.below KK119.out.size (by have := HG.out; have := C1.out; have := C4.out; have := C8.out; have := C13.out; omega))
          exact h1.trans (hd124.below h1.size (by have := HG.out; have := C1.out; have := C4.out; have := C8.out; have := C13.out; omega))
        clear hb124 ho124 hc124 hd124 b122 b123 KK119
        obtain ⟨r130, hr130⟩ : ∃ r, Hid ((x3 + z3) % q = r) := ⟨(x3 + z3) % q, rfl⟩
        have ltr130 : Hid (r130 < q) := by rw [← hr130.out]; exact Nat.mod_lt _ HQ0.out
        go_wp2_with (first | (refine wpList_load_num rfl (.tmp 5) rfl g1 rfl A3 b127.out fx3.out.len ?_) | (refine wpList_load_num rfl (.tmp 6) rfl g4 rfl C3 N124.out fz3.out.len ?_))
        refine (CA.out _ _ _ _ _ _ fx3 fz3 hr130).mono ?_
        rintro e w129 ⟨L129, rfl, l129, k129⟩
        have h129 := Lib.hid l129
        obtain ⟨g129, hg129⟩ : ∃ v, v = w129.heap.size := ⟨_, rfl⟩
        have C129 : Hid (g13 < g129) := by have h1 := O124.out.lt; have h2 := k129.size; rw [Hid]; omega
        have N129 : Blk (w129.alloc (.cells z32.toArray 49)) g129 49 z32 := Blk.newAt _ _ _ _ _ hg129 rfl
        go_upto_region 13 with (first | (rw [← z32_arr, ← hg129]; refine wpList_store_num rfl rfl (.tmp 11) (.tmp 44) rfl g129 rfl L129 z32 rfl N129 z32_len h129.out.len h129.out.one ?_; intro X129 hb129 ho129))
        have U129 : Below Y124.heap.size Y124 X129 := (k129.alloc k129.size _).trans (ho129.below (by have := k129.size; simp <;> omega) (by have := k129.size; omega))
        have KK129 : Hid (Below w.heap.size w X129) := KK124.out.trans (U129.mono KK124.out.size)
        have b131 : Hid (Blk X129 g 49 UL) := b125.out.below U129 b125.out.lt
        clear b125
        have b132 : Hid (Blk X129 (g + 1) 49 z32) := b126.out.below U129 b126.out.lt
        clear b126
        have b133 : Hid (Blk X129 g1 49 A3) := b127.out.below U129 b127.out.lt
        clear b127
        have b134 : Hid (Blk X129 g8 49 A2) := b128.out.below U129 b128.out.lt
        clear b128
        have b135 : Hid (Blk X129 g4 49 C3) := N124.out.below U129 N124.out.lt
        clear N124
        have b136 : Hid (Blk X129 g13 49 C2) := O124.out.below U129 O124.out.lt
        clear O124
        have Q129 : Hid (Blk X129 g129 49 L129) := hb129
        clear hb129 ho129 N129 hg129 k129 U129 KK124
        obtain ⟨r138, hr138⟩ : ∃ r, Hid ((x3 + (q - z3)) % q = r) := ⟨(x3 + (q - z3)) % q, rfl⟩
        have ltr138 : Hid (r138 < q) := by rw [← hr138.out]; exact Nat.mod_lt _ HQ0.out
        go_wp2_with (first | (refine wpList_load_num rfl (.tmp 5) rfl g1 rfl A3 b133.out fx3.out.len ?_) | (refine wpList_load_num rfl (.tmp 6) rfl g4 rfl C3 b135.out fz3.out.len ?_))
        refine (CB.out _ _ _ _ _ _ fx3 fz3 ltz3 hr138).mono ?_
        rintro e w137 ⟨L137, rfl, l137, k137⟩
        have h137 := Lib.hid l137
        obtain ⟨g137, hg137⟩ : ∃ v, v = w137.heap.size := ⟨_, rfl⟩
        have C137 : Hid (g129 < g137) := by have h1 := Q129.out.lt; have h2 := k137.size; rw [Hid]; omega
        have N137 : Blk (w137.alloc (.cells z32.toArray 49)) g137 49 z32 := Blk.newAt _ _ _ _ _ hg137 rfl
        go_upto_region 14 with (first | (rw [← z32_arr, ← hg137]; refine wpList_store_num rfl rfl (.tmp 12) (.tmp 47) rfl g137 rfl L137 z32 rfl N137 z32_len h137.out.len h137.out.one ?_; intro X137 hb137 ho137))
        have U137 : Below X129.heap.size X129 X137 := (k137.alloc k137.size _).trans (ho137.below (by have := k137.size; simp <;> omega) (by have := k137.size; omega))
        have KK137 : Hid (Below w.heap.size w X137) := KK129.out.trans (U137.mono KK129.out.size)
        have b139 : Hid (Blk X137 g 49 UL) := b131.out.below U137 b131.out.lt
        clear b131
        have b140 : Hid (Blk X137 (g + 1) 49 z32) := b132.out.below U137 b132.out.lt
        clear b132
        have b141 : Hid (Blk X137 g1 49 A3) := b133.out.below U137 b133.out.lt
        clear b133
        have b142 : Hid (Blk X137 g8 49 A2) := b134.out.below U137 b134.out.lt
        clear b134
        have b143 : Hid (Blk X137 g4 49 C3) := b135.out.below U137 b135.out.lt
        clear b135
        have b144 : Hid (Blk X137 g13 49 C2) := b136.out.below U137 b136.out.lt
        clear b136
        have b145 : Hid (Blk X137 g129 49 L129) := Q129.out.below U137 Q129.out.lt
        clear Q129
        have Q137 : Hid (Blk X137 g137 49 L137) := hb137
        clear hb137 ho137 N137 hg137 k137 U137 KK129
        obtain ⟨r147, hr147⟩ : ∃ r, Hid (r130 * r130 % q = r) := ⟨r130 * r130 % q, rfl⟩
        have ltr147 : Hid (r147 < q) := by rw [← hr147.out]; exact Nat.mod_lt _ HQ0.out
        go_wp2_with (first | (refine wpList_load_num rfl (.tmp 11) rfl g129 rfl L129 b145.out h129.out.len ?_))
        refine (CM.out _ _ _ _ _ _ h129 h129 hr147).mono ?_
        rintro e w146 ⟨L146, rfl, l146, k146⟩
        have h146 := Lib.hid l146
        obtain ⟨g146, hg146⟩ : ∃ v, v = w146.heap.size := ⟨_, rfl⟩
        have C146 : Hid (g137 < g146) := by have h1 := Q137.out.lt; have h2 := k146.size; rw [Hid]; omega
        have N146 : Blk (w146.alloc (.cells z32.toArray 49)) g146 49 z32 := Blk.newAt _ _ _ _ _ hg146 rfl
        go_upto_region 15 with (first | (rw [← z32_arr, ← hg146]; refine wpList_store_num rfl rfl (.tmp 13) (.tmp 50) rfl g146 rfl L146 z32 rfl N146 z32_len h146.out.len h146.out.one ?_; intro X146 hb146 ho146))
        have U146 : Below X137.heap.size X137 X146 := (k146.alloc k146.size _).trans (ho146.below (by have := k146.size; simp <;> omega) (by have := k146.size; omega))
        have KK146 : Hid (Below w.heap.size w X146) := KK137.out.trans (U146.mono KK137.out.size)
        have b148 : Hid (Blk X146 g 49 UL) := b139.out.below U146 b139.out.lt
        clear b139
        have b149 : Hid (Blk X146 (g + 1) 49 z32) := b140.out.below U146 b140.out.lt
        clear b140
        have b150 : Hid (Blk X146 g1 49 A3) := b141.out.below U146 b141.out.lt
        clear b141
        have b151 : Hid (Blk X146 g8 49 A2) := b142.out.below U146 b142.out.lt
        clear b142
        have b152 : Hid (Blk X146 g4 49 C3) := b143.out.below U146 b143.out.lt
        clear b143
        have b153 : Hid (Blk X146 g13 49 C2) := b144.out.below U146 b144.out.lt
        clear b144
        have b154 : Hid (Blk X146 g129 49 L129) := b145.out.below U146 b145.out.lt
        clear b145
        have b155 : Hid (Blk X146 g137 49 L137) := Q137.out.below U146 Q137.out.lt
        clear Q137
        have Q146 : Hid (Blk X146 g146 49 L146) := hb146
        clear hb146 ho146 N146 hg146 k146 U146 KK137
        obtain ⟨r157, hr157⟩ : ∃ r, Hid (r138 * r138 % q = r) := ⟨r138 * r138 % q, rfl⟩
        have ltr157 : Hid (r157 < q) := by rw [← hr157.out]; exact Nat.mod_lt _ HQ0.out
        go_wp2_with (first | (refine wpList_load_num rfl (.tmp 12) rfl g137 rfl L137 b155.out h137.out.len ?_))
        refine (CM.out _ _ _ _ _ _ h137 h137 hr157).mono ?_
        rintro e w156 ⟨L156, rfl, l156, k156⟩
        have h156 := Lib.hid l156
        obtain ⟨g156, hg156⟩ : ∃ v, v = w156.heap.size := ⟨_, rfl⟩
        have C156 : Hid (g146 < g156) := by have h1 := Q146.out.lt; have h2 := k156.size; rw [Hid]; omega
        have N156 : Blk (w156.alloc (.cells z32.toArray 49)) g156 49 z32 := Blk.newAt _ _ _ _ _ hg156 rfl
        go_upto_region 16 with (first | (rw [← z32_arr, ← hg156]; refine wpList_store_num rfl rfl (.tmp 14) (.tmp 53) rfl g156 rfl L156 z32 rfl N156 z32_len h156.out.len h156.out.one ?_; intro X156 hb156 ho156))
        have U156 : Below X146.heap.size X146 X156 := (k156.alloc k156.size _).trans (ho156.below (by have := k156.size; simp <;> omega) (by have := k156.size; omega))
        have KK156 : Hid (Below w.heap.size w X156) := KK146.out.trans (U156.mono KK146.out.size)
        have b158 : Hid (Blk X156 g 49 UL) := b148.out.below U156 b148.out.lt
        clear b148
        have b159 : Hid (Blk X156 (g + 1) 49 z32) := b149.out.below U156 b149.out.lt
        clear b149
        have b160 : Hid (Blk X156 g1 49 A3) := b150.out.below U156 b150.out.lt
        clear b150
        have b161 : Hid (Blk X156 g8 49 A2) := b151.out.below U156 b151.out.lt
        clear b151
        have b162 : Hid (Blk X156 g4 49 C3) := b152.out.below U156 b152.out.lt
        clear b152
        have b163 : Hid (Blk X156 g13 49 C2) := b153.out.below U156 b153.out.lt
        clear b153
        have b164 : Hid (Blk X156 g129 49 L129) := b154.out.below U156 b154.out.lt
        clear b154
        have b165 : Hid (Blk X156 g137 49 L137) := b155.out.below U156 b155.out.lt
        clear b155
        have b166 : Hid (Blk X156 g146 49 L146) := Q146.out.below U156 Q146.out.lt
        clear Q146
        have Q156 : Hid (Blk X156 g156 49 L156) := hb156
        clear hb156 ho156 N156 hg156 k156 U156 KK146
        obtain ⟨r168, hr168⟩ : ∃ r, Hid ((r147 + (q - r157)) % q = r) := ⟨(r147 + (q - r157)) % q, rfl⟩
        have ltr168 : Hid (r168 < q) := by rw [← hr168.out]; exact Nat.mod_lt _ HQ0.out
        go_wp2_with (first | (refine wpList_load_num rfl (.tmp 13) rfl g146 rfl L146 b166.out h146.out.len ?_) | (refine wpList_load_num rfl (.tmp 14) rfl g156 rfl L156 Q156.out h156.out.len ?_))
        refine (CB.out _ _ _ _ _ _ h146 h156 ltr157 hr168).mono ?_
        rintro e w167 ⟨L167, rfl, l167, k167⟩
        have h167 := Lib.hid l167
        obtain ⟨g167, hg167⟩ : ∃ v, v = w167.heap.size := ⟨_, rfl⟩
        have C167 : Hid (g156 < g167) := by have h1 := Q156.out.lt; have h2 := k167.size; rw [Hid]; omega
        have N167 : Blk (w167.alloc (.cells z32.toArray 49)) g167 49 z32 := Blk.newAt _ _ _ _ _ hg167 rfl
        go_upto_region 17 with (first | (rw [← z32_arr, ← hg167]; refine wpList_store_num rfl rfl (.tmp 15) (.tmp 56) rfl g167 rfl L167 z32 rfl N167 z32_len h167.out.len h167.out.one ?_; intro X167 hb167 ho167))
        have U167 : Below X156.heap.size X156 X167 := (k167.alloc k167.size _).trans (ho167.below (by have := k167.size; simp <;> omega) (by have := k167.size; omega))
        have KK167 : Hid (Below w.heap.size w X167) := KK156.out.trans (U167.mono KK156.out.size)
        have b169 : Hid (Blk X167 g 49 UL) := b158.out.below U167 b158.out.lt
        clear b158
        have b170 : Hid (Blk X167 (g + 1) 49 z32) := b159.out.below U167 b159.out.lt
        clear b159
        have b171 : Hid (Blk X167 g1 49 A3) := b160.out.below U167 b160.out.lt
        clear b160
        have b172 : Hid (Blk X167 g8 49 A2) := b161.out.below U167 b161.out.lt
        clear b161
        have b173 : Hid (Blk X167 g4 49 C3) := b162.out.below U167 b162.out.lt
        clear b162
        have b174 : Hid (Blk X167 g13 49 C2) := b163.out.below U167 b163.out.lt
        clear b163
        have b175 : Hid (Blk X167 g129 49 L129) := b164.out.below U167 b164.out.lt
        clear b164
        have b176 : Hid (Blk X167 g137 49 L137) := b165.out.below U167 b165.out.lt
        clear b165
        have b177 : Hid (Blk X167 g146 49 L146) := b166.out.below U167 b166.out.lt
        clear b166
        have b178 : Hid (Blk X167 g156 49 L156) := Q156.out.below U167 Q156.out.lt
        clear Q156
        have Q167 : Hid (Blk X167 g167 49 L167) := hb167
        clear hb167 ho167 N167 hg167 k167 U167 KK156
        obtain ⟨r180, hr180⟩ : ∃ r, Hid ((x2 + (q - z2)) % q = r) := ⟨(x2 + (q - z2)) % q, rfl⟩
        have ltr180 : Hid (r180 < q) := by rw [← hr180.out]; exact Nat.mod_lt _ HQ0.out
        obtain ⟨r181, hr181⟩ : ∃ r, Hid (r180 * r130 % q = r) := ⟨r180 * r130 % q, rfl⟩
        have ltr181 : Hid (r181 < q) := by rw [← hr181.out]; exact Nat.mod_lt _ HQ0.out
        go_upto_region 17 with fail
        go_cut [16] from 22 to 98 (fun sv wx => ∃ (gd : Nat) (L : List Value), sv = .pointer (some ⟨gd, 0, none⟩) ∧ Hid (IsN L r181) ∧ Hid (Blk wx gd 49 L) ∧ Hid (Below X167.heap.size X167 wx) ∧ Hid (X167.heap.size ≤ gd))
        case first =>
          refine wp_region_any (by kernel_rfl) ?_
          change wpAny _ _ _ _ _ _ _ (World.drew _)
          refine wpAny_of_held (S := fun w' => w'.rangeAt g8 0 A2 ∧ w'.rangeAt g13 0 C2 ∧ w'.rangeAt g129 0 L129) _ _ _ _ ?_
          have y0 : Below X167.heap.size X167 X167.drew := below_draws X167 1
          refine wpAnyH_take_at (i := 0) (v := .agg A2.toArray) rfl rfl (by kernel_rfl) (by kernel_rfl) (by kernel_rfl) (fun _ _ _ h => h) (yieldsIf_load_mid (by rfl) 49 (.tmp 7) rfl g8 0 rfl A2 _ (fun w h => h.1) Try.underlying49 rfl (by rw [fx2.out.len]; kernel_rfl)) ⟨(((b172.out.below y0 b172.out.lt)).range 0 _ [] (by simp)), (((b174.out.below y0 b174.out.lt)).range 0 _ [] (by simp)), (((b175.out.below y0 b175.out.lt)).range 0 _ [] (by simp))⟩ ?_
          simp only [List.setIfInBounds_toArray, List.set_cons_zero, List.set_cons_succ]
          refine wpAnyH_take_at (i := 1) (v := .agg C2.toArray) rfl rfl (by kernel_rfl) (by kernel_rfl) (by kernel_rfl) (fun _ _ _ h => h) (yieldsIf_load_mid (by rfl) 49 (.tmp 8) rfl g13 0 rfl C2 _ (fun w h => h.2.1) Try.underlying49 rfl (by rw [fz2.out.len]; kernel_rfl)) ⟨(((b172.out.below y0 b172.out.lt)).range 0 _ [] (by simp)), (((b174.out.below y0 b174.out.lt)).range 0 _ [] (by simp)), (((b175.out.below y0 b175.out.lt)).range 0 _ [] (by simp))⟩ ?_
          simp only [List.setIfInBounds_toArray, List.set_cons_zero, List.set_cons_succ]
          refine wpAnyH_take_at (i := 3) (v := .agg L129.toArray) rfl rfl (by kernel_rfl) (by kernel_rfl) (by kernel_rfl) (fun _ _ _ h => h) (yieldsIf_load_mid (by rfl) 49 (.tmp 11) rfl g129 0 rfl L129 _ (fun w h => h.2.2) Try.underlying49 rfl (by rw [h129.out.len]; kernel_rfl)) ⟨(((b172.out.below y0 b172.out.lt)).range 0 _ [] (by simp)), (((b174.out.below y0 b174.out.lt)).range 0 _ [] (by simp)), (((b175.out.below y0 b175.out.lt)).range 0 _ [] (by simp))⟩ ?_
          simp only [List.setIfInBounds_toArray, List.set_cons_zero, List.set_cons_succ]
          refine wpAnyH_ready (rs := [2, 5]) (by kernel_rfl) (by simp) ?_
          refine AllReadyH.cons rfl (fun KC hK => ?_) (AllReadyH.cons rfl (fun KC hK => ?_) AllReadyH.nil)
          · skip
            go_simp
            refine (CB.out _ _ _ _ _ _ fx2 fz2 ltz2 hr180).mono ?_
            rintro e v1 ⟨T179_2, rfl, lT1, zc1⟩
            have hT179_2 := Lib.hid lT1
            have y1 := y0.trans (zc1.mono y0.size)
            refine hK _ _ ⟨(((b172.out.below y1 b172.out.lt)).range 0 _ [] (by simp)), (((b174.out.below y1 b174.out.lt)).range 0 _ [] (by simp)), (((b175.out.below y1 b175.out.lt)).range 0 _ [] (by simp))⟩ (fun _ => ?_)
            clear hK KC lT1
            refine wpAnyH_ready (rs := [4, 5]) (by kernel_rfl) (by simp) ?_
            refine AllReadyH.cons rfl (fun KC hK => ?_) (AllReadyH.cons rfl (fun KC hK => ?_) AllReadyH.nil)
            · skip
              go_simp
              refine (CM.out _ _ _ _ _ _ hT179_2 h129 hr181).mono ?_
              rintro e v2 ⟨T179_4, rfl, lT2, zc2⟩
              have hT179_4 := Lib.hid lT2
              have y2 := y1.trans (zc2.mono y1.size)
              refine hK _ _ ⟨(((b172.out.below y2 b172.out.lt)).range 0 _ [] (by simp)), (((b174.out.below y2 b174.out.lt)).range 0 _ [] (by simp)), (((b175.out.below y2 b175.out.lt)).range 0 _ [] (by simp))⟩ (fun _ => ?_)
              clear hK KC lT2
              refine wpAnyH_ready (rs := [5]) (by kernel_rfl) (by simp) ?_
              refine AllReadyH.cons rfl (fun KC hK => ?_) AllReadyH.nil
              go_simp
              obtain ⟨gd, hgd⟩ : ∃ v, v = v2.heap.size := ⟨_, rfl⟩
              have hgl : X167.heap.size ≤ gd := by rw [hgd]; exact y2.size
              have M3 : Hid (Blk (v2.alloc (.cells z32.toArray 49)) gd 49 z32) := Blk.newAt _ _ _ _ _ hgd rfl
              have y3 : Below X167.heap.size X167 (v2.alloc (.cells z32.toArray 49)) := y2.alloc y2.size _
              obtain ⟨v3, hv3⟩ : ∃ v, v = (v2.alloc (.cells z32.toArray 49)) := ⟨_, rfl⟩
              first | rw [← z32_arr, ← hgd, ← hv3] | rw [← hgd, ← hv3]
              rw [← hv3] at y3 M3
              refine hK _ _ ⟨(((b172.out.below y3 b172.out.lt)).range 0 _ [] (by simp)), (((b174.out.below y3 b174.out.lt)).range 0 _ [] (by simp)), (((b175.out.below y3 b175.out.lt)).range 0 _ [] (by simp))⟩ (fun _ => ?_)
              clear hK KC hgd hv3
              refine wpAnyH_ready (rs := [6]) (by kernel_rfl) (by simp) ?_
              refine AllReadyH.cons rfl (fun KC hK => ?_) AllReadyH.nil
              refine step_store_blk rfl 49 (.tmp 16) (.tmp 61) rfl gd T179_4.toArray rfl rfl 49 z32 M3.out (by rw [List.size_toArray, hT179_4.out.len]; kernel_rfl) (by rw [List.size_toArray, hT179_4.out.len, z32_len]) hT179_4.out.one ?_
              intro w3 hb3 ho3
              have ye : Below X167.heap.size X167 w3 := y3.trans (ho3.below y3.size hgl)
              refine hK _ _ ⟨(((b172.out.below ye b172.out.lt)).range 0 _ [] (by simp)), (((b174.out.below ye b174.out.lt)).range 0 _ [] (by simp)), (((b175.out.below ye b175.out.lt)).range 0 _ [] (by simp))⟩ (fun _ => ?_)
              clear hK KC
              refine wpAnyH_done (by kernel_rfl) ?_ _
              go_wp2_with fail
              go_meet
              case rel => exact ⟨gd, T179_4, rfl, hT179_4, hb3, ye, hgl⟩
            · skip
              go_simp
              obtain ⟨gd, hgd⟩ : ∃ v, v = v1.heap.size := ⟨_, rfl⟩
              have hgl : X167.heap.size ≤ gd := by rw [hgd]; exact y1.size
              have M4 : Hid (Blk (v1.alloc (.cells z32.toArray 49)) gd 49 z32) := Blk.newAt _ _ _ _ _ hgd rfl
              have y4 : Below X167.heap.size X167 (v1.alloc (.cells z32.toArray 49)) := y1.alloc y1.size _
              obtain ⟨v4, hv4⟩ : ∃ v, v = (v1.alloc (.cells z32.toArray 49)) := ⟨_, rfl⟩
              first | rw [← z32_arr, ← hgd, ← hv4] | rw [← hgd, ← hv4]
              rw [← hv4] at y4 M4
              refine hK _ _ ⟨(((b172.out.below y4 b172.out.lt)).range 0 _ [] (by simp)), (((b174.out.below y4 b174.out.lt)).range 0 _ [] (by simp)), (((b175.out.below y4 b175.out.lt)).range 0 _ [] (by simp))⟩ (fun _ => ?_)
              clear hK KC hgd hv4
              refine wpAnyH_ready (rs := [4]) (by kernel_rfl) (by simp) ?_
              refine AllReadyH.cons rfl (fun KC hK => ?_) AllReadyH.nil
              go_simp
              refine (CM.out _ _ _ _ _ _ hT179_2 h129 hr181).mono ?_
              rintro e v5 ⟨T179_4, rfl, lT5, zc5⟩
              have hT179_4 := Lib.hid lT5
              have y5 := y4.trans (zc5.mono y4.size)
              have M5 : Hid (Blk v5 gd 49 z32) := M4.out.below zc5 M4.out.lt
              refine hK _ _ ⟨(((b172.out.below y5 b172.out.lt)).range 0 _ [] (by simp)), (((b174.out.below y5 b174.out.lt)).range 0 _ [] (by simp)), (((b175.out.below y5 b175.out.lt)).range 0 _ [] (by simp))⟩ (fun _ => ?_)
              clear hK KC lT5
              refine wpAnyH_ready (rs := [6]) (by kernel_rfl) (by simp) ?_
              refine AllReadyH.cons rfl (fun KC hK => ?_) AllReadyH.nil
              refine step_store_blk rfl 49 (.tmp 16) (.tmp 61) rfl gd T179_4.toArray rfl rfl 49 z32 M5.out (by rw [List.size_toArray, hT179_4.out.len]; kernel_rfl) (by rw [List.size_toArray, hT179_4.out.len, z32_len]) hT179_4.out.one ?_
              intro w3 hb3 ho3
              have ye : Below X167.heap.size X167 w3 := y5.trans (ho3.below y5.size hgl)
              refine hK _ _ ⟨(((b172.out.below ye b172.out.lt)).range 0 _ [] (by simp)), (((b174.out.below ye b174.out.lt)).range 0 _ [] (by simp)), (((b175.out.below ye b175.out.lt)).range 0 _ [] (by simp))⟩ (fun _ => ?_)
              clear hK KC
              refine wpAnyH_done (by kernel_rfl) ?_ _
              go_wp2_with fail
              go_meet
              case rel => exact ⟨gd, T179_4, rfl, hT179_4, hb3, ye, hgl⟩
          · skip
            go_simp
            obtain ⟨gd, hgd⟩ : ∃ v, v = X167.heap.size := ⟨_, rfl⟩
            have hgl : X167.heap.size ≤ gd := by rw [hgd]; exact y0.size
            have M6 : Hid (Blk (X167.alloc (.cells z32.toArray 49)).drew gd 49 z32) := Blk.newAt _ _ _ _ _ hgd rfl
            have y6 : Below X167.heap.size X167 (X167.alloc (.cells z32.toArray 49)).drew := drewN_below ((Below.refl _ _).alloc (Nat.le_refl _) _) 1
            obtain ⟨v6, hv6⟩ : ∃ v, v = (X167.alloc (.cells z32.toArray 49)).drew := ⟨_, rfl⟩
            first | rw [← z32_arr, ← hgd, ← hv6] | rw [← hgd, ← hv6]
            rw [← hv6] at y6 M6
            refine hK _ _ ⟨(((b172.out.below y6 b172.out.lt)).range 0 _ [] (by simp)), (((b174.out.below y6 b174.out.lt)).range 0 _ [] (by simp)), (((b175.out.below y6 b175.out.lt)).range 0 _ [] (by simp))⟩ (fun _ => ?_)
            clear hK KC hgd hv6
            refine wpAnyH_ready (rs := [2]) (by kernel_rfl) (by simp) ?_
            refine AllReadyH.cons rfl (fun KC hK => ?_) AllReadyH.nil
            go_simp
            refine (CB.out _ _ _ _ _ _ fx2 fz2 ltz2 hr180).mono ?_
            rintro e v7 ⟨T179_2, rfl, lT7, zc7⟩
            have hT179_2 := Lib.hid lT7
            have y7 := y6.trans (zc7.mono y6.size)
            have M7 : Hid (Blk v7 gd 49 z32) := M6.out.below zc7 M6.out.lt
            refine hK _ _ ⟨(((b172.out.below y7 b172.out.lt)).range 0 _ [] (by simp)), (((b174.out.below y7 b174.out.lt)).range 0 _ [] (by simp)), (((b175.out.below y7 b175.out.lt)).range 0 _ [] (by simp))⟩ (fun _ => ?_)
            clear hK KC lT7
            refine wpAnyH_ready (rs := [4]) (by kernel_rfl) (by simp) ?_
            refine AllReadyH.cons rfl (fun KC hK => ?_) AllReadyH.nil
            go_simp
            refine (CM.out _ _ _ _ _ _ hT179_2 h129 hr181).mono ?_
            rintro e v8 ⟨T179_4, rfl, lT8, zc8⟩
            have hT179_4 := Lib.hid lT8
            have y8 := y7.trans (zc8.mono y7.size)
            have M8 : Hid (Blk v8 gd 49 z32) := M7.out.below zc8 M7.out.lt
            refine hK _ _ ⟨(((b172.out.below y8 b172.out.lt)).range 0 _ [] (by simp)), (((b174.out.below y8 b174.out.lt)).range 0 _ [] (by simp)), (((b175.out.below y8 b175.out.lt)).range 0 _ [] (by simp))⟩ (fun _ => ?_)
            clear hK KC lT8
            refine wpAnyH_ready (rs := [6]) (by kernel_rfl) (by simp) ?_
            refine AllReadyH.cons rfl (fun KC hK => ?_) AllReadyH.nil
            refine step_store_blk rfl 49 (.tmp 16) (.tmp 61) rfl gd T179_4.toArray rfl rfl 49 z32 M8.out (by rw [List.size_toArray, hT179_4.out.len]; kernel_rfl) (by rw [List.size_toArray, hT179_4.out.len, z32_len]) hT179_4.out.one ?_
            intro w3 hb3 ho3
            have ye : Below X167.heap.size X167 w3 := y8.trans (ho3.below y8.size hgl)
            refine hK _ _ ⟨(((b172.out.below ye b172.out.lt)).range 0 _ [] (by simp)), (((b174.out.below ye b174.out.lt)).range 0 _ [] (by simp)), (((b175.out.below ye b175.out.lt)).range 0 _ [] (by simp))⟩ (fun _ => ?_)
            clear hK KC
            refine wpAnyH_done (by kernel_rfl) ?_ _
            go_wp2_with fail
            go_meet
            case rel => exact ⟨gd, T179_4, rfl, hT179_4, hb3, ye, hgl⟩
        case rest =>
        obtain ⟨g182, L182, rfl, h182, N182, U182, G182⟩ := hcut
        obtain ⟨X182, rfl⟩ : ∃ x, x = wc := ⟨_, rfl⟩
        have KK182 : Hid (Below w.heap.size w X182) := KK167.out.trans (U182.out.mono KK167.out.size)
        have C182 : Hid (g167 < g182) := Nat.lt_of_lt_of_le Q167.out.lt G182.out
        have b183 : Hid (Blk X182 g 49 UL) := b169.out.below U182.out b169.out.lt
        clear b169
        have b184 : Hid (Blk X182 (g + 1) 49 z32) := b170.out.below U182.out b170.out.lt
        clear b170
        have b185 : Hid (Blk X182 g1 49 A3) := b171.out.below U182.out b171.out.lt
        clear b171
        have b186 : Hid (Blk X182 g8 49 A2) := b172.out.below U182.out b172.out.lt
        clear b172
        have b187 : Hid (Blk X182 g4 49 C3) := b173.out.below U182.out b173.out.lt
        clear b173
        have b188 : Hid (Blk X182 g13 49 C2) := b174.out.below U182.out b174.out.lt
        clear b174
        have b189 : Hid (Blk X182 g129 49 L129) := b175.out.below U182.out b175.out.lt
        clear b175
        have b190 : Hid (Blk X182 g137 49 L137) := b176.out.below U182.out b176.out.lt
        clear b176
        have b191 : Hid (Blk X182 g146 49 L146) := b177.out.below U182.out b177.out.lt
        clear b177
        have b192 : Hid (Blk X182 g156 49 L156) := b178.out.below U182.out b178.out.lt
        clear b178
        have b193 : Hid (Blk X182 g167 49 L167) := Q167.out.below U182.out Q167.out.lt
        clear Q167
        clear U182 G182 KK167
        obtain ⟨r195, hr195⟩ : ∃ r, Hid ((x2 + z2) % q = r) := ⟨(x2 + z2) % q, rfl⟩
        have ltr195 : Hid (r195 < q) := by rw [← hr195.out]; exact Nat.mod_lt _ HQ0.out
        obtain ⟨r196, hr196⟩ : ∃ r, Hid (r195 * r138 % q = r) := ⟨r195 * r138 % q, rfl⟩
        have ltr196 : Hid (r196 < q) := by rw [← hr196.out]; exact Nat.mod_lt _ HQ0.out
        go_upto_region 18 with fail
        go_cut [17] from 22 to 98 (fun sv wx => ∃ (gd : Nat) (L : List Value), sv = .pointer (some ⟨gd, 0, none⟩) ∧ Hid (IsN L r196) ∧ Hid (Blk wx gd 49 L) ∧ Hid (Below X182.heap.size X182 wx) ∧ Hid (X182.heap.size ≤ gd))
        case first =>
          refine wp_region_any (by kernel_rfl) ?_
          change wpAny _ _ _ _ _ _ _ (World.drew _)
          refine wpAny_of_held (S := fun w' => w'.rangeAt g8 0 A2 ∧ w'.rangeAt g13 0 C2 ∧ w'.rangeAt g137 0 L137) _ _ _ _ ?_
          have y0 : Below X182.heap.size X182 X182.drew := below_draws X182 1
          refine wpAnyH_take_at (i := 0) (v := .agg A2.toArray) rfl rfl (by kernel_rfl) (by kernel_rfl) (by kernel_rfl) (fun _ _ _ h => h) (yieldsIf_load_mid (by rfl) 49 (.tmp 7) rfl g8 0 rfl A2 _ (fun w h => h.1) Try.underlying49 rfl (by rw [fx2.out.len]; kernel_rfl)) ⟨(((b186.out.below y0 b186.out.lt)).range 0 _ [] (by simp)), (((b188.out.below y0 b188.out.lt)).range 0 _ [] (by simp)), (((b190.out.below y0 b190.out.lt)).range 0 _ [] (by simp))⟩ ?_
          simp only [List.setIfInBounds_toArray, List.set_cons_zero, List.set_cons_succ]
          refine wpAnyH_take_at (i := 1) (v := .agg C2.toArray) rfl rfl (by kernel_rfl) (by kernel_rfl) (by kernel_rfl) (fun _ _ _ h => h) (yieldsIf_load_mid (by rfl) 49 (.tmp 8) rfl g13 0 rfl C2 _ (fun w h => h.2.1) Try.underlying49 rfl (by rw [fz2.out.len]; kernel_rfl)) ⟨(((b186.out.below y0 b186.out.lt)).range 0 _ [] (by simp)), (((b188.out.below y0 b188.out.lt)).range 0 _ [] (by simp)), (((b190.out.below y0 b190.out.lt)).range 0 _ [] (by simp))⟩ ?_
          simp only [List.setIfInBounds_toArray, List.set_cons_zero, List.set_cons_succ]
          refine wpAnyH_take_at (i := 3) (v := .agg L137.toArray) rfl rfl (by kernel_rfl) (by kernel_rfl) (by kernel_rfl) (fun _ _ _ h => h) (yieldsIf_load_mid (by rfl) 49 (.tmp 12) rfl g137 0 rfl L137 _ (fun w h => h.2.2) Try.underlying49 rfl (by rw [h137.out.len]; kernel_rfl)) ⟨(((b186.out.below y0 b186.out.lt)).range 0 _ [] (by simp)), (((b188.out.below y0 b188.out.lt)).range 0 _ [] (by simp)), (((b190.out.below y0 b190.out.lt)).range 0 _ [] (by simp))⟩ ?_
          simp only [List.setIfInBounds_toArray, List.set_cons_zero, List.set_cons_succ]
          refine wpAnyH_ready (rs := [2, 5]) (by kernel_rfl) (by simp) ?_
          refine AllReadyH.cons rfl (fun KC hK => ?_) (AllReadyH.cons rfl (fun KC hK => ?_) AllReadyH.nil)
          · skip
            go_simp
            refine (CA.out _ _ _ _ _ _ fx2 fz2 hr195).mono ?_
            rintro e v1 ⟨T194_2, rfl, lT1, zc1⟩
            have hT194_2 := Lib.hid lT1
            have y1 := y0.trans (zc1.mono y0.size)
            refine hK _ _ ⟨(((b186.out.below y1 b186.out.lt)).range 0 _ [] (by simp)), (((b188.out.below y1 b188.out.lt)).range 0 _ [] (by simp)), (((b190.out.below y1 b190.out.lt)).range 0 _ [] (by simp))⟩ (fun _ => ?_)
            clear hK KC lT1
            refine wpAnyH_ready (rs := [4, 5]) (by kernel_rfl) (by simp) ?_
            refine AllReadyH.cons rfl (fun KC hK => ?_) (AllReadyH.cons rfl (fun KC hK => ?_) AllReadyH.nil)
            · skip
              go_simp
              refine (CM.out _ _ _ _ _ _ hT194_2 h137 hr196).mono ?_
              rintro e v2 ⟨T194_4, rfl, lT2, zc2⟩
              have hT194_4 := Lib.hid lT2
              have y2 := y1.trans (zc2.mono y1.size)
              refine hK _ _ ⟨(((b186.out.below y2 b186.out.lt)).range 0 _ [] (by simp)), (((b188.out.below y2 b188.out.lt)).range 0 _ [] (by simp)), (((b190.out.below y2 b190.out.lt)).range 0 _ [] (by simp))⟩ (fun _ => ?_)
              clear hK KC lT2
              refine wpAnyH_ready (rs := [5]) (by kernel_rfl) (by simp) ?_
              refine AllReadyH.cons rfl (fun KC hK => ?_) AllReadyH.nil
              go_simp
              obtain ⟨gd, hgd⟩ : ∃ v, v = v2.heap.size := ⟨_, rfl⟩
              have hgl : X182.heap.size ≤ gd := by rw [hgd]; exact y2.size
              have M3 : Hid (Blk (v2.alloc (.cells z32.toArray 49)) gd 49 z32) := Blk.newAt _ _ _ _ _ hgd rfl
              have y3 : Below X182.heap.size X182 (v2.alloc (.cells z32.toArray 49)) := y2.alloc y2.size _
              obtain ⟨v3, hv3⟩ : ∃ v, v = (v2.alloc (.cells z32.toArray 49)) := ⟨_, rfl⟩
              first | rw [← z32_arr, ← hgd, ← hv3] | rw [← hgd, ← hv3]
              rw [← hv3] at y3 M3
              refine hK _ _ ⟨(((b186.out.below y3 b186.out.lt)).range 0 _ [] (by simp)), (((b188.out.below y3 b188.out.lt)).range 0 _ [] (by simp)), (((b190.out.below y3 b190.out.lt)).range 0 _ [] (by simp))⟩ (fun _ => ?_)
              clear hK KC hgd hv3
              refine wpAnyH_ready (rs := [6]) (by kernel_rfl) (by simp) ?_
              refine AllReadyH.cons rfl (fun KC hK => ?_) AllReadyH.nil
              refine step_store_blk rfl 49 (.tmp 17) (.tmp 66) rfl gd T194_4.toArray rfl rfl 49 z32 M3.out (by rw [List.size_toArray, hT194_4.out.len]; kernel_rfl) (by rw [List.size_toArray, hT194_4.out.len, z32_len]) hT194_4.out.one ?_
              intro w3 hb3 ho3
              have ye : Below X182.heap.size X182 w3 := y3.trans (ho3.below y3.size hgl)
              refine hK _ _ ⟨(((b186.out.below ye b186.out.lt)).range 0 _ [] (by simp)), (((b188.out.below ye b188.out.lt)).range 0 _ [] (by simp)), (((b190.out.below ye b190.out.lt)).range 0 _ [] (by simp))⟩ (fun _ => ?_)
              clear hK KC
              refine wpAnyH_done (by kernel_rfl) ?_ _
              go_wp2_with fail
              go_meet
              case rel => exact ⟨gd, T194_4, rfl, hT194_4, hb3, ye, hgl⟩
            · skip
              go_simp
              obtain ⟨gd, hgd⟩ : ∃ v, v = v1.heap.size := ⟨_, rfl⟩
              have hgl : X182.heap.size ≤ gd := by rw [hgd]; exact y1.size
              have M4 : Hid (Blk (v1.alloc (.cells z32.toArray 49)) gd 49 z32) := Blk.newAt _ _ _ _ _ hgd rfl
              have y4 : Below X182.heap.size X182 (v1.alloc (.cells z32.toArray 49)) := y1.alloc y1.size _
              obtain ⟨v4, hv4⟩ : ∃ v, v = (v1.alloc (.cells z32.toArray 49)) := ⟨_, rfl⟩
              first | rw [← z32_arr, ← hgd, ← hv4] | rw [← hgd, ← hv4]
              rw [← hv4] at y4 M4
              refine hK _ _ ⟨(((b186.out.below y4 b186.out.lt)).range 0 _ [] (by simp)), (((b188.out.below y4 b188.out.lt)).range 0 _ [] (by simp)), (((b190.out.below y4 b190.out.lt)).range 0 _ [] (by simp))⟩ (fun _ => ?_)
              clear hK KC hgd hv4
              refine wpAnyH_ready (rs := [4]) (by kernel_rfl) (by simp) ?_
              refine AllReadyH.cons rfl (fun KC hK => ?_) AllReadyH.nil
              go_simp
              refine (CM.out _ _ _ _ _ _ hT194_2 h137 hr196).mono ?_
              rintro e v5 ⟨T194_4, rfl, lT5, zc5⟩
              have hT194_4 := Lib.hid lT5
              have y5 := y4.trans (zc5.mono y4.size)
              have M5 : Hid (Blk v5 gd 49 z32) := M4.out.below zc5 M4.out.lt
              refine hK _ _ ⟨(((b186.out.below y5 b186.out.lt)).range 0 _ [] (by simp)), (((b188.out.below y5 b188.out.lt)).range 0 _ [] (by simp)), (((b190.out.below y5 b190.out.lt)).range 0 _ [] (by simp))⟩ (fun _ => ?_)
              clear hK KC lT5
              refine wpAnyH_ready (rs := [6]) (by kernel_rfl) (by simp) ?_
              refine AllReadyH.cons rfl (fun KC hK => ?_) AllReadyH.nil
              refine step_store_blk rfl 49 (.tmp 17) (.tmp 66) rfl gd T194_4.toArray rfl rfl 49 z32 M5.out (by rw [List.size_toArray, hT194_4.out.len]; kernel_rfl) (by rw [List.size_toArray, hT194_4.out.len, z32_len]) hT194_4.out.one ?_
              intro w3 hb3 ho3
              have ye : Below X182.heap.size X182 w3 := y5.trans (ho3.below y5.size hgl)
              refine hK _ _ ⟨(((b186.out.below ye b186.out.lt)).range 0 _ [] (by simp)), (((b188.out.below ye b188.out.lt)).range 0 _ [] (by simp)), (((b190.out.below ye b190.out.lt)).range 0 _ [] (by simp))⟩ (fun _ => ?_)
              clear hK KC
              refine wpAnyH_done (by kernel_rfl) ?_ _
              go_wp2_with fail
              go_meet
              case rel => exact ⟨gd, T194_4, rfl, hT194_4, hb3, ye, hgl⟩
          · skip
            go_simp
            obtain ⟨gd, hgd⟩ : ∃ v, v = X182.heap.size := ⟨_, rfl⟩
            have hgl : X182.heap.size ≤ gd := by rw [hgd]; exact y0.size
            have M6 : Hid (Blk (X182.alloc (.cells z32.toArray 49)).drew gd 49 z32) := Blk.newAt _ _ _ _ _ hgd rfl
            have y6 : Below X182.heap.size X182 (X182.alloc (.cells z32.toArray 49)).drew := drewN_below ((Below.refl _ _).alloc (Nat.le_refl _) _) 1
            obtain ⟨v6, hv6⟩ : ∃ v, v = (X182.alloc (.cells z32.toArray 49)).drew := ⟨_, rfl⟩
            first | rw [← z32_arr, ← hgd, ← hv6] | rw [← hgd, ← hv6]
            rw [← hv6] at y6 M6
            refine hK _ _ ⟨(((b186.out.below y6 b186.out.lt)).range 0 _ [] (by simp)), (((b188.out.below y6 b188.out.lt)).range 0 _ [] (by simp)), (((b190.out.below y6 b190.out.lt)).range 0 _ [] (by simp))⟩ (fun _ => ?_)
            clear hK KC hgd hv6
            refine wpAnyH_ready (rs := [2]) (by kernel_rfl) (by simp) ?_
            refine AllReadyH.cons rfl (fun KC hK => ?_) AllReadyH.nil
            go_simp
            refine (CA.out _ _ _ _ _ _ fx2 fz2 hr195).mono ?_
            rintro e v7 ⟨T194_2, rfl, lT7, zc7⟩
            have hT194_2 := Lib.hid lT7
            have y7 := y6.trans (zc7.mono y6.size)
            have M7 : Hid (Blk v7 gd 49 z32) := M6.out.below zc7 M6.out.lt
            refine hK _ _ ⟨(((b186.out.below y7 b186.out.lt)).range 0 _ [] (by simp)), (((b188.out.below y7 b188.out.lt)).range 0 _ [] (by simp)), (((b190.out.below y7 b190.out.lt)).range 0 _ [] (by simp))⟩ (fun _ => ?_)
            clear hK KC lT7
            refine wpAnyH_ready (rs := [4]) (by kernel_rfl) (by simp) ?_
            refine AllReadyH.cons rfl (fun KC hK => ?_) AllReadyH.nil
            go_simp
            refine (CM.out _ _ _ _ _ _ hT194_2 h137 hr196).mono ?_
            rintro e v8 ⟨T194_4, rfl, lT8, zc8⟩
            have hT194_4 := Lib.hid lT8
            have y8 := y7.trans (zc8.mono y7.size)
            have M8 : Hid (Blk v8 gd 49 z32) := M7.out.below zc8 M7.out.lt
            refine hK _ _ ⟨(((b186.out.below y8 b186.out.lt)).range 0 _ [] (by simp)), (((b188.out.below y8 b188.out.lt)).range 0 _ [] (by simp)), (((b190.out.below y8 b190.out.lt)).range 0 _ [] (by simp))⟩ (fun _ => ?_)
            clear hK KC lT8
            refine wpAnyH_ready (rs := [6]) (by kernel_rfl) (by simp) ?_
            refine AllReadyH.cons rfl (fun KC hK => ?_) AllReadyH.nil
            refine step_store_blk rfl 49 (.tmp 17) (.tmp 66) rfl gd T194_4.toArray rfl rfl 49 z32 M8.out (by rw [List.size_toArray, hT194_4.out.len]; kernel_rfl) (by rw [List.size_toArray, hT194_4.out.len, z32_len]) hT194_4.out.one ?_
            intro w3 hb3 ho3
            have ye : Below X182.heap.size X182 w3 := y8.trans (ho3.below y8.size hgl)
            refine hK _ _ ⟨(((b186.out.below ye b186.out.lt)).range 0 _ [] (by simp)), (((b188.out.below ye b188.out.lt)).range 0 _ [] (by simp)), (((b190.out.below ye b190.out.lt)).range 0 _ [] (by simp))⟩ (fun _ => ?_)
            clear hK KC
            refine wpAnyH_done (by kernel_rfl) ?_ _
            go_wp2_with fail
            go_meet
            case rel => exact ⟨gd, T194_4, rfl, hT194_4, hb3, ye, hgl⟩
        case rest =>
        obtain ⟨g197, L197, rfl, h197, N197, U197, G197⟩ := hcut
        obtain ⟨X197, rfl⟩ : ∃ x, x = wc := ⟨_, rfl⟩
        have KK197 : Hid (Below w.heap.size w X197) := KK182.out.trans (U197.out.mono KK182.out.size)
        have C197 : Hid (g182 < g197) := Nat.lt_of_lt_of_le N182.out.lt G197.out
        have b198 : Hid (Blk X197 g 49 UL) := b183.out.below U197.out b183.out.lt
        clear b183
        have b199 : Hid (Blk X197 (g + 1) 49 z32) := b184.out.below U197.out b184.out.lt
        clear b184
        have b200 : Hid (Blk X197 g1 49 A3) := b185.out.below U197.out b185.out.lt
        clear b185
        have b201 : Hid (Blk X197 g8 49 A2) := b186.out.below U197.out b186.out.lt
        clear b186
        have b202 : Hid (Blk X197 g4 49 C3) := b187.out.below U197.out b187.out.lt
        clear b187
        have b203 : Hid (Blk X197 g13 49 C2) := b188.out.below U197.out b188.out.lt
        clear b188
        have b204 : Hid (Blk X197 g129 49 L129) := b189.out.below U197.out b189.out.lt
        clear b189
        have b205 : Hid (Blk X197 g137 49 L137) := b190.out.below U197.out b190.out.lt
        clear b190
        have b206 : Hid (Blk X197 g146 49 L146) := b191.out.below U197.out b191.out.lt
        clear b191
        have b207 : Hid (Blk X197 g156 49 L156) := b192.out.below U197.out b192.out.lt
        clear b192
        have b208 : Hid (Blk X197 g167 49 L167) := b193.out.below U197.out b193.out.lt
        clear b193
        have b209 : Hid (Blk X197 g182 49 L182) := N182.out.below U197.out N182.out.lt
        clear N182
        clear U197 G197 KK182
        obtain ⟨r211, hr211⟩ : ∃ r, Hid ((r181 + r196) % q = r) := ⟨(r181 + r196) % q, rfl⟩
        have ltr211 : Hid (r211 < q) := by rw [← hr211.out]; exact Nat.mod_lt _ HQ0.out
        obtain ⟨r212, hr212⟩ : ∃ r, Hid (r211 * r211 % q = r) := ⟨r211 * r211 % q, rfl⟩
        have ltr212 : Hid (r212 < q) := by rw [← hr212.out]; exact Nat.mod_lt _ HQ0.out
        go_upto_region 19 with fail
        refine wp_region_any (by kernel_rfl) ?_
        change wpAny _ _ _ _ _ _ _ (World.drew _)
        refine wpAny_of_held (S := fun w' => w'.rangeAt g182 0 L182 ∧ w'.rangeAt g197 0 L197) _ _ _ _ ?_
        have y0 : Below X197.heap.size X197 X197.drew := below_draws X197 1
        refine wpAnyH_take_at (i := 0) (v := .agg L182.toArray) rfl rfl (by kernel_rfl) (by kernel_rfl) (by kernel_rfl) (fun _ _ _ h => h) (yieldsIf_load_mid (by rfl) 49 (.tmp 16) rfl g182 0 rfl L182 _ (fun w h => h.1) Try.underlying49 rfl (by rw [h182.out.len]; kernel_rfl)) ⟨(((b209.out.below y0 b209.out.lt)).range 0 _ [] (by simp)), (((N197.out.below y0 N197.out.lt)).range 0 _ [] (by simp))⟩ ?_
        simp only [List.setIfInBounds_toArray, List.set_cons_zero, List.set_cons_succ]
        refine wpAnyH_take_at (i := 1) (v := .agg L197.toArray) rfl rfl (by kernel_rfl) (by kernel_rfl) (by kernel_rfl) (fun _ _ _ h => h) (yieldsIf_load_mid (by rfl) 49 (.tmp 17) rfl g197 0 rfl L197 _ (fun w h => h.2) Try.underlying49 rfl (by rw [h197.out.len]; kernel_rfl)) ⟨(((b209.out.below y0 b209.out.lt)).range 0 _ [] (by simp)), (((N197.out.below y0 N197.out.lt)).range 0 _ [] (by simp))⟩ ?_
        simp only [List.setIfInBounds_toArray, List.set_cons_zero, List.set_cons_succ]
        refine wpAnyH_take_at (i := 3) (v := .agg L182.toArray) rfl rfl (by kernel_rfl) (by kernel_rfl) (by kernel_rfl) (fun _ _ _ h => h) (yieldsIf_load_mid (by rfl) 49 (.tmp 16) rfl g182 0 rfl L182 _ (fun w h => h.1) Try.underlying49 rfl (by rw [h182.out.len]; kernel_rfl)) ⟨(((b209.out.below y0 b209.out.lt)).range 0 _ [] (by simp)), (((N197.out.below y0 N197.out.lt)).range 0 _ [] (by simp))⟩ ?_
        simp only [List.setIfInBounds_toArray, List.set_cons_zero, List.set_cons_succ]
        refine wpAnyH_take_at (i := 4) (v := .agg L197.toArray) rfl rfl (by kernel_rfl) (by kernel_rfl) (by kernel_rfl) (fun _ _ _ h => h) (yieldsIf_load_mid (by rfl) 49 (.tmp 17) rfl g197 0 rfl L197 _ (fun w h => h.2) Try.underlying49 rfl (by rw [h197.out.len]; kernel_rfl)) ⟨(((b209.out.below y0 b209.out.lt)).range 0 _ [] (by simp)), (((N197.out.below y0 N197.out.lt)).range 0 _ [] (by simp))⟩ ?_
        simp only [List.setIfInBounds_toArray, List.set_cons_zero, List.set_cons_succ]
        refine wpAnyH_ready (rs := [2]) (by kernel_rfl) (by simp) ?_
        refine AllReadyH.cons rfl (fun KC hK => ?_) AllReadyH.nil
        go_simp
        refine (CA.out _ _ _ _ _ _ h182 h197 hr211).mono ?_
        rintro e v1 ⟨T210_2, rfl, lT1, zc1⟩
        have hT210_2 := Lib.hid lT1
        have y1 := y0.trans (zc1.mono y0.size)
        refine hK _ _ ⟨(((b209.out.below y1 b209.out.lt)).range 0 _ [] (by simp)), (((N197.out.below y1 N197.out.lt)).range 0 _ [] (by simp))⟩ (fun _ => ?_)
        clear hK KC lT1
        refine wpAnyH_ready (rs := [5]) (by kernel_rfl) (by simp) ?_
        refine AllReadyH.cons rfl (fun KC hK => ?_) AllReadyH.nil
        go_simp
        refine (CA.out _ _ _ _ _ _ h182 h197 hr211).mono ?_
        rintro e v2 ⟨T210_5, rfl, lT2, zc2⟩
        have hT210_5 := Lib.hid lT2
        have y2 := y1.trans (zc2.mono y1.size)
        refine hK _ _ ⟨(((b209.out.below y2 b209.out.lt)).range 0 _ [] (by simp)), (((N197.out.below y2 N197.out.lt)).range 0 _ [] (by simp))⟩ (fun _ => ?_)
        clear hK KC lT2
        refine wpAnyH_ready (rs := [6]) (by kernel_rfl) (by simp) ?_
        refine AllReadyH.cons rfl (fun KC hK => ?_) AllReadyH.nil
        go_simp
        refine (CM.out _ _ _ _ _ _ hT210_2 hT210_5 hr212).mono ?_
        rintro e v3 ⟨T210_6, rfl, lT3, zc3⟩
        have hT210_6 := Lib.hid lT3
        have y3 := y2.trans (zc3.mono y2.size)
        refine hK _ _ ⟨(((b209.out.below y3 b209.out.lt)).range 0 _ [] (by simp)), (((N197.out.below y3 N197.out.lt)).range 0 _ [] (by simp))⟩ (fun _ => ?_)
        clear hK KC lT3
        refine wpAnyH_ready (rs := [7]) (by kernel_rfl) (by simp) ?_
        refine AllReadyH.cons rfl (fun KC hK => ?_) AllReadyH.nil
        refine step_store_blk rfl 49 (.tmp 7) (.tmp 73) rfl g8 T210_6.toArray rfl rfl 49 A2 (b201.out.below y3 b201.out.lt) (by rw [List.size_toArray, hT210_6.out.len]; kernel_rfl) (by rw [List.size_toArray, hT210_6.out.len, fx2.out.len]) hT210_6.out.one ?_
        intro w3 hb3 ho3
        refine hK _ _ ⟨(((b209.out.below y3 b209.out.lt).grown ho3 (by have := HG.out; have := C1.out; have := C4.out; have := C8.out; have := C13.out; have := C129.out; have := C137.out; have := C146.out; have := C156.out; have := C167.out; have := C182.out; have := C197.out; intro e; injection e with e; omega)).range 0 _ [] (by simp)), (((N197.out.below y3 N197.out.lt).grown ho3 (by have := HG.out; have := C1.out; have := C4.out; have := C8.out; have := C13.out; have := C129.out; have := C137.out; have := C146.out; have := C156.out; have := C167.out; have := C182.out; have := C197.out; intro e; injection e with e; omega)).range 0 _ [] (by simp))⟩ (fun _ => ?_)
        clear hK KC
        refine wpAnyH_done (by kernel_rfl) ?_ _
        obtain ⟨X213, rfl⟩ : ∃ x, x = w3 := ⟨_, rfl⟩
        have b214 : Hid (Blk X213 g 49 UL) := (b198.out.below y3 b198.out.lt).grown ho3 (by have := HG.out; have := C1.out; have := C4.out; have := C8.out; have := C13.out; have := C129.out; have := C137.out; have := C146.out; have := C156.out; have := C167.out; have := C182.out; have := C197.out; intro e; injection e with e; omega)
        clear b198
        have b215 : Hid (Blk X213 (g + 1) 49 z32) := (b199.out.below y3 b199.out.lt).grown ho3 (by have := HG.out; have := C1.out; have := C4.out; have := C8.out; have := C13.out; have := C129.out; have := C137.out; have := C146.out; have := C156.out; have := C167.out; have := C182.out; have := C197.out; intro e; injection e with e; omega)
        clear b199
        have b216 : Hid (Blk X213 g1 49 A3) := (b200.out.below y3 b200.out.lt).grown ho3 (by have := HG.out; have := C1.out; have := C4.out; have := C8.out; have := C13.out; have := C129.out; have := C137.out; have := C146.out; have := C156.out; have := C167.out; have := C182.out; have := C197.out; intro e; injection e with e; omega)
        clear b200
        have b217 : Hid (Blk X213 g4 49 C3) := (b202.out.below y3 b202.out.lt).grown ho3 (by have := HG.out; have := C1.out; have := C4.out; have := C8.out; have := C13.out; have := C129.out; have := C137.out; have := C146.out; have := C156.out; have := C167.out; have := C182.out; have := C197.out; intro e; injection e with e; omega)
        clear b202
        have b218 : Hid (Blk X213 g13 49 C2) := (b203.out.below y3 b203.out.lt).grown ho3 (by have := HG.out; have := C1.out; have := C4.out; have := C8.out; have := C13.out; have := C129.out; have := C137.out; have := C146.out; have := C156.out; have := C167.out; have := C182.out; have := C197.out; intro e; injection e with e; omega)
        clear b203
        have b219 : Hid (Blk X213 g129 49 L129) := (b204.out.below y3 b204.out.lt).grown ho3 (by have := HG.out; have := C1.out; have := C4.out; have := C8.out; have := C13.out; have := C129.out; have := C137.out; have := C146.out; have := C156.out; have := C167.out; have := C182.out; have := C197.out; intro e; injection e with e; omega)
        clear b204
        have b220 : Hid (Blk X213 g137 49 L137) := (b205.out.below y3 b205.out.lt).grown ho3 (by have := HG.out; have := C1.out; have := C4.out; have := C8.out; have := C13.out; have := C129.out; have := C137.out; have := C146.out; have := C156.out; have := C167.out; have := C182.out; have := C197.out; intro e; injection e with e; omega)
        clear b205
        have b221 : Hid (Blk X213 g146 49 L146) := (b206.out.below y3 b206.out.lt).grown ho3 (by have := HG.out; have := C1.out; have := C4.out; have := C8.out; have := C13.out; have := C129.out; have := C137.out; have := C146.out; have := C156.out; have := C167.out; have := C182.out; have := C197.out; intro e; injection e with e; omega)
        clear b206
        have b222 : Hid (Blk X213 g156 49 L156) := (b207.out.below y3 b207.out.lt).grown ho3 (by have := HG.out; have := C1.out; have := C4.out; have := C8.out; have := C13.out; have := C129.out; have := C137.out; have := C146.out; have := C156.out; have := C167.out; have := C182.out; have := C197.out; intro e; injection e with e; omega)
        clear b207
        have b223 : Hid (Blk X213 g167 49 L167) := (b208.out.below y3 b208.out.lt).grown ho3 (by have := HG.out; have := C1.out; have := C4.out; have := C8.out; have := C13.out; have := C129.out; have := C137.out; have := C146.out; have := C156.out; have := C167.out; have := C182.out; have := C197.out; intro e; injection e with e; omega)
        clear b208
        have b224 : Hid (Blk X213 g182 49 L182) := (b209.out.below y3 b209.out.lt).grown ho3 (by have := HG.out; have := C1.out; have := C4.out; have := C8.out; have := C13.out; have := C129.out; have := C137.out; have := C146.out; have := C156.out; have := C167.out; have := C182.out; have := C197.out; intro e; injection e with e; omega)
        clear b209
        have b225 : Hid (Blk X213 g197 49 L197) := (N197.out.below y3 N197.out.lt).grown ho3 (by have := HG.out; have := C1.out; have := C4.out; have := C8.out; have := C13.out; have := C129.out; have := C137.out; have := C146.out; have := C156.out; have := C167.out; have := C182.out; have := C197.out; intro e; injection e with e; omega)
        clear N197
        have Q213 : Hid (Blk X213 g8 49 T210_6) := hb3
        have KK213 : Hid (Below w.heap.size w X213) := by
          have h1 := KK197.out.trans (y3.mono KK197.out.size)
          exact h1.trans (ho3.below h1.size (by have := HG.out; have := C1.out; have := C4.out; have := C8.out; have := C13.out; have := C129.out; have := C137.out; have := C146.out; have := C156.out; have := C167.out; have := C182.out; have := C197.out; omega))
        have h213 := hT210_6
        clear b201 KK197 hb3 ho3 y0 y1 y2 y3
        obtain ⟨r227, hr227⟩ : ∃ r, Hid ((r181 + (q - r196)) % q = r) := ⟨(r181 + (q - r196)) % q, rfl⟩
        have ltr227 : Hid (r227 < q) := by rw [← hr227.out]; exact Nat.mod_lt _ HQ0.out
        obtain ⟨r228, hr228⟩ : ∃ r, Hid (r227 * r227 % q = r) := ⟨r227 * r227 % q, rfl⟩
        have ltr228 : Hid (r228 < q) := by rw [← hr228.out]; exact Nat.mod_lt _ HQ0.out
        obtain ⟨r229, hr229⟩ : ∃ r, Hid (u * r228 % q = r) := ⟨u * r228 % q, rfl⟩
        have ltr229 : Hid (r229 < q) := by rw [← hr229.out]; exact Nat.mod_lt _ HQ0.out
        go_upto_region 20 with fail
        refine wp_region_any (by kernel_rfl) ?_
        change wpAny _ _ _ _ _ _ _ (World.drew _)
        refine wpAny_of_held (S := fun w' => w'.rangeAt g 0 UL ∧ w'.rangeAt g182 0 L182 ∧ w'.rangeAt g197 0 L197) _ _ _ _ ?_
        have y0 : Below X213.heap.size X213 X213.drew := below_draws X213 1
        refine wpAnyH_take_at (i := 0) (v := .agg UL.toArray) rfl rfl (by kernel_rfl) (by kernel_rfl) (by kernel_rfl) (fun _ _ _ h => h) (yieldsIf_load_mid (by rfl) 49 (.tmp 3) rfl g 0 rfl UL _ (fun w h => h.1) Try.underlying49 rfl (by rw [HUL.out.len]; kernel_rfl)) ⟨(((b214.out.below y0 b214.out.lt)).range 0 _ [] (by simp)), (((b224.out.below y0 b224.out.lt)).range 0 _ [] (by simp)), (((b225.out.below y0 b225.out.lt)).range 0 _ [] (by simp))⟩ ?_
        simp only [List.setIfInBounds_toArray, List.set_cons_zero, List.set_cons_succ]
        refine wpAnyH_take_at (i := 1) (v := .agg L182.toArray) rfl rfl (by kernel_rfl) (by kernel_rfl) (by kernel_rfl) (fun _ _ _ h => h) (yieldsIf_load_mid (by rfl) 49 (.tmp 16) rfl g182 0 rfl L182 _ (fun w h => h.2.1) Try.underlying49 rfl (by rw [h182.out.len]; kernel_rfl)) ⟨(((b214.out.below y0 b214.out.lt)).range 0 _ [] (by simp)), (((b224.out.below y0 b224.out.lt)).range 0 _ [] (by simp)), (((b225.out.below y0 b225.out.lt)).range 0 _ [] (by simp))⟩ ?_
        simp only [List.setIfInBounds_toArray, List.set_cons_zero, List.set_cons_succ]
        refine wpAnyH_take_at (i := 2) (v := .agg L197.toArray) rfl rfl (by kernel_rfl) (by kernel_rfl) (by kernel_rfl) (fun _ _ _ h => h) (yieldsIf_load_mid (by rfl) 49 (.tmp 17) rfl g197 0 rfl L197 _ (fun w h => h.2.2) Try.underlying49 rfl (by rw [h197.out.len]; kernel_rfl)) ⟨(((b214.out.below y0 b214.out.lt)).range 0 _ [] (by simp)), (((b224.out.below y0 b224.out.lt)).range 0 _ [] (by simp)), (((b225.out.below y0 b225.out.lt)).range 0 _ [] (by simp))⟩ ?_
        simp only [List.setIfInBounds_toArray, List.set_cons_zero, List.set_cons_succ]
        refine wpAnyH_take_at (i := 4) (v := .agg L182.toArray) rfl rfl (by kernel_rfl) (by kernel_rfl) (by kernel_rfl) (fun _ _ _ h => h) (yieldsIf_load_mid (by rfl) 49 (.tmp 16) rfl g182 0 rfl L182 _ (fun w h => h.2.1) Try.underlying49 rfl (by rw [h182.out.len]; kernel_rfl)) ⟨(((b214.out.below y0 b214.out.lt)).range 0 _ [] (by simp)), (((b224.out.below y0 b224.out.lt)).range 0 _ [] (by simp)), (((b225.out.below y0 b225.out.lt)).range 0 _ [] (by simp))⟩ ?_
        simp only [List.setIfInBounds_toArray, List.set_cons_zero, List.set_cons_succ]
        refine wpAnyH_take_at (i := 5) (v := .agg L197.toArray) rfl rfl (by kernel_rfl) (by kernel_rfl) (by kernel_rfl) (fun _ _ _ h => h) (yieldsIf_load_mid (by rfl) 49 (.tmp 17) rfl g197 0 rfl L197 _ (fun w h => h.2.2) Try.underlying49 rfl (by rw [h197.out.len]; kernel_rfl)) ⟨(((b214.out.below y0 b214.out.lt)).range 0 _ [] (by simp)), (((b224.out.below y0 b224.out.lt)).range 0 _ [] (by simp)), (((b225.out.below y0 b225.out.lt)).range 0 _ [] (by simp))⟩ ?_
        simp only [List.setIfInBounds_toArray, List.set_cons_zero, List.set_cons_succ]
        refine wpAnyH_ready (rs := [3]) (by kernel_rfl) (by simp) ?_
        refine AllReadyH.cons rfl (fun KC hK => ?_) AllReadyH.nil
        go_simp
        refine (CB.out _ _ _ _ _ _ h182 h197 ltr196 hr227).mono ?_
        rintro e v1 ⟨T226_3, rfl, lT1, zc1⟩
        have hT226_3 := Lib.hid lT1
        have y1 := y0.trans (zc1.mono y0.size)
        refine hK _ _ ⟨(((b214.out.below y1 b214.out.lt)).range 0 _ [] (by simp)), (((b224.out.below y1 b224.out.lt)).range 0 _ [] (by simp)), (((b225.out.below y1 b225.out.lt)).range 0 _ [] (by simp))⟩ (fun _ => ?_)
        clear hK KC lT1
        refine wpAnyH_ready (rs := [6]) (by kernel_rfl) (by simp) ?_
        refine AllReadyH.cons rfl (fun KC hK => ?_) AllReadyH.nil
        go_simp
        refine (CB.out _ _ _ _ _ _ h182 h197 ltr196 hr227).mono ?_
        rintro e v2 ⟨T226_6, rfl, lT2, zc2⟩
        have hT226_6 := Lib.hid lT2
        have y2 := y1.trans (zc2.mono y1.size)
        refine hK _ _ ⟨(((b214.out.below y2 b214.out.lt)).range 0 _ [] (by simp)), (((b224.out.below y2 b224.out.lt)).range 0 _ [] (by simp)), (((b225.out.below y2 b225.out.lt)).range 0 _ [] (by simp))⟩ (fun _ => ?_)
        clear hK KC lT2
        refine wpAnyH_ready (rs := [7]) (by kernel_rfl) (by simp) ?_
        refine AllReadyH.cons rfl (fun KC hK => ?_) AllReadyH.nil
        go_simp
        refine (CM.out _ _ _ _ _ _ hT226_3 hT226_6 hr228).mono ?_
        rintro e v3 ⟨T226_7, rfl, lT3, zc3⟩
        have hT226_7 := Lib.hid lT3
        have y3 := y2.trans (zc3.mono y2.size)
        refine hK _ _ ⟨(((b214.out.below y3 b214.out.lt)).range 0 _ [] (by simp)), (((b224.out.below y3 b224.out.lt)).range 0 _ [] (by simp)), (((b225.out.below y3 b225.out.lt)).range 0 _ [] (by simp))⟩ (fun _ => ?_)
        clear hK KC lT3
        refine wpAnyH_ready (rs := [8]) (by kernel_rfl) (by simp) ?_
        refine AllReadyH.cons rfl (fun KC hK => ?_) AllReadyH.nil
        go_simp
        refine (CM.out _ _ _ _ _ _ HUL hT226_7 hr229).mono ?_
        rintro e v4 ⟨T226_8, rfl, lT4, zc4⟩
        have hT226_8 := Lib.hid lT4
        have y4 := y3.trans (zc4.mono y3.size)
        refine hK _ _ ⟨(((b214.out.below y4 b214.out.lt)).range 0 _ [] (by simp)), (((b224.out.below y4 b224.out.lt)).range 0 _ [] (by simp)), (((b225.out.below y4 b225.out.lt)).range 0 _ [] (by simp))⟩ (fun _ => ?_)
        clear hK KC lT4
        refine wpAnyH_ready (rs := [9]) (by kernel_rfl) (by simp) ?_
        refine AllReadyH.cons rfl (fun KC hK => ?_) AllReadyH.nil
        refine step_store_blk rfl 49 (.tmp 8) (.tmp 82) rfl g13 T226_8.toArray rfl rfl 49 C2 (b218.out.below y4 b218.out.lt) (by rw [List.size_toArray, hT226_8.out.len]; kernel_rfl) (by rw [List.size_toArray, hT226_8.out.len, fz2.out.len]) hT226_8.out.one ?_
        intro w3 hb3 ho3
        refine hK _ _ ⟨(((b214.out.below y4 b214.out.lt).grown ho3 (by have := HG.out; have := C1.out; have := C4.out; have := C8.out; have := C13.out; have := C129.out; have := C137.out; have := C146.out; have := C156.out; have := C167.out; have := C182.out; have := C197.out; intro e; injection e with e; omega)).range 0 _ [] (by simp)), (((b224.out.below y4 b224.out.lt).grown ho3 (by have := HG.out; have := C1.out; have := C4.out; have := C8.out; have := C13.out; have := C129.out; have := C137.out; have := C146.out; have := C156.out; have := C167.out; have := C182.out; have := C197.out; intro e; injection e with e; omega)).range 0 _ [] (by simp)), (((b225.out.below y4 b225.out.lt).grown ho3 (by have := HG.out; have := C1.out; have := C4.out; have := C8.out; have := C13.out; have := C129.out; have := C137.out; have := C146.out; have := C156.out; have := C167.out; have := C182.out; have := C197.out; intro e; injection e with e; omega)).range 0 _ [] (by simp))⟩ (fun _ => ?_)
        clear hK KC
        refine wpAnyH_done (by kernel_rfl) ?_ _
        obtain ⟨X230, rfl⟩ : ∃ x, x = w3 := ⟨_, rfl⟩
        have b231 : Hid (Blk X230 g 49 UL) := (b214.out.below y4 b214.out.lt).grown ho3 (by have := HG.out; have := C1.out; have := C4.out; have := C8.out; have := C13.out; have := C129.out; have := C137.out; have := C146.out; have := C156.out; have := C167.out; have := C182.out; have := C197.out; intro e; injection e with e; omega)
        clear b214
        have b232 : Hid (Blk X230 (g + 1) 49 z32) := (b215.out.below y4 b215.out.lt).grown ho3 (by have := HG.out; have := C1.out; have := C4.out; have := C8.out; have := C13.out; have := C129.out; have := C137.out; have := C146.out; have := C156.out; have := C167.out; have := C182.out; have := C197.out; intro e; injection e with e; omega)
        clear b215
        have b233 : Hid (Blk X230 g1 49 A3) := (b216.out.below y4 b216.out.lt).grown ho3 (by have := HG.out; have := C1.out; have := C4.out; have := C8.out; have := C13.out; have := C129.out; have := C137.out; have := C146.out; have := C156.out; have := C167.out; have := C182.out; have := C197.out; intro e; injection e with e; omega)
        clear b216
        have b234 : Hid (Blk X230 g4 49 C3) := (b217.out.below y4 b217.out.lt).grown ho3 (by have := HG.out; have := C1.out; have := C4.out; have := C8.out; have := C13.out; have := C129.out; have := C137.out; have := C146.out; have := C156.out; have := C167.out; have := C182.out; have := C197.out; intro e; injection e with e; omega)
        clear b217
        have b235 : Hid (Blk X230 g129 49 L129) := (b219.out.below y4 b219.out.lt).grown ho3 (by have := HG.out; have := C1.out; have := C4.out; have := C8.out; have := C13.out; have := C129.out; have := C137.out; have := C146.out; have := C156.out; have := C167.out; have := C182.out; have := C197.out; intro e; injection e with e; omega)
        clear b219
        have b236 : Hid (Blk X230 g137 49 L137) := (b220.out.below y4 b220.out.lt).grown ho3 (by have := HG.out; have := C1.out; have := C4.out; have := C8.out; have := C13.out; have := C129.out; have := C137.out; have := C146.out; have := C156.out; have := C167.out; have := C182.out; have := C197.out; intro e; injection e with e; omega)
        clear b220
        have b237 : Hid (Blk X230 g146 49 L146) := (b221.out.below y4 b221.out.lt).grown ho3 (by have := HG.out; have := C1.out; have := C4.out; have := C8.out; have := C13.out; have := C129.out; have := C137.out; have := C146.out; have := C156.out; have := C167.out; have := C182.out; have := C197.out; intro e; injection e with e; omega)
        clear b221
        have b238 : Hid (Blk X230 g156 49 L156) := (b222.out.below y4 b222.out.lt).grown ho3 (by have := HG.out; have := C1.out; have := C4.out; have := C8.out; have := C13.out; have := C129.out; have := C137.out; have := C146.out; have := C156.out; have := C167.out; have := C182.out; have := C197.out; intro e; injection e with e; omega)
        clear b222
        have b239 : Hid (Blk X230 g167 49 L167) := (b223.out.below y4 b223.out.lt).grown ho3 (by have := HG.out; have := C1.out; have := C4.out; have := C8.out; have := C13.out; have := C129.out; have := C137.out; have := C146.out; have := C156.out; have := C167.out; have := C182.out; have := C197.out; intro e; injection e with e; omega)
        clear b223
        have b240 : Hid (Blk X230 g182 49 L182) := (b224.out.below y4 b224.out.lt).grown ho3 (by have := HG.out; have := C1.out; have := C4.out; have := C8.out; have := C13.out; have := C129.out; have := C137.out; have := C146.out; have := C156.out; have := C167.out; have := C182.out; have := C197.out; intro e; injection e with e; omega)
        clear b224
        have b241 : Hid (Blk X230 g197 49 L197) := (b225.out.below y4 b225.out.lt).grown ho3 (by have := HG.out; have := C1.out; have := C4.out; have := C8.out; have := C13.out; have := C129.out; have := C137.out; have := C146.out; have := C156.out; have := C167.out; have := C182.out; have := C197.out; intro e; injection e with e; omega)
        clear b225
        have b242 : Hid (Blk X230 g8 49 T210_6) := (Q213.out.below y4 Q213.out.lt).grown ho3 (by have := HG.out; have := C1.out; have := C4.out; have := C8.out; have := C13.out; have := C129.out; have := C137.out; have := C146.out; have := C156.out; have := C167.out; have := C182.out; have := C197.out; intro e; injection e with e; omega)
        clear Q213
        have Q230 : Hid (Blk X230 g13 49 T226_8) := hb3
        have KK230 : Hid (Below w.heap.size w X230) := by
          have h1 := KK213.out.trans (y4.mono KK213.out.size)
          exact h1.trans (ho3.below h1.size (by have := HG.out; have := C1.out; have := C4.out; have := C8.out; have := C13.out; have := C129.out; have := C137.out; have := C146.out; have := C156.out; have := C167.out; have := C182.out; have := C197.out; omega))
        have h230 := hT226_8
        clear b218 KK213 hb3 ho3 y0 y1 y2 y3 y4
        obtain ⟨r243, hr243⟩ : ∃ r, Hid (r147 * r157 % q = r) := ⟨r147 * r157 % q, rfl⟩
        have ltr243 : Hid (r243 < q) := by rw [← hr243.out]; exact Nat.mod_lt _ HQ0.out
        go_wp2_with (first | (refine wpList_load_num rfl (.tmp 13) rfl g146 rfl L146 b237.out h146.out.len ?_) | (refine wpList_load_num rfl (.tmp 14) rfl g156 rfl L156 b238.out h156.out.len ?_))
        refine (CM.out _ _ _ _ _ _ h146 h156 hr243).mono ?_
        rintro e w244 ⟨L244, rfl, l244, k244⟩
        have h244 := Lib.hid l244
        have b245 : Hid (Blk w244 g 49 UL) := b231.out.below k244 b231.out.lt
        clear b231
        have b246 : Hid (Blk w244 (g + 1) 49 z32) := b232.out.below k244 b232.out.lt
        clear b232
        have b247 : Hid (Blk w244 g1 49 A3) := b233.out.below k244 b233.out.lt
        clear b233
        have b248 : Hid (Blk w244 g4 49 C3) := b234.out.below k244 b234.out.lt
        clear b234
        have b249 : Hid (Blk w244 g129 49 L129) := b235.out.below k244 b235.out.lt
        clear b235
        have b250 : Hid (Blk w244 g137 49 L137) := b236.out.below k244 b236.out.lt
        clear b236
        have b251 : Hid (Blk w244 g146 49 L146) := b237.out.below k244 b237.out.lt
        clear b237
        have b252 : Hid (Blk w244 g156 49 L156) := b238.out.below k244 b238.out.lt
        clear b238
        have b253 : Hid (Blk w244 g167 49 L167) := b239.out.below k244 b239.out.lt
        clear b239
        have b254 : Hid (Blk w244 g182 49 L182) := b240.out.below k244 b240.out.lt
        clear b240
        have b255 : Hid (Blk w244 g197 49 L197) := b241.out.below k244 b241.out.lt
        clear b241
        have b256 : Hid (Blk w244 g8 49 T210_6) := b242.out.below k244 b242.out.lt
        clear b242
        have b257 : Hid (Blk w244 g13 49 T226_8) := Q230.out.below k244 Q230.out.lt
        clear Q230
        have KK244 : Hid (Below w.heap.size w w244) := KK230.out.trans (k244.mono KK230.out.size)
        clear l244 k244 KK230
        go_upto_region 22 with (refine wpList_store_num rfl rfl (.tmp 5) (.tmp 85) rfl g1 rfl L244 A3 rfl b247.out fx3.out.len h244.out.len h244.out.one ?_; intro X258 hb258 ho258)
        have b259 : Hid (Blk X258 g 49 UL) := b245.out.grown ho258 (by have := HG.out; have := C1.out; have := C4.out; have := C8.out; have := C13.out; have := C129.out; have := C137.out; have := C146.out; have := C156.out; have := C167.out; have := C182.out; have := C197.out; intro e; injection e with e; omega)
        clear b245
        have b260 : Hid (Blk X258 (g + 1) 49 z32) := b246.out.grown ho258 (by have := HG.out; have := C1.out; have := C4.out; have := C8.out; have := C13.out; have := C129.out; have := C137.out; have := C146.out; have := C156.out; have := C167.out; have := C182.out; have := C197.out; intro e; injection e with e; omega)
        clear b246
        have b261 : Hid (Blk X258 g4 49 C3) := b248.out.grown ho258 (by have := HG.out; have := C1.out; have := C4.out; have := C8.out; have := C13.out; have := C129.out; have := C137.out; have := C146.out; have := C156.out; have := C167.out; have := C182.out; have := C197.out; intro e; injection e with e; omega)
        clear b248
        have b262 : Hid (Blk X258 g129 49 L129) := b249.out.grown ho258 (by have := HG.out; have := C1.out; have := C4.out; have := C8.out; have := C13.out; have := C129.out; have := C137.out; have := C146.out; have := C156.out; have := C167.out; have := C182.out; have := C197.out; intro e; injection e with e; omega)
        clear b249
        have b263 : Hid (Blk X258 g137 49 L137) := b250.out.grown ho258 (by have := HG.out; have := C1.out; have := C4.out; have := C8.out; have := C13.out; have := C129.out; have := C137.out; have := C146.out; have := C156.out; have := C167.out; have := C182.out; have := C197.out; intro e; injection e with e; omega)
        clear b250
        have b264 : Hid (Blk X258 g146 49 L146) := b251.out.grown ho258 (by have := HG.out; have := C1.out; have := C4.out; have := C8.out; have := C13.out; have := C129.out; have := C137.out; have := C146.out; have := C156.out; have := C167.out; have := C182.out; have := C197.out; intro e; injection e with e; omega)
        clear b251
        have b265 : Hid (Blk X258 g156 49 L156) := b252.out.grown ho258 (by have := HG.out; have := C1.out; have := C4.out; have := C8.out; have := C13.out; have := C129.out; have := C137.out; have := C146.out; have := C156.out; have := C167.out; have := C182.out; have := C197.out; intro e; injection e with e; omega)
        clear b252
        have b266 : Hid (Blk X258 g167 49 L167) := b253.out.grown ho258 (by have := HG.out; have := C1.out; have := C4.out; have := C8.out; have := C13.out; have := C129.out; have := C137.out; have := C146.out; have := C156.out; have := C167.out; have := C182.out; have := C197.out; intro e; injection e with e; omega)
        clear b253
        have b267 : Hid (Blk X258 g182 49 L182) := b254.out.grown ho258 (by have := HG.out; have := C1.out; have := C4.out; have := C8.out; have := C13.out; have := C129.out; have := C137.out; have := C146.out; have := C156.out; have := C167.out; have := C182.out; have := C197.out; intro e; injection e with e; omega)
        clear b254
        have b268 : Hid (Blk X258 g197 49 L197) := b255.out.grown ho258 (by have := HG.out; have := C1.out; have := C4.out; have := C8.out; have := C13.out; have := C129.out; have := C137.out; have := C146.out; have := C156.out; have := C167.out; have := C182.out; have := C197.out; intro e; injection e with e; omega)
        clear b255
        have b269 : Hid (Blk X258 g8 49 T210_6) := b256.out.grown ho258 (by have := HG.out; have := C1.out; have := C4.out; have := C8.out; have := C13.out; have := C129.out; have := C137.out; have := C146.out; have := C156.out; have := C167.out; have := C182.out; have := C197.out; intro e; injection e with e; omega)
        clear b256
        have b270 : Hid (Blk X258 g13 49 T226_8) := b257.out.grown ho258 (by have := HG.out; have := C1.out; have := C4.out; have := C8.out; have := C13.out; have := C129.out; have := C137.out; have := C146.out; have := C156.out; have := C167.out; have := C182.out; have := C197.out; intro e; injection e with e; omega)
        clear b257
        have Q258 : Hid (Blk X258 g1 49 L244) := hb258
        have KK258 : Hid (Below w.heap.size w X258) := KK244.out.trans (ho258.below KK244.out.size (by have := HG.out; have := C1.out; have := C4.out; have := C8.out; have := C13.out; have := C129.out; have := C137.out; have := C146.out; have := C156.out; have := C167.out; have := C182.out; have := C197.out; omega))
        clear hb258 ho258 b247 KK244
        obtain ⟨r272, hr272⟩ : ∃ r, Hid (121665 * r168 % q = r) := ⟨121665 * r168 % q, rfl⟩
        have ltr272 : Hid (r272 < q) := by rw [← hr272.out]; exact Nat.mod_lt _ HQ0.out
        obtain ⟨r273, hr273⟩ : ∃ r, Hid ((r147 + r272) % q = r) := ⟨(r147 + r272) % q, rfl⟩
        have ltr273 : Hid (r273 < q) := by rw [← hr273.out]; exact Nat.mod_lt _ HQ0.out
        obtain ⟨r274, hr274⟩ : ∃ r, Hid (r168 * r273 % q = r) := ⟨r168 * r273 % q, rfl⟩
        have ltr274 : Hid (r274 < q) := by rw [← hr274.out]; exact Nat.mod_lt _ HQ0.out
        go_upto_region 22 with fail
        refine wp_region_any (by kernel_rfl) ?_
        change wpAny _ _ _ _ _ _ _ (World.drew _)
        refine wpAny_of_held (S := fun w' => w'.rangeAt g167 0 L167 ∧ w'.rangeAt g146 0 L146) _ _ _ _ ?_
        have y0 : Below X258.heap.size X258 X258.drew := below_draws X258 1
        refine wpAnyH_take_at (i := 0) (v := .agg L167.toArray) rfl rfl (by kernel_rfl) (by kernel_rfl) (by kernel_rfl) (fun _ _ _ h => h) (yieldsIf_load_mid (by rfl) 49 (.tmp 15) rfl g167 0 rfl L167 _ (fun w h => h.1) Try.underlying49 rfl (by rw [h167.out.len]; kernel_rfl)) ⟨(((b266.out.below y0 b266.out.lt)).range 0 _ [] (by simp)), (((b264.out.below y0 b264.out.lt)).range 0 _ [] (by simp))⟩ ?_
        simp only [List.setIfInBounds_toArray, List.set_cons_zero, List.set_cons_succ]
        refine wpAnyH_take_at (i := 1) (v := .agg L146.toArray) rfl rfl (by kernel_rfl) (by kernel_rfl) (by kernel_rfl) (fun _ _ _ h => h) (yieldsIf_load_mid (by rfl) 49 (.tmp 13) rfl g146 0 rfl L146 _ (fun w h => h.2) Try.underlying49 rfl (by rw [h146.out.len]; kernel_rfl)) ⟨(((b266.out.below y0 b266.out.lt)).range 0 _ [] (by simp)), (((b264.out.below y0 b264.out.lt)).range 0 _ [] (by simp))⟩ ?_
        simp only [List.setIfInBounds_toArray, List.set_cons_zero, List.set_cons_succ]
        refine wpAnyH_take_at (i := 3) (v := .agg L167.toArray) rfl rfl (by kernel_rfl) (by kernel_rfl) (by kernel_rfl) (fun _ _ _ h => h) (yieldsIf_load_mid (by rfl) 49 (.tmp 15) rfl g167 0 rfl L167 _ (fun w h => h.1) Try.underlying49 rfl (by rw [h167.out.len]; kernel_rfl)) ⟨(((b266.out.below y0 b266.out.lt)).range 0 _ [] (by simp)), (((b264.out.below y0 b264.out.lt)).range 0 _ [] (by simp))⟩ ?_
        simp only [List.setIfInBounds_toArray, List.set_cons_zero, List.set_cons_succ]
        refine wpAnyH_ready (rs := [2]) (by kernel_rfl) (by simp) ?_
        refine AllReadyH.cons rfl (fun KC hK => ?_) AllReadyH.nil
        go_simp
        refine (CS.out 121665 _ H121665).mono ?_
        rintro e v1 ⟨T271_2, rfl, lT1, zc1⟩
        have hT271_2 := Lib.hid lT1
        have y1 := y0.trans (zc1.mono y0.size)
        refine hK _ _ ⟨(((b266.out.below y1 b266.out.lt)).range 0 _ [] (by simp)), (((b264.out.below y1 b264.out.lt)).range 0 _ [] (by simp))⟩ (fun _ => ?_)
        clear hK KC lT1
        refine wpAnyH_ready (rs := [4]) (by kernel_rfl) (by simp) ?_
        refine AllReadyH.cons rfl (fun KC hK => ?_) AllReadyH.nil
        go_simp
        refine (CM.out _ _ _ _ _ _ hT271_2 h167 hr272).mono ?_
        rintro e v2 ⟨T271_4, rfl, lT2, zc2⟩
        have hT271_4 := Lib.hid lT2
        have y2 := y1.trans (zc2.mono y1.size)
        refine hK _ _ ⟨(((b266.out.below y2 b266.out.lt)).range 0 _ [] (by simp)), (((b264.out.below y2 b264.out.lt)).range 0 _ [] (by simp))⟩ (fun _ => ?_)
        clear hK KC lT2
        refine wpAnyH_ready (rs := [5]) (by kernel_rfl) (by simp) ?_
        refine AllReadyH.cons rfl (fun KC hK => ?_) AllReadyH.nil
        go_simp
        refine (CA.out _ _ _ _ _ _ h146 hT271_4 hr273).mono ?_
        rintro e v3 ⟨T271_5, rfl, lT3, zc3⟩
        have hT271_5 := Lib.hid lT3
        have y3 := y2.trans (zc3.mono y2.size)
        refine hK _ _ ⟨(((b266.out.below y3 b266.out.lt)).range 0 _ [] (by simp)), (((b264.out.below y3 b264.out.lt)).range 0 _ [] (by simp))⟩ (fun _ => ?_)
        clear hK KC lT3
        refine wpAnyH_ready (rs := [6]) (by kernel_rfl) (by simp) ?_
        refine AllReadyH.cons rfl (fun KC hK => ?_) AllReadyH.nil
        go_simp
        refine (CM.out _ _ _ _ _ _ h167 hT271_5 hr274).mono ?_
        rintro e v4 ⟨T271_6, rfl, lT4, zc4⟩
        have hT271_6 := Lib.hid lT4
        have y4 := y3.trans (zc4.mono y3.size)
        refine hK _ _ ⟨(((b266.out.below y4 b266.out.lt)).range 0 _ [] (by simp)), (((b264.out.below y4 b264.out.lt)).range 0 _ [] (by simp))⟩ (fun _ => ?_)
        clear hK KC lT4
        refine wpAnyH_ready (rs := [7]) (by kernel_rfl) (by simp) ?_
        refine AllReadyH.cons rfl (fun KC hK => ?_) AllReadyH.nil
        refine step_store_blk rfl 49 (.tmp 6) (.tmp 92) rfl g4 T271_6.toArray rfl rfl 49 C3 (b261.out.below y4 b261.out.lt) (by rw [List.size_toArray, hT271_6.out.len]; kernel_rfl) (by rw [List.size_toArray, hT271_6.out.len, fz3.out.len]) hT271_6.out.one ?_
        intro w3 hb3 ho3
        refine hK _ _ ⟨(((b266.out.below y4 b266.out.lt).grown ho3 (by have := HG.out; have := C1.out; have := C4.out; have := C8.out; have := C13.out; have := C129.out; have := C137.out; have := C146.out; have := C156.out; have := C167.out; have := C182.out; have := C197.out; intro e; injection e with e; omega)).range 0 _ [] (by simp)), (((b264.out.below y4 b264.out.lt).grown ho3 (by have := HG.out; have := C1.out; have := C4.out; have := C8.out; have := C13.out; have := C129.out; have := C137.out; have := C146.out; have := C156.out; have := C167.out; have := C182.out; have := C197.out; intro e; injection e with e; omega)).range 0 _ [] (by simp))⟩ (fun _ => ?_)
        clear hK KC
        refine wpAnyH_done (by kernel_rfl) ?_ _
        obtain ⟨X275, rfl⟩ : ∃ x, x = w3 := ⟨_, rfl⟩
        have b276 : Hid (Blk X275 g 49 UL) := (b259.out.below y4 b259.out.lt).grown ho3 (by have := HG.out; have := C1.out; have := C4.out; have := C8.out; have := C13.out; have := C129.out; have := C137.out; have := C146.out; have := C156.out; have := C167.out; have := C182.out; have := C197.out; intro e; injection e with e; omega)
        clear b259
        have b277 : Hid (Blk X275 (g + 1) 49 z32) := (b260.out.below y4 b260.out.lt).grown ho3 (by have := HG.out; have := C1.out; have := C4.out; have := C8.out; have := C13.out; have := C129.out; have := C137.out; have := C146.out; have := C156.out; have := C167.out; have := C182.out; have := C197.out; intro e; injection e with e; omega)
        clear b260
        have b278 : Hid (Blk X275 g129 49 L129) := (b262.out.below y4 b262.out.lt).grown ho3 (by have := HG.out; have := C1.out; have := C4.out; have := C8.out; have := C13.out; have := C129.out; have := C137.out; have := C146.out; have := C156.out; have := C167.out; have := C182.out; have := C197.out; intro e; injection e with e; omega)
        clear b262
        have b279 : Hid (Blk X275 g137 49 L137) := (b263.out.below y4 b263.out.lt).grown ho3 (by have := HG.out; have := C1.out; have := C4.out; have := C8.out; have := C13.out; have := C129.out; have := C137.out; have := C146.out; have := C156.out; have := C167.out; have := C182.out; have := C197.out; intro e; injection e with e; omega)
        clear b263
        have b280 : Hid (Blk X275 g146 49 L146) := (b264.out.below y4 b264.out.lt).grown ho3 (by have := HG.out; have := C1.out; have := C4.out; have := C8.out; have := C13.out; have := C129.out; have := C137.out; have := C146.out; have := C156.out; have := C167.out; have := C182.out; have := C197.out; intro e; injection e with e; omega)
        clear b264
        have b281 : Hid (Blk X275 g156 49 L156) := (b265.out.below y4 b265.out.lt).grown ho3 (by have := HG.out; have := C1.out; have := C4.out; have := C8.out; have := C13.out; have := C129.out; have := C137.out; have := C146.out; have := C156.out; have := C167.out; have := C182.out; have := C197.out; intro e; injection e with e; omega)
        clear b265
        have b282 : Hid (Blk X275 g167 49 L167) := (b266.out.below y4 b266.out.lt).grown ho3 (by have := HG.out; have := C1.out; have := C4.out; have := C8.out; have := C13.out; have := C129.out; have := C137.out; have := C146.out; have := C156.out; have := C167.out; have := C182.out; have := C197.out; intro e; injection e with e; omega)
        clear b266
        have b283 : Hid (Blk X275 g182 49 L182) := (b267.out.below y4 b267.out.lt).grown ho3 (by have := HG.out; have := C1.out; have := C4.out; have := C8.out; have := C13.out; have := C129.out; have := C137.out; have := C146.out; have := C156.out; have := C167.out; have := C182.out; have := C197.out; intro e; injection e with e; omega)
        clear b267
        have b284 : Hid (Blk X275 g197 49 L197) := (b268.out.below y4 b268.out.lt).grown ho3 (by have := HG.out; have := C1.out; have := C4.out; have := C8.out; have := C13.out; have := C129.out; have := C137.out; have := C146.out; have := C156.out; have := C167.out; have := C182.out; have := C197.out; intro e; injection e with e; omega)
        clear b268
        have b285 : Hid (Blk X275 g8 49 T210_6) := (b269.out.below y4 b269.out.lt).grown ho3 (by have := HG.out; have := C1.out; have := C4.out; have := C8.out; have := C13.out; have := C129.out; have := C137.out; have := C146.out; have := C156.out; have := C167.out; have := C182.out; have := C197.out; intro e; injection e with e; omega)
        clear b269
        have b286 : Hid (Blk X275 g13 49 T226_8) := (b270.out.below y4 b270.out.lt).grown ho3 (by have := HG.out; have := C1.out; have := C4.out; have := C8.out; have := C13.out; have := C129.out; have := C137.out; have := C146.out; have := C156.out; have := C167.out; have := C182.out; have := C197.out; intro e; injection e with e; omega)
        clear b270
        have b287 : Hid (Blk X275 g1 49 L244) := (Q258.out.below y4 Q258.out.lt).grown ho3 (by have := HG.out; have := C1.out; have := C4.out; have := C8.out; have := C13.out; have := C129.out; have := C137.out; have := C146.out; have := C156.out; have := C167.out; have := C182.out; have := C197.out; intro e; injection e with e; omega)
        clear Q258
        have Q275 : Hid (Blk X275 g4 49 T271_6) := hb3
        have KK275 : Hid (Below w.heap.size w X275) := by
          have h1 := KK258.out.trans (y4.mono KK258.out.size)
          exact h1.trans (ho3.below h1.size (by have := HG.out; have := C1.out; have := C4.out; have := C8.out; have := C13.out; have := C129.out; have := C137.out; have := C146.out; have := C156.out; have := C167.out; have := C182.out; have := C197.out; omega))
        have h275 := hT271_6
        clear b261 KK258 hb3 ho3 y0 y1 y2 y3 y4
        go_upto_region 25 with (first | (refine wpList_load_num rfl (.tmp 7) rfl g8 rfl T210_6 b285.out hT210_6.out.len ?_) | (refine wpList_load_num rfl (.tmp 5) rfl g1 rfl L244 b287.out h244.out.len ?_) | (refine wpList_store_num rfl rfl (.tmp 5) (.tmp 95) rfl g1 rfl T210_6 L244 rfl b287.out h244.out.len hT210_6.out.len hT210_6.out.one ?_; intro X288 hb288 ho288) | (refine wpList_store_num rfl rfl (.tmp 7) (.tmp 96) rfl g8 rfl L244 T210_6 rfl (b285.out.grown ho288 (by have := HG.out; have := C1.out; have := C4.out; have := C8.out; have := C13.out; have := C129.out; have := C137.out; have := C146.out; have := C156.out; have := C167.out; have := C182.out; have := C197.out; intro e; injection e with e; omega)) hT210_6.out.len h244.out.len h244.out.one ?_; intro Y288 hc288 hd288))
        have N288 : Hid (Blk Y288 g1 49 T210_6) := (show Blk X288 g1 49 T210_6 from hb288).grown hd288 (by have := HG.out; have := C1.out; have := C4.out; have := C8.out; have := C13.out; have := C129.out; have := C137.out; have := C146.out; have := C156.out; have := C167.out; have := C182.out; have := C197.out; intro e; injection e with e; omega)
        have O288 : Hid (Blk Y288 g8 49 L244) := hc288
        have b289 : Hid (Blk Y288 g 49 UL) := (b276.out.grown ho288 (by have := HG.out; have := C1.out; have := C4.out; have := C8.out; have := C13.out; have := C129.out; have := C137.out; have := C146.out; have := C156.out; have := C167.out; have := C182.out; have := C197.out; intro e; injection e with e; omega)).grown hd288 (by have := HG.out; have := C1.out; have := C4.out; have := C8.out; have := C13.out; have := C129.out; have := C137.out; have := C146.out; have := C156.out; have := C167.out; have := C182.out; have := C197.out; intro e; injection e with e; omega)
        clear b276
        have b290 : Hid (Blk Y288 (g + 1) 49 z32) := (b277.out.grown ho288 (by have := HG.out; have := C1.out; have := C4.out; have := C8.out; have := C13.out; have := C129.out; have := C137.out; have := C146.out; have := C156.out; have := C167.out; have := C182.out; have := C197.out; intro e; injection e with e; omega)).grown hd288 (by have := HG.out; have := C1.out; have := C4.out; have := C8.out; have := C13.out; have := C129.out; have := C137.out; have := C146.out; have := C156.out; have := C167.out; have := C182.out; have := C197.out; intro e; injection e with e; omega)
        clear b277
        have b291 : Hid (Blk Y288 g129 49 L129) := (b278.out.grown ho288 (by have := HG.out; have := C1.out; have := C4.out; have := C8.out; have := C13.out; have := C129.out; have := C137.out; have := C146.out; have := C156.out; have := C167.out; have := C182.out; have := C197.out; intro e; injection e with e; omega)).grown hd288 (by have := HG.out; have := C1.out; have := C4.out; have := C8.out; have := C13.out; have := C129.out; have := C137.out; have := C146.out; have := C156.out; have := C167.out; have := C182.out; have := C197.out; intro e; injection e with e; omega)
        clear b278
        have b292 : Hid (Blk Y288 g137 49 L137) := (b279.out.grown ho288 (by have := HG.out; have := C1.out; have := C4.out; have := C8.out; have := C13.out; have := C129.out; have := C137.out; have := C146.out; have := C156.out; have := C167.out; have := C182.out; have := C197.out; intro e; injection e with e; omega)).grown hd288 (by have := HG.out; have := C1.out; have := C4.out; have := C8.out; have := C13.out; have := C129.out; have := C137.out; have := C146.out; have := C156.out; have := C167.out; have := C182.out; have := C197.out; intro e; injection e with e; omega)
        clear b279
        have b293 : Hid (Blk Y288 g146 49 L146) := (b280.out.grown ho288 (by have := HG.out; have := C1.out; have := C4.out; have := C8.out; have := C13.out; have := C129.out; have := C137.out; have := C146.out; have := C156.out; have := C167.out; have := C182.out; have := C197.out; intro e; injection e with e; omega)).grown hd288 (by have := HG.out; have := C1.out; have := C4.out; have := C8.out; have := C13.out; have := C129.out; have := C137.out; have := C146.out; have := C156.out; have := C167.out; have := C182.out; have := C197.out; intro e; injection e with e; omega)
        clear b280
        have b294 : Hid (Blk Y288 g156 49 L156) := (b281.out.grown ho288 (by have := HG.out; have := C1.out; have := C4.out; have := C8.out; have := C13.out; have := C129.out; have := C137.out; have := C146.out; have := C156.out; have := C167.out; have := C182.out; have := C197.out; intro e; injection e with e; omega)).grown hd288 (by have := HG.out; have := C1.out; have := C4.out; have := C8.out; have := C13.out; have := C129.out; have := C137.out; have := C146.out; have := C156.out; have := C167.out; have := C182.out; have := C197.out; intro e; injection e with e; omega)
        clear b281
        have b295 : Hid (Blk Y288 g167 49 L167) := (b282.out.grown ho288 (by have := HG.out; have := C1.out; have := C4.out; have := C8.out; have := C13.out; have := C129.out; have := C137.out; have := C146.out; have := C156.out; have := C167.out; have := C182.out; have := C197.out; intro e; injection e with e; omega)).grown hd288 (by have := HG.out; have := C1.out; have := C4.out; have := C8.out; have := C13.out; have := C129.out; have := C137.out; have := C146.out; have := C156.out; have := C167.out; have := C182.out; have := C197.out; intro e; injection e with e; omega)
        clear b282
        have b296 : Hid (Blk Y288 g182 49 L182) := (b283.out.grown ho288 (by have := HG.out; have := C1.out; have := C4.out; have := C8.out; have := C13.out; have := C129.out; have := C137.out; have := C146.out; have := C156.out; have := C167.out; have := C182.out; have := C197.out; intro e; injection e with e; omega)).grown hd288 (by have := HG.out; have := C1.out; have := C4.out; have := C8.out; have := C13.out; have := C129.out; have := C137.out; have := C146.out; have := C156.out; have := C167.out; have := C182.out; have := C197.out; intro e; injection e with e; omega)
        clear b283
        have b297 : Hid (Blk Y288 g197 49 L197) := (b284.out.grown ho288 (by have := HG.out; have := C1.out; have := C4.out; have := C8.out; have := C13.out; have := C129.out; have := C137.out; have := C146.out; have := C156.out; have := C167.out; have := C182.out; have := C197.out; intro e; injection e with e; omega)).grown hd288 (by have := HG.out; have := C1.out; have := C4.out; have := C8.out; have := C13.out; have := C129.out; have := C137.out; have := C146.out; have := C156.out; have := C167.out; have := C182.out; have := C197.out; intro e; injection e with e; omega)
        clear b284
        have b298 : Hid (Blk Y288 g13 49 T226_8) := (b286.out.grown ho288 (by have := HG.out; have := C1.out; have := C4.out; have := C8.out; have := C13.out; have := C129.out; have := C137.out; have := C146.out; have := C156.out; have := C167.out; have := C182.out; have := C197.out; intro e; injection e with e; omega)).grown hd288 (by have := HG.out; have := C1.out; have := C4.out; have := C8.out; have := C13.out; have := C129.out; have := C137.out; have := C146.out; have := C156.out; have := C167.out; have := C182.out; have := C197.out; intro e; injection e with e; omega)
        clear b286
        have b299 : Hid (Blk Y288 g4 49 T271_6) := (Q275.out.grown ho288 (by have := HG.out; have := C1.out; have := C4.out; have := C8.out; have := C13.out; have := C129.out; have := C137.out; have := C146.out; have := C156.out; have := C167.out; have := C182.out; have := C197.out; intro e; injection e with e; omega)).grown hd288 (by have := HG.out; have := C1.out; have := C4.out; have := C8.out; have := C13.out; have := C129.out; have := C137.out; have := C146.out; have := C156.out; have := C167.out; have := C182.out; have := C197.out; intro e; injection e with e; omega)
        clear Q275
        have KK288 : Hid (Below w.heap.size w Y288) := by
          have h1 := KK275.out.trans (ho288.below KK275.out.size (by have := HG.out; have := C1.out; have := C4.out; have := C8.out; have := C13.out; have := C129.out; have := C137.out; have := C146.out; have := C156.out; have := C167.out; have := C182.out; have := C197.out; omega))
          exact h1.trans (hd288.below h1.size (by have := HG.out; have := C1.out; have := C4.out; have := C8.out; have := C13.out; have := C129.out; have := C137.out; have := C146.out; have := C156.out; have := C167.out; have := C182.out; have := C197.out; omega))
        clear hb288 ho288 hc288 hd288 b287 b285 KK275
        go_upto_region 7 with (first | (refine wpList_load_num rfl (.tmp 8) rfl g13 rfl T226_8 b298.out hT226_8.out.len ?_) | (refine wpList_load_num rfl (.tmp 6) rfl g4 rfl T271_6 b299.out hT271_6.out.len ?_) | (refine wpList_store_num rfl rfl (.tmp 6) (.tmp 97) rfl g4 rfl T226_8 T271_6 rfl b299.out hT271_6.out.len hT226_8.out.len hT226_8.out.one ?_; intro X300 hb300 ho300) | (refine wpList_store_num rfl rfl (.tmp 8) (.tmp 98) rfl g13 rfl T271_6 T226_8 rfl (b298.out.grown ho300 (by have := HG.out; have := C1.out; have := C4.out; have := C8.out; have := C13.out; have := C129.out; have := C137.out; have := C146.out; have := C156.out; have := C167.out; have := C182.out; have := C197.out; intro e; injection e with e; omega)) hT226_8.out.len hT271_6.out.len hT271_6.out.one ?_; intro Y300 hc300 hd300))
        have N300 : Hid (Blk Y300 g4 49 T226_8) := (show Blk X300 g4 49 T226_8 from hb300).grown hd300 (by have := HG.out; have := C1.out; have := C4.out; have := C8.out; have := C13.out; have := C129.out; have := C137.out; have := C146.out; have := C156.out; have := C167.out; have := C182.out; have := C197.out; intro e; injection e with e; omega)
        have O300 : Hid (Blk Y300 g13 49 T271_6) := hc300
        have b301 : Hid (Blk Y300 g 49 UL) := (b289.out.grown ho300 (by have := HG.out; have := C1.out; have := C4.out; have := C8.out; have := C13.out; have := C129.out; have := C137.out; have := C146.out; have := C156.out; have := C167.out; have := C182.out; have := C197.out; intro e; injection e with e; omega)).grown hd300 (by have := HG.out; have := C1.out; have := C4.out; have := C8.out; have := C13.out; have := C129.out; have := C137.out; have := C146.out; have := C156.out; have := C167.out; have := C182.out; have := C197.out; intro e; injection e with e; omega)
        clear b289
        have b302 : Hid (Blk Y300 (g + 1) 49 z32) := (b290.out.grown ho300 (by have := HG.out; have := C1.out; have := C4.out; have := C8.out; have := C13.out; have := C129.out; have := C137.out; have := C146.out; have := C156.out; have := C167.out; have := C182.out; have := C197.out; intro e; injection e with e; omega)).grown hd300 (by have := HG.out; have := C1.out; have := C4.out; have := C8.out; have := C13.out; have := C129.out; have := C137.out; have := C146.out; have := C156.out; have := C167.out; have := C182.out; have := C197.out; intro e; injection e with e; omega)
        clear b290
        have b303 : Hid (Blk Y300 g129 49 L129) := (b291.out.grown ho300 (by have := HG.out; have := C1.out; have := C4.out; have := C8.out; have := C13.out; have := C129.out; have := C137.out; have := C146.out; have := C156.out; have := C167.out; have := C182.out; have := C197.out; intro e; injection e with e; omega)).grown hd300 (by have := HG.out; have := C1.out; have := C4.out; have := C8.out; have := C13.out; have := C129.out; have := C137.out; have := C146.out; have := C156.out; have := C167.out; have := C182.out; have := C197.out; intro e; injection e with e; omega)
        clear b291
        have b304 : Hid (Blk Y300 g137 49 L137) := (b292.out.grown ho300 (by have := HG.out; have := C1.out; have := C4.out; have := C8.out; have := C13.out; have := C129.out; have := C137.out; have := C146.out; have := C156.out; have := C167.out; have := C182.out; have := C197.out; intro e; injection e with e; omega)).grown hd300 (by have := HG.out; have := C1.out; have := C4.out; have := C8.out; have := C13.out; have := C129.out; have := C137.out; have := C146.out; have := C156.out; have := C167.out; have := C182.out; have := C197.out; intro e; injection e with e; omega)
        clear b292
        have b305 : Hid (Blk Y300 g146 49 L146) := (b293.out.grown ho300 (by have := HG.out; have := C1.out; have := C4.out; have := C8.out; have := C13.out; have := C129.out; have := C137.out; have := C146.out; have := C156.out; have := C167.out; have := C182.out; have := C197.out; intro e; injection e with e; omega)).grown hd300 (by have := HG.out; have := C1.out; have := C4.out; have := C8.out; have := C13.out; have := C129.out; have := C137.out; have := C146.out; have := C156.out; have := C167.out; have := C182.out; have := C197.out; intro e; injection e with e; omega)
        clear b293
        have b306 : Hid (Blk Y300 g156 49 L156) := (b294.out.grown ho300 (by have := HG.out; have := C1.out; have := C4.out; have := C8.out; have := C13.out; have := C129.out; have := C137.out; have := C146.out; have := C156.out; have := C167.out; have := C182.out; have := C197.out; intro e; injection e with e; omega)).grown hd300 (by have := HG.out; have := C1.out; have := C4.out; have := C8.out; have := C13.out; have := C129.out; have := C137.out; have := C146.out; have := C156.out; have := C167.out; have := C182.out; have := C197.out; intro e; injection e with e; omega)
        clear b294
        have b307 : Hid (Blk Y300 g167 49 L167) := (b295.out.grown ho300 (by have := HG.out; have := C1.out; have := C4.out; have := C8.out; have := C13.out; have := C129.out; have := C137.out; have := C146.out; have := C156.out; have := C167.out; have := C182.out; have := C197.out; intro e; injection e with e; omega)).grown hd300 (by have := HG.out; have := C1.out; have := C4.out; have := C8.out; have := C13.out; have := C129.out; have := C137.out; have := C146.out; have := C156.out; have := C167.out; have := C182.out; have := C197.out; intro e; injection e with e; omega)
        clear b295
        have b308 : Hid (Blk Y300 g182 49 L182) := (b296.out.grown ho300 (by have := HG.out; have := C1.out; have := C4.out; have := C8.out; have := C13.out; have := C129.out; have := C137.out; have := C146.out; have := C156.out; have := C167.out; have := C182.out; have := C197.out; intro e; injection e with e; omega)).grown hd300 (by have := HG.out; have := C1.out; have := C4.out; have := C8.out; have := C13.out; have := C129.out; have := C137.out; have := C146.out; have := C156.out; have := C167.out; have := C182.out; have := C197.out; intro e; injection e with e; omega)
        clear b296
        have b309 : Hid (Blk Y300 g197 49 L197) := (b297.out.grown ho300 (by have := HG.out; have := C1.out; have := C4.out; have := C8.out; have := C13.out; have := C129.out; have := C137.out; have := C146.out; have := C156.out; have := C167.out; have := C182.out; have := C197.out; intro e; injection e with e; omega)).grown hd300 (by have := HG.out; have := C1.out; have := C4.out; have := C8.out; have := C13.out; have := C129.out; have := C137.out; have := C146.out; have := C156.out; have := C167.out; have := C182.out; have := C197.out; intro e; injection e with e; omega)
        clear b297
        have b310 : Hid (Blk Y300 g1 49 T210_6) := (N288.out.grown ho300 (by have := HG.out; have := C1.out; have := C4.out; have := C8.out; have := C13.out; have := C129.out; have := C137.out; have := C146.out; have := C156.out; have := C167.out; have := C182.out; have := C197.out; intro e; injection e with e; omega)).grown hd300 (by have := HG.out; have := C1.out; have := C4.out; have := C8.out; have := C13.out; have := C129.out; have := C137.out; have := C146.out; have := C156.out; have := C167.out; have := C182.out; have := C197.out; intro e; injection e with e; omega)
        clear N288
        have b311 : Hid (Blk Y300 g8 49 L244) := (O288.out.grown ho300 (by have := HG.out; have := C1.out; have := C4.out; have := C8.out; have := C13.out; have := C129.out; have := C137.out; have := C146.out; have := C156.out; have := C167.out; have := C182.out; have := C197.out; intro e; injection e with e; omega)).grown hd300 (by have := HG.out; have := C1.out; have := C4.out; have := C8.out; have := C13.out; have := C129.out; have := C137.out; have := C146.out; have := C156.out; have := C167.out; have := C182.out; have := C197.out; intro e; injection e with e; omega)
        clear O288
        have KK300 : Hid (Below w.heap.size w Y300) := by
          have h1 := KK288.out.trans (ho300.below KK288.out.size (by have := HG.out; have := C1.out; have := C4.out; have := C8.out; have := C13.out; have := C129.out; have := C137.out; have := C146.out; have := C156.out; have := C167.out; have := C182.out; have := C197.out; omega))
          exact h1.trans (hd300.below h1.size (by have := HG.out; have := C1.out; have := C4.out; have := C8.out; have := C13.out; have := C129.out; have := C137.out; have := C146.out; have := C156.out; have := C167.out; have := C182.out; have := C197.out; omega))
        clear hb300 ho300 hc300 hd300 b299 b298 KK288
        go_wp2
        go_roundw
        case rel =>
          refine ⟨j + 1, r212, r229, r243, r274, T210_6, T226_8, L244, T271_6, by have := HJ.out; omega, by have h1 := HPJ.out; have h2 := HJ.out; go_num, ?_, ⟨ltr212.out, ltr229.out, ltr243.out, ltr274.out⟩, hT210_6, hT226_8, h244, hT271_6, b301, b302, b310, N300, b311, O300, KK300⟩
          rw [Hid, M.lad, hlad.out, ← HBIT.out, hbit, M.lbit]
          simp only [M.lstep, hr130.out, hr138.out, hr147.out, hr157.out, hr168.out, hr180.out, hr181.out, hr195.out, hr196.out, hr211.out, hr212.out, hr227.out, hr228.out, hr229.out, hr243.out, hr272.out, hr273.out, hr274.out]
        case measure => have h1 := HPJ.out; have h2 := HJ.out; simp [intOf]; omega
      · skip
        have hb1 : (bit : Int) = 0 := by rw [hbit]; rfl
        go_upto_region 12 with fail
        clear ck t1 t1' t2 t2' t3 t3' c0 hb1 hpq32 hpr8 HC
        obtain ⟨r413, hr413⟩ : ∃ r, Hid ((x2 + z2) % q = r) := ⟨(x2 + z2) % q, rfl⟩
        have ltr413 : Hid (r413 < q) := by rw [← hr413.out]; exact Nat.mod_lt _ HQ0.out
        go_wp2_with (first | (refine wpList_load_num rfl (.tmp 5) rfl g1 rfl A2 b5.out fx2.out.len ?_) | (refine wpList_load_num rfl (.tmp 6) rfl g4 rfl C2 b6.out fz2.out.len ?_))
        refine (CA.out _ _ _ _ _ _ fx2 fz2 hr413).mono ?_
        rintro e w412 ⟨L412, rfl, l412, k412⟩
        have h412 := Lib.hid l412
        obtain ⟨g412, hg412⟩ : ∃ v, v = w412.heap.size := ⟨_, rfl⟩
        have C412 : Hid (g13 < g412) := by have h1 := b8.out.lt; have h2 := k412.size; rw [Hid]; omega
        have N412 : Blk (w412.alloc (.cells z32.toArray 49)) g412 49 z32 := Blk.newAt _ _ _ _ _ hg412 rfl
        go_upto_region 13 with (first | (rw [← z32_arr, ← hg412]; refine wpList_store_num rfl rfl (.tmp 11) (.tmp 44) rfl g412 rfl L412 z32 rfl N412 z32_len h412.out.len h412.out.one ?_; intro X412 hb412 ho412))
        have U412 : Below wz.heap.size wz X412 := (k412.alloc k412.size _).trans (ho412.below (by have := k412.size; simp <;> omega) (by have := k412.size; omega))
        have KK412 : Hid (Below w.heap.size w X412) := kk.out.trans (U412.mono kk.out.size)
        have b414 : Hid (Blk X412 g 49 UL) := b3.out.below U412 b3.out.lt
        clear b3
        have b415 : Hid (Blk X412 (g + 1) 49 z32) := b4.out.below U412 b4.out.lt
        clear b4
        have b416 : Hid (Blk X412 g1 49 A2) := b5.out.below U412 b5.out.lt
        clear b5
        have b417 : Hid (Blk X412 g4 49 C2) := b6.out.below U412 b6.out.lt
        clear b6
        have b418 : Hid (Blk X412 g8 49 A3) := b7.out.below U412 b7.out.lt
        clear b7
        have b419 : Hid (Blk X412 g13 49 C3) := b8.out.below U412 b8.out.lt
        clear b8
        have Q412 : Hid (Blk X412 g412 49 L412) := hb412
        clear hb412 ho412 N412 hg412 k412 U412 kk
        obtain ⟨r421, hr421⟩ : ∃ r, Hid ((x2 + (q - z2)) % q = r) := ⟨(x2 + (q - z2)) % q, rfl⟩
        have ltr421 : Hid (r421 < q) := by rw [← hr421.out]; exact Nat.mod_lt _ HQ0.out
        go_wp2_with (first | (refine wpList_load_num rfl (.tmp 5) rfl g1 rfl A2 b416.out fx2.out.len ?_) | (refine wpList_load_num rfl (.tmp 6) rfl g4 rfl C2 b417.out fz2.out.len ?_))
        refine (CB.out _ _ _ _ _ _ fx2 fz2 ltz2 hr421).mono ?_
        rintro e w420 ⟨L420, rfl, l420, k420⟩
        have h420 := Lib.hid l420
        obtain ⟨g420, hg420⟩ : ∃ v, v = w420.heap.size := ⟨_, rfl⟩
        have C420 : Hid (g412 < g420) := by have h1 := Q412.out.lt; have h2 := k420.size; rw [Hid]; omega
        have N420 : Blk (w420.alloc (.cells z32.toArray 49)) g420 49 z32 := Blk.newAt _ _ _ _ _ hg420 rfl
        go_upto_region 14 with (first | (rw [← z32_arr, ← hg420]; refine wpList_store_num rfl rfl (.tmp 12) (.tmp 47) rfl g420 rfl L420 z32 rfl N420 z32_len h420.out.len h420.out.one ?_; intro X420 hb420 ho420))
        have U420 : Below X412.heap.size X412 X420 := (k420.alloc k420.size _).trans (ho420.below (by have := k420.size; simp <;> omega) (by have := k420.size; omega))
        have KK420 : Hid (Below w.heap.size w X420) := KK412.out.trans (U420.mono KK412.out.size)
        have b422 : Hid (Blk X420 g 49 UL) := b414.out.below U420 b414.out.lt
        clear b414
        have b423 : Hid (Blk X420 (g + 1) 49 z32) := b415.out.below U420 b415.out.lt
        clear b415
        have b424 : Hid (Blk X420 g1 49 A2) := b416.out.below U420 b416.out.lt
        clear b416
        have b425 : Hid (Blk X420 g4 49 C2) := b417.out.below U420 b417.out.lt
        clear b417
        have b426 : Hid (Blk X420 g8 49 A3) := b418.out.below U420 b418.out.lt
        clear b418
        have b427 : Hid (Blk X420 g13 49 C3) := b419.out.below U420 b419.out.lt
        clear b419
        have b428 : Hid (Blk X420 g412 49 L412) := Q412.out.below U420 Q412.out.lt
        clear Q412
        have Q420 : Hid (Blk X420 g420 49 L420) := hb420
        clear hb420 ho420 N420 hg420 k420 U420 KK412
        obtain ⟨r430, hr430⟩ : ∃ r, Hid (r413 * r413 % q = r) := ⟨r413 * r413 % q, rfl⟩
        have ltr430 : Hid (r430 < q) := by rw [← hr430.out]; exact Nat.mod_lt _ HQ0.out
        go_wp2_with (first | (refine wpList_load_num rfl (.tmp 11) rfl g412 rfl L412 b428.out h412.out.len ?_))
        refine (CM.out _ _ _ _ _ _ h412 h412 hr430).mono ?_
        rintro e w429 ⟨L429, rfl, l429, k429⟩
        have h429 := Lib.hid l429
        obtain ⟨g429, hg429⟩ : ∃ v, v = w429.heap.size := ⟨_, rfl⟩
        have C429 : Hid (g420 < g429) := by have h1 := Q420.out.lt; have h2 := k429.size; rw [Hid]; omega
        have N429 : Blk (w429.alloc (.cells z32.toArray 49)) g429 49 z32 := Blk.newAt _ _ _ _ _ hg429 rfl
        go_upto_region 15 with (first | (rw [← z32_arr, ← hg429]; refine wpList_store_num rfl rfl (.tmp 13) (.tmp 50) rfl g429 rfl L429 z32 rfl N429 z32_len h429.out.len h429.out.one ?_; intro X429 hb429 ho429))
        have U429 : Below X420.heap.size X420 X429 := (k429.alloc k429.size _).trans (ho429.below (by have := k429.size; simp <;> omega) (by have := k429.size; omega))
        have KK429 : Hid (Below w.heap.size w X429) := KK420.out.trans (U429.mono KK420.out.size)
        have b431 : Hid (Blk X429 g 49 UL) := b422.out.below U429 b422.out.lt
        clear b422
        have b432 : Hid (Blk X429 (g + 1) 49 z32) := b423.out.below U429 b423.out.lt
        clear b423
        have b433 : Hid (Blk X429 g1 49 A2) := b424.out.below U429 b424.out.lt
        clear b424
        have b434 : Hid (Blk X429 g4 49 C2) := b425.out.below U429 b425.out.lt
        clear b425
        have b435 : Hid (Blk X429 g8 49 A3) := b426.out.below U429 b426.out.lt
        clear b426
        have b436 : Hid (Blk X429 g13 49 C3) := b427.out.below U429 b427.out.lt
        clear b427
        have b437 : Hid (Blk X429 g412 49 L412) := b428.out.below U429 b428.out.lt
        clear b428
        have b438 : Hid (Blk X429 g420 49 L420) := Q420.out.below U429 Q420.out.lt
        clear Q420
        have Q429 : Hid (Blk X429 g429 49 L429) := hb429
        clear hb429 ho429 N429 hg429 k429 U429 KK420
        obtain ⟨r440, hr440⟩ : ∃ r, Hid (r421 * r421 % q = r) := ⟨r421 * r421 % q, rfl⟩
        have ltr440 : Hid (r440 < q) := by rw [← hr440.out]; exact Nat.mod_lt _ HQ0.out
        go_wp2_with (first | (refine wpList_load_num rfl (.tmp 12) rfl g420 rfl L420 b438.out h420.out.len ?_))
        refine (CM.out _ _ _ _ _ _ h420 h420 hr440).mono ?_
        rintro e w439 ⟨L439, rfl, l439, k439⟩
        have h439 := Lib.hid l439
        obtain ⟨g439, hg439⟩ : ∃ v, v = w439.heap.size := ⟨_, rfl⟩
        have C439 : Hid (g429 < g439) := by have h1 := Q429.out.lt; have h2 := k439.size; rw [Hid]; omega
        have N439 : Blk (w439.alloc (.cells z32.toArray 49)) g439 49 z32 := Blk.newAt _ _ _ _ _ hg439 rfl
        go_upto_region 16 with (first | (rw [← z32_arr, ← hg439]; refine wpList_store_num rfl rfl (.tmp 14) (.tmp 53) rfl g439 rfl L439 z32 rfl N439 z32_len h439.out.len h439.out.one ?_; intro X439 hb439 ho439))
        have U439 : Below X429.heap.size X429 X439 := (k439.alloc k439.size _).trans (ho439.below (by have := k439.size; simp <;> omega) (by have := k439.size; omega))
        have KK439 : Hid (Below w.heap.size w X439) := KK429.out.trans (U439.mono KK429.out.size)
        have b441 : Hid (Blk X439 g 49 UL) := b431.out.below U439 b431.out.lt
        clear b431
        have b442 : Hid (Blk X439 (g + 1) 49 z32) := b432.out.below U439 b432.out.lt
        clear b432
        have b443 : Hid (Blk X439 g1 49 A2) := b433.out.below U439 b433.out.lt
        clear b433
        have b444 : Hid (Blk X439 g4 49 C2) := b434.out.below U439 b434.out.lt
        clear b434
        have b445 : Hid (Blk X439 g8 49 A3) := b435.out.below U439 b435.out.lt
        clear b435
        have b446 : Hid (Blk X439 g13 49 C3) := b436.out.below U439 b436.out.lt
        clear b436
        have b447 : Hid (Blk X439 g412 49 L412) := b437.out.below U439 b437.out.lt
        clear b437
        have b448 : Hid (Blk X439 g420 49 L420) := b438.out.below U439 b438.out.lt
        clear b438
        have b449 : Hid (Blk X439 g429 49 L429) := Q429.out.below U439 Q429.out.lt
        clear Q429
        have Q439 : Hid (Blk X439 g439 49 L439) := hb439
        clear hb439 ho439 N439 hg439 k439 U439 KK429
        obtain ⟨r451, hr451⟩ : ∃ r, Hid ((r430 + (q - r440)) % q = r) := ⟨(r430 + (q - r440)) % q, rfl⟩
        have ltr451 : Hid (r451 < q) := by rw [← hr451.out]; exact Nat.mod_lt _ HQ0.out
        go_wp2_with (first | (refine wpList_load_num rfl (.tmp 13) rfl g429 rfl L429 b449.out h429.out.len ?_) | (refine wpList_load_num rfl (.tmp 14) rfl g439 rfl L439 Q439.out h439.out.len ?_))
        refine (CB.out _ _ _ _ _ _ h429 h439 ltr440 hr451).mono ?_
        rintro e w450 ⟨L450, rfl, l450, k450⟩
        have h450 := Lib.hid l450
        obtain ⟨g450, hg450⟩ : ∃ v, v = w450.heap.size := ⟨_, rfl⟩
        have C450 : Hid (g439 < g450) := by have h1 := Q439.out.lt; have h2 := k450.size; rw [Hid]; omega
        have N450 : Blk (w450.alloc (.cells z32.toArray 49)) g450 49 z32 := Blk.newAt _ _ _ _ _ hg450 rfl
        go_upto_region 17 with (first | (rw [← z32_arr, ← hg450]; refine wpList_store_num rfl rfl (.tmp 15) (.tmp 56) rfl g450 rfl L450 z32 rfl N450 z32_len h450.out.len h450.out.one ?_; intro X450 hb450 ho450))
        have U450 : Below X439.heap.size X439 X450 := (k450.alloc k450.size _).trans (ho450.below (by have := k450.size; simp <;> omega) (by have := k450.size; omega))
        have KK450 : Hid (Below w.heap.size w X450) := KK439.out.trans (U450.mono KK439.out.size)
        have b452 : Hid (Blk X450 g 49 UL) := b441.out.below U450 b441.out.lt
        clear b441
        have b453 : Hid (Blk X450 (g + 1) 49 z32) := b442.out.below U450 b442.out.lt
        clear b442
        have b454 : Hid (Blk X450 g1 49 A2) := b443.out.below U450 b443.out.lt
        clear b443
        have b455 : Hid (Blk X450 g4 49 C2) := b444.out.below U450 b444.out.lt
        clear b444
        have b456 : Hid (Blk X450 g8 49 A3) := b445.out.below U450 b445.out.lt
        clear b445
        have b457 : Hid (Blk X450 g13 49 C3) := b446.out.below U450 b446.out.lt
        clear b446
        have b458 : Hid (Blk X450 g412 49 L412) := b447.out.below U450 b447.out.lt
        clear b447
        have b459 : Hid (Blk X450 g420 49 L420) := b448.out.below U450 b448.out.lt
        clear b448
        have b460 : Hid (Blk X450 g429 49 L429) := b449.out.below U450 b449.out.lt
        clear b449
        have b461 : Hid (Blk X450 g439 49 L439) := Q439.out.below U450 Q439.out.lt
        clear Q439
        have Q450 : Hid (Blk X450 g450 49 L450) := hb450
        clear hb450 ho450 N450 hg450 k450 U450 KK439
        obtain ⟨r463, hr463⟩ : ∃ r, Hid ((x3 + (q - z3)) % q = r) := ⟨(x3 + (q - z3)) % q, rfl⟩
        have ltr463 : Hid (r463 < q) := by rw [← hr463.out]; exact Nat.mod_lt _ HQ0.out
        obtain ⟨r464, hr464⟩ : ∃ r, Hid (r463 * r413 % q = r) := ⟨r463 * r413 % q, rfl⟩
        have ltr464 : Hid (r464 < q) := by rw [← hr464.out]; exact Nat.mod_lt _ HQ0.out
        go_upto_region 17 with fail
        go_cut [16] from 22 to 98 (fun sv wx => ∃ (gd : Nat) (L : List Value), sv = .pointer (some ⟨gd, 0, none⟩) ∧ Hid (IsN L r464) ∧ Hid (Blk wx gd 49 L) ∧ Hid (Below X450.heap.size X450 wx) ∧ Hid (X450.heap.size ≤ gd))
        case first =>
          refine wp_region_any (by kernel_rfl) ?_
          change wpAny _ _ _ _ _ _ _ (World.drew _)
          refine wpAny_of_held (S := fun w' => w'.rangeAt g8 0 A3 ∧ w'.rangeAt g13 0 C3 ∧ w'.rangeAt g412 0 L412) _ _ _ _ ?_
          have y0 : Below X450.heap.size X450 X450.drew := below_draws X450 1
          refine wpAnyH_take_at (i := 0) (v := .agg A3.toArray) rfl rfl (by kernel_rfl) (by kernel_rfl) (by kernel_rfl) (fun _ _ _ h => h) (yieldsIf_load_mid (by rfl) 49 (.tmp 7) rfl g8 0 rfl A3 _ (fun w h => h.1) Try.underlying49 rfl (by rw [fx3.out.len]; kernel_rfl)) ⟨(((b456.out.below y0 b456.out.lt)).range 0 _ [] (by simp)), (((b457.out.below y0 b457.out.lt)).range 0 _ [] (by simp)), (((b458.out.below y0 b458.out.lt)).range 0 _ [] (by simp))⟩ ?_
          simp only [List.setIfInBounds_toArray, List.set_cons_zero, List.set_cons_succ]
          refine wpAnyH_take_at (i := 1) (v := .agg C3.toArray) rfl rfl (by kernel_rfl) (by kernel_rfl) (by kernel_rfl) (fun _ _ _ h => h) (yieldsIf_load_mid (by rfl) 49 (.tmp 8) rfl g13 0 rfl C3 _ (fun w h => h.2.1) Try.underlying49 rfl (by rw [fz3.out.len]; kernel_rfl)) ⟨(((b456.out.below y0 b456.out.lt)).range 0 _ [] (by simp)), (((b457.out.below y0 b457.out.lt)).range 0 _ [] (by simp)), (((b458.out.below y0 b458.out.lt)).range 0 _ [] (by simp))⟩ ?_
          simp only [List.setIfInBounds_toArray, List.set_cons_zero, List.set_cons_succ]
          refine wpAnyH_take_at (i := 3) (v := .agg L412.toArray) rfl rfl (by kernel_rfl) (by kernel_rfl) (by kernel_rfl) (fun _ _ _ h => h) (yieldsIf_load_mid (by rfl) 49 (.tmp 11) rfl g412 0 rfl L412 _ (fun w h => h.2.2) Try.underlying49 rfl (by rw [h412.out.len]; kernel_rfl)) ⟨(((b456.out.below y0 b456.out.lt)).range 0 _ [] (by simp)), (((b457.out.below y0 b457.out.lt)).range 0 _ [] (by simp)), (((b458.out.below y0 b458.out.lt)).range 0 _ [] (by simp))⟩ ?_
          simp only [List.setIfInBounds_toArray, List.set_cons_zero, List.set_cons_succ]
          refine wpAnyH_ready (rs := [2, 5]) (by kernel_rfl) (by simp) ?_
          refine AllReadyH.cons rfl (fun KC hK => ?_) (AllReadyH.cons rfl (fun KC hK => ?_) AllReadyH.nil)
          · skip
            go_simp
            refine (CB.out _ _ _ _ _ _ fx3 fz3 ltz3 hr463).mono ?_
            rintro e v1 ⟨T462_2, rfl, lT1, zc1⟩
            have hT462_2 := Lib.hid lT1
            have y1 := y0.trans (zc1.mono y0.size)
            refine hK _ _ ⟨(((b456.out.below y1 b456.out.lt)).range 0 _ [] (by simp)), (((b457.out.below y1 b457.out.lt)).range 0 _ [] (by simp)), (((b458.out.below y1 b458.out.lt)).range 0 _ [] (by simp))⟩ (fun _ => ?_)
            clear hK KC lT1
            refine wpAnyH_ready (rs := [4, 5]) (by kernel_rfl) (by simp) ?_
            refine AllReadyH.cons rfl (fun KC hK => ?_) (AllReadyH.cons rfl (fun KC hK => ?_) AllReadyH.nil)
            · skip
              go_simp
              refine (CM.out _ _ _ _ _ _ hT462_2 h412 hr464).mono ?_
              rintro e v2 ⟨T462_4, rfl, lT2, zc2⟩
              have hT462_4 := Lib.hid lT2
              have y2 := y1.trans (zc2.mono y1.size)
              refine hK _ _ ⟨(((b456.out.below y2 b456.out.lt)).range 0 _ [] (by simp)), (((b457.out.below y2 b457.out.lt)).range 0 _ [] (by simp)), (((b458.out.below y2 b458.out.lt)).range 0 _ [] (by simp))⟩ (fun _ => ?_)
              clear hK KC lT2
              refine wpAnyH_ready (rs := [5]) (by kernel_rfl) (by simp) ?_
              refine AllReadyH.cons rfl (fun KC hK => ?_) AllReadyH.nil
              go_simp
              obtain ⟨gd, hgd⟩ : ∃ v, v = v2.heap.size := ⟨_, rfl⟩
              have hgl : X450.heap.size ≤ gd := by rw [hgd]; exact y2.size
              have M3 : Hid (Blk (v2.alloc (.cells z32.toArray 49)) gd 49 z32) := Blk.newAt _ _ _ _ _ hgd rfl
              have y3 : Below X450.heap.size X450 (v2.alloc (.cells z32.toArray 49)) := y2.alloc y2.size _
              obtain ⟨v3, hv3⟩ : ∃ v, v = (v2.alloc (.cells z32.toArray 49)) := ⟨_, rfl⟩
              first | rw [← z32_arr, ← hgd, ← hv3] | rw [← hgd, ← hv3]
              rw [← hv3] at y3 M3
              refine hK _ _ ⟨(((b456.out.below y3 b456.out.lt)).range 0 _ [] (by simp)), (((b457.out.below y3 b457.out.lt)).range 0 _ [] (by simp)), (((b458.out.below y3 b458.out.lt)).range 0 _ [] (by simp))⟩ (fun _ => ?_)
              clear hK KC hgd hv3
              refine wpAnyH_ready (rs := [6]) (by kernel_rfl) (by simp) ?_
              refine AllReadyH.cons rfl (fun KC hK => ?_) AllReadyH.nil
              refine step_store_blk rfl 49 (.tmp 16) (.tmp 61) rfl gd T462_4.toArray rfl rfl 49 z32 M3.out (by rw [List.size_toArray, hT462_4.out.len]; kernel_rfl) (by rw [List.size_toArray, hT462_4.out.len, z32_len]) hT462_4.out.one ?_
              intro w3 hb3 ho3
              have ye : Below X450.heap.size X450 w3 := y3.trans (ho3.below y3.size hgl)
              refine hK _ _ ⟨(((b456.out.below ye b456.out.lt)).range 0 _ [] (by simp)), (((b457.out.below ye b457.out.lt)).range 0 _ [] (by simp)), (((b458.out.below ye b458.out.lt)).range 0 _ [] (by simp))⟩ (fun _ => ?_)
              clear hK KC
              refine wpAnyH_done (by kernel_rfl) ?_ _
              go_wp2_with fail
              go_meet
              case rel => exact ⟨gd, T462_4, rfl, hT462_4, hb3, ye, hgl⟩
            · skip
              go_simp
              obtain ⟨gd, hgd⟩ : ∃ v, v = v1.heap.size := ⟨_, rfl⟩
              have hgl : X450.heap.size ≤ gd := by rw [hgd]; exact y1.size
              have M4 : Hid (Blk (v1.alloc (.cells z32.toArray 49)) gd 49 z32) := Blk.newAt _ _ _ _ _ hgd rfl
              have y4 : Below X450.heap.size X450 (v1.alloc (.cells z32.toArray 49)) := y1.alloc y1.size _
              obtain ⟨v4, hv4⟩ : ∃ v, v = (v1.alloc (.cells z32.toArray 49)) := ⟨_, rfl⟩
              first | rw [← z32_arr, ← hgd, ← hv4] | rw [← hgd, ← hv4]
              rw [← hv4] at y4 M4
              refine hK _ _ ⟨(((b456.out.below y4 b456.out.lt)).range 0 _ [] (by simp)), (((b457.out.below y4 b457.out.lt)).range 0 _ [] (by simp)), (((b458.out.below y4 b458.out.lt)).range 0 _ [] (by simp))⟩ (fun _ => ?_)
              clear hK KC hgd hv4
              refine wpAnyH_ready (rs := [4]) (by kernel_rfl) (by simp) ?_
              refine AllReadyH.cons rfl (fun KC hK => ?_) AllReadyH.nil
              go_simp
              refine (CM.out _ _ _ _ _ _ hT462_2 h412 hr464).mono ?_
              rintro e v5 ⟨T462_4, rfl, lT5, zc5⟩
              have hT462_4 := Lib.hid lT5
              have y5 := y4.trans (zc5.mono y4.size)
              have M5 : Hid (Blk v5 gd 49 z32) := M4.out.below zc5 M4.out.lt
              refine hK _ _ ⟨(((b456.out.below y5 b456.out.lt)).range 0 _ [] (by simp)), (((b457.out.below y5 b457.out.lt)).range 0 _ [] (by simp)), (((b458.out.below y5 b458.out.lt)).range 0 _ [] (by simp))⟩ (fun _ => ?_)
              clear hK KC lT5
              refine wpAnyH_ready (rs := [6]) (by kernel_rfl) (by simp) ?_
              refine AllReadyH.cons rfl (fun KC hK => ?_) AllReadyH.nil
              refine step_store_blk rfl 49 (.tmp 16) (.tmp 61) rfl gd T462_4.toArray rfl rfl 49 z32 M5.out (by rw [List.size_toArray, hT462_4.out.len]; kernel_rfl) (by rw [List.size_toArray, hT462_4.out.len, z32_len]) hT462_4.out.one ?_
              intro w3 hb3 ho3
              have ye : Below X450.heap.size X450 w3 := y5.trans (ho3.below y5.size hgl)
              refine hK _ _ ⟨(((b456.out.below ye b456.out.lt)).range 0 _ [] (by simp)), (((b457.out.below ye b457.out.lt)).range 0 _ [] (by simp)), (((b458.out.below ye b458.out.lt)).range 0 _ [] (by simp))⟩ (fun _ => ?_)
              clear hK KC
              refine wpAnyH_done (by kernel_rfl) ?_ _
              go_wp2_with fail
              go_meet
              case rel => exact ⟨gd, T462_4, rfl, hT462_4, hb3, ye, hgl⟩
          · skip
            go_simp
            obtain ⟨gd, hgd⟩ : ∃ v, v = X450.heap.size := ⟨_, rfl⟩
            have hgl : X450.heap.size ≤ gd := by rw [hgd]; exact y0.size
            have M6 : Hid (Blk (X450.alloc (.cells z32.toArray 49)).drew gd 49 z32) := Blk.newAt _ _ _ _ _ hgd rfl
            have y6 : Below X450.heap.size X450 (X450.alloc (.cells z32.toArray 49)).drew := drewN_below ((Below.refl _ _).alloc (Nat.le_refl _) _) 1
            obtain ⟨v6, hv6⟩ : ∃ v, v = (X450.alloc (.cells z32.toArray 49)).drew := ⟨_, rfl⟩
            first | rw [← z32_arr, ← hgd, ← hv6] | rw [← hgd, ← hv6]
            rw [← hv6] at y6 M6
            refine hK _ _ ⟨(((b456.out.below y6 b456.out.lt)).range 0 _ [] (by simp)), (((b457.out.below y6 b457.out.lt)).range 0 _ [] (by simp)), (((b458.out.below y6 b458.out.lt)).range 0 _ [] (by simp))⟩ (fun _ => ?_)
            clear hK KC hgd hv6
            refine wpAnyH_ready (rs := [2]) (by kernel_rfl) (by simp) ?_
            refine AllReadyH.cons rfl (fun KC hK => ?_) AllReadyH.nil
            go_simp
            refine (CB.out _ _ _ _ _ _ fx3 fz3 ltz3 hr463).mono ?_
            rintro e v7 ⟨T462_2, rfl, lT7, zc7⟩
            have hT462_2 := Lib.hid lT7
            have y7 := y6.trans (zc7.mono y6.size)
            have M7 : Hid (Blk v7 gd 49 z32) := M6.out.below zc7 M6.out.lt
            refine hK _ _ ⟨(((b456.out.below y7 b456.out.lt)).range 0 _ [] (by simp)), (((b457.out.below y7 b457.out.lt)).range 0 _ [] (by simp)), (((b458.out.below y7 b458.out.lt)).range 0 _ [] (by simp))⟩ (fun _ => ?_)
            clear hK KC lT7
            refine wpAnyH_ready (rs := [4]) (by kernel_rfl) (by simp) ?_
            refine AllReadyH.cons rfl (fun KC hK => ?_) AllReadyH.nil
            go_simp
            refine (CM.out _ _ _ _ _ _ hT462_2 h412 hr464).mono ?_
            rintro e v8 ⟨T462_4, rfl, lT8, zc8⟩
            have hT462_4 := Lib.hid lT8
            have y8 := y7.trans (zc8.mono y7.size)
            have M8 : Hid (Blk v8 gd 49 z32) := M7.out.below zc8 M7.out.lt
            refine hK _ _ ⟨(((b456.out.below y8 b456.out.lt)).range 0 _ [] (by simp)), (((b457.out.below y8 b457.out.lt)).range 0 _ [] (by simp)), (((b458.out.below y8 b458.out.lt)).range 0 _ [] (by simp))⟩ (fun _ => ?_)
            clear hK KC lT8
            refine wpAnyH_ready (rs := [6]) (by kernel_rfl) (by simp) ?_
            refine AllReadyH.cons rfl (fun KC hK => ?_) AllReadyH.nil
            refine step_store_blk rfl 49 (.tmp 16) (.tmp 61) rfl gd T462_4.toArray rfl rfl 49 z32 M8.out (by rw [List.size_toArray, hT462_4.out.len]; kernel_rfl) (by rw [List.size_toArray, hT462_4.out.len, z32_len]) hT462_4.out.one ?_
            intro w3 hb3 ho3
            have ye : Below X450.heap.size X450 w3 := y8.trans (ho3.below y8.size hgl)
            refine hK _ _ ⟨(((b456.out.below ye b456.out.lt)).range 0 _ [] (by simp)), (((b457.out.below ye b457.out.lt)).range 0 _ [] (by simp)), (((b458.out.below ye b458.out.lt)).range 0 _ [] (by simp))⟩ (fun _ => ?_)
            clear hK KC
            refine wpAnyH_done (by kernel_rfl) ?_ _
            go_wp2_with fail
            go_meet
            case rel => exact ⟨gd, T462_4, rfl, hT462_4, hb3, ye, hgl⟩
        case rest =>
        obtain ⟨g465, L465, rfl, h465, N465, U465, G465⟩ := hcut
        obtain ⟨X465, rfl⟩ : ∃ x, x = wc := ⟨_, rfl⟩
        have KK465 : Hid (Below w.heap.size w X465) := KK450.out.trans (U465.out.mono KK450.out.size)
        have C465 : Hid (g450 < g465) := Nat.lt_of_lt_of_le Q450.out.lt G465.out
        have b466 : Hid (Blk X465 g 49 UL) := b452.out.below U465.out b452.out.lt
        clear b452
        have b467 : Hid (Blk X465 (g + 1) 49 z32) := b453.out.below U465.out b453.out.lt
        clear b453
        have b468 : Hid (Blk X465 g1 49 A2) := b454.out.below U465.out b454.out.lt
        clear b454
        have b469 : Hid (Blk X465 g4 49 C2) := b455.out.below U465.out b455.out.lt
        clear b455
        have b470 : Hid (Blk X465 g8 49 A3) := b456.out.below U465.out b456.out.lt
        clear b456
        have b471 : Hid (Blk X465 g13 49 C3) := b457.out.below U465.out b457.out.lt
        clear b457
        have b472 : Hid (Blk X465 g412 49 L412) := b458.out.below U465.out b458.out.lt
        clear b458
        have b473 : Hid (Blk X465 g420 49 L420) := b459.out.below U465.out b459.out.lt
        clear b459
        have b474 : Hid (Blk X465 g429 49 L429) := b460.out.below U465.out b460.out.lt
        clear b460
        have b475 : Hid (Blk X465 g439 49 L439) := b461.out.below U465.out b461.out.lt
        clear b461
        have b476 : Hid (Blk X465 g450 49 L450) := Q450.out.below U465.out Q450.out.lt
        clear Q450
        clear U465 G465 KK450
        obtain ⟨r478, hr478⟩ : ∃ r, Hid ((x3 + z3) % q = r) := ⟨(x3 + z3) % q, rfl⟩
        have ltr478 : Hid (r478 < q) := by rw [← hr478.out]; exact Nat.mod_lt _ HQ0.out
        obtain ⟨r479, hr479⟩ : ∃ r, Hid (r478 * r421 % q = r) := ⟨r478 * r421 % q, rfl⟩
        have ltr479 : Hid (r479 < q) := by rw [← hr479.out]; exact Nat.mod_lt _ HQ0.out
        go_upto_region 18 with fail
        go_cut [17] from 22 to 98 (fun sv wx => ∃ (gd : Nat) (L : List Value), sv = .pointer (some ⟨gd, 0, none⟩) ∧ Hid (IsN L r479) ∧ Hid (Blk wx gd 49 L) ∧ Hid (Below X465.heap.size X465 wx) ∧ Hid (X465.heap.size ≤ gd))
        case first =>
          refine wp_region_any (by kernel_rfl) ?_
          change wpAny _ _ _ _ _ _ _ (World.drew _)
          refine wpAny_of_held (S := fun w' => w'.rangeAt g8 0 A3 ∧ w'.rangeAt g13 0 C3 ∧ w'.rangeAt g420 0 L420) _ _ _ _ ?_
          have y0 : Below X465.heap.size X465 X465.drew := below_draws X465 1
          refine wpAnyH_take_at (i := 0) (v := .agg A3.toArray) rfl rfl (by kernel_rfl) (by kernel_rfl) (by kernel_rfl) (fun _ _ _ h => h) (yieldsIf_load_mid (by rfl) 49 (.tmp 7) rfl g8 0 rfl A3 _ (fun w h => h.1) Try.underlying49 rfl (by rw [fx3.out.len]; kernel_rfl)) ⟨(((b470.out.below y0 b470.out.lt)).range 0 _ [] (by simp)), (((b471.out.below y0 b471.out.lt)).range 0 _ [] (by simp)), (((b473.out.below y0 b473.out.lt)).range 0 _ [] (by simp))⟩ ?_
          simp only [List.setIfInBounds_toArray, List.set_cons_zero, List.set_cons_succ]
          refine wpAnyH_take_at (i := 1) (v := .agg C3.toArray) rfl rfl (by kernel_rfl) (by kernel_rfl) (by kernel_rfl) (fun _ _ _ h => h) (yieldsIf_load_mid (by rfl) 49 (.tmp 8) rfl g13 0 rfl C3 _ (fun w h => h.2.1) Try.underlying49 rfl (by rw [fz3.out.len]; kernel_rfl)) ⟨(((b470.out.below y0 b470.out.lt)).range 0 _ [] (by simp)), (((b471.out.below y0 b471.out.lt)).range 0 _ [] (by simp)), (((b473.out.below y0 b473.out.lt)).range 0 _ [] (by simp))⟩ ?_
          simp only [List.setIfInBounds_toArray, List.set_cons_zero, List.set_cons_succ]
          refine wpAnyH_take_at (i := 3) (v := .agg L420.toArray) rfl rfl (by kernel_rfl) (by kernel_rfl) (by kernel_rfl) (fun _ _ _ h => h) (yieldsIf_load_mid (by rfl) 49 (.tmp 12) rfl g420 0 rfl L420 _ (fun w h => h.2.2) Try.underlying49 rfl (by rw [h420.out.len]; kernel_rfl)) ⟨(((b470.out.below y0 b470.out.lt)).range 0 _ [] (by simp)), (((b471.out.below y0 b471.out.lt)).range 0 _ [] (by simp)), (((b473.out.below y0 b473.out.lt)).range 0 _ [] (by simp))⟩ ?_
          simp only [List.setIfInBounds_toArray, List.set_cons_zero, List.set_cons_succ]
          refine wpAnyH_ready (rs := [2, 5]) (by kernel_rfl) (by simp) ?_
          refine AllReadyH.cons rfl (fun KC hK => ?_) (AllReadyH.cons rfl (fun KC hK => ?_) AllReadyH.nil)
          · skip
            go_simp
            refine (CA.out _ _ _ _ _ _ fx3 fz3 hr478).mono ?_
            rintro e v1 ⟨T477_2, rfl, lT1, zc1⟩
            have hT477_2 := Lib.hid lT1
            have y1 := y0.trans (zc1.mono y0.size)
            refine hK _ _ ⟨(((b470.out.below y1 b470.out.lt)).range 0 _ [] (by simp)), (((b471.out.below y1 b471.out.lt)).range 0 _ [] (by simp)), (((b473.out.below y1 b473.out.lt)).range 0 _ [] (by simp))⟩ (fun _ => ?_)
            clear hK KC lT1
            refine wpAnyH_ready (rs := [4, 5]) (by kernel_rfl) (by simp) ?_
            refine AllReadyH.cons rfl (fun KC hK => ?_) (AllReadyH.cons rfl (fun KC hK => ?_) AllReadyH.nil)
            · skip
              go_simp
              refine (CM.out _ _ _ _ _ _ hT477_2 h420 hr479).mono ?_
              rintro e v2 ⟨T477_4, rfl, lT2, zc2⟩
              have hT477_4 := Lib.hid lT2
              have y2 := y1.trans (zc2.mono y1.size)
              refine hK _ _ ⟨(((b470.out.below y2 b470.out.lt)).range 0 _ [] (by simp)), (((b471.out.below y2 b471.out.lt)).range 0 _ [] (by simp)), (((b473.out.below y2 b473.out.lt)).range 0 _ [] (by simp))⟩ (fun _ => ?_)
              clear hK KC lT2
              refine wpAnyH_ready (rs := [5]) (by kernel_rfl) (by simp) ?_
              refine AllReadyH.cons rfl (fun KC hK => ?_) AllReadyH.nil
              go_simp
              obtain ⟨gd, hgd⟩ : ∃ v, v = v2.heap.size := ⟨_, rfl⟩
              have hgl : X465.heap.size ≤ gd := by rw [hgd]; exact y2.size
              have M3 : Hid (Blk (v2.alloc (.cells z32.toArray 49)) gd 49 z32) := Blk.newAt _ _ _ _ _ hgd rfl
              have y3 : Below X465.heap.size X465 (v2.alloc (.cells z32.toArray 49)) := y2.alloc y2.size _
              obtain ⟨v3, hv3⟩ : ∃ v, v = (v2.alloc (.cells z32.toArray 49)) := ⟨_, rfl⟩
              first | rw [← z32_arr, ← hgd, ← hv3] | rw [← hgd, ← hv3]
              rw [← hv3] at y3 M3
              refine hK _ _ ⟨(((b470.out.below y3 b470.out.lt)).range 0 _ [] (by simp)), (((b471.out.below y3 b471.out.lt)).range 0 _ [] (by simp)), (((b473.out.below y3 b473.out.lt)).range 0 _ [] (by simp))⟩ (fun _ => ?_)
              clear hK KC hgd hv3
              refine wpAnyH_ready (rs := [6]) (by kernel_rfl) (by simp) ?_
              refine AllReadyH.cons rfl (fun KC hK => ?_) AllReadyH.nil
              refine step_store_blk rfl 49 (.tmp 17) (.tmp 66) rfl gd T477_4.toArray rfl rfl 49 z32 M3.out (by rw [List.size_toArray, hT477_4.out.len]; kernel_rfl) (by rw [List.size_toArray, hT477_4.out.len, z32_len]) hT477_4.out.one ?_
              intro w3 hb3 ho3
              have ye : Below X465.heap.size X465 w3 := y3.trans (ho3.below y3.size hgl)
              refine hK _ _ ⟨(((b470.out.below ye b470.out.lt)).range 0 _ [] (by simp)), (((b471.out.below ye b471.out.lt)).range 0 _ [] (by simp)), (((b473.out.below ye b473.out.lt)).range 0 _ [] (by simp))⟩ (fun _ => ?_)
              clear hK KC
              refine wpAnyH_done (by kernel_rfl) ?_ _
              go_wp2_with fail
              go_meet
              case rel => exact ⟨gd, T477_4, rfl, hT477_4, hb3, ye, hgl⟩
            · skip
              go_simp
              obtain ⟨gd, hgd⟩ : ∃ v, v = v1.heap.size := ⟨_, rfl⟩
              have hgl : X465.heap.size ≤ gd := by rw [hgd]; exact y1.size
              have M4 : Hid (Blk (v1.alloc (.cells z32.toArray 49)) gd 49 z32) := Blk.newAt _ _ _ _ _ hgd rfl
              have y4 : Below X465.heap.size X465 (v1.alloc (.cells z32.toArray 49)) := y1.alloc y1.size _
              obtain ⟨v4, hv4⟩ : ∃ v, v = (v1.alloc (.cells z32.toArray 49)) := ⟨_, rfl⟩
              first | rw [← z32_arr, ← hgd, ← hv4] | rw [← hgd, ← hv4]
              rw [← hv4] at y4 M4
              refine hK _ _ ⟨(((b470.out.below y4 b470.out.lt)).range 0 _ [] (by simp)), (((b471.out.below y4 b471.out.lt)).range 0 _ [] (by simp)), (((b473.out.below y4 b473.out.lt)).range 0 _ [] (by simp))⟩ (fun _ => ?_)
              clear hK KC hgd hv4
              refine wpAnyH_ready (rs := [4]) (by kernel_rfl) (by simp) ?_
              refine AllReadyH.cons rfl (fun KC hK => ?_) AllReadyH.nil
              go_simp
              refine (CM.out _ _ _ _ _ _ hT477_2 h420 hr479).mono ?_
              rintro e v5 ⟨T477_4, rfl, lT5, zc5⟩
              have hT477_4 := Lib.hid lT5
              have y5 := y4.trans (zc5.mono y4.size)
              have M5 : Hid (Blk v5 gd 49 z32) := M4.out.below zc5 M4.out.lt
              refine hK _ _ ⟨(((b470.out.below y5 b470.out.lt)).range 0 _ [] (by simp)), (((b471.out.below y5 b471.out.lt)).range 0 _ [] (by simp)), (((b473.out.below y5 b473.out.lt)).range 0 _ [] (by simp))⟩ (fun _ => ?_)
              clear hK KC lT5
              refine wpAnyH_ready (rs := [6]) (by kernel_rfl) (by simp) ?_
              refine AllReadyH.cons rfl (fun KC hK => ?_) AllReadyH.nil
              refine step_store_blk rfl 49 (.tmp 17) (.tmp 66) rfl gd T477_4.toArray rfl rfl 49 z32 M5.out (by rw [List.size_toArray, hT477_4.out.len]; kernel_rfl) (by rw [List.size_toArray, hT477_4.out.len, z32_len]) hT477_4.out.one ?_
              intro w3 hb3 ho3
              have ye : Below X465.heap.size X465 w3 := y5.trans (ho3.below y5.size hgl)
              refine hK _ _ ⟨(((b470.out.below ye b470.out.lt)).range 0 _ [] (by simp)), (((b471.out.below ye b471.out.lt)).range 0 _ [] (by simp)), (((b473.out.below ye b473.out.lt)).range 0 _ [] (by simp))⟩ (fun _ => ?_)
              clear hK KC
              refine wpAnyH_done (by kernel_rfl) ?_ _
              go_wp2_with fail
              go_meet
              case rel => exact ⟨gd, T477_4, rfl, hT477_4, hb3, ye, hgl⟩
          · skip
            go_simp
            obtain ⟨gd, hgd⟩ : ∃ v, v = X465.heap.size := ⟨_, rfl⟩
            have hgl : X465.heap.size ≤ gd := by rw [hgd]; exact y0.size
            have M6 : Hid (Blk (X465.alloc (.cells z32.toArray 49)).drew gd 49 z32) := Blk.newAt _ _ _ _ _ hgd rfl
            have y6 : Below X465.heap.size X465 (X465.alloc (.cells z32.toArray 49)).drew := drewN_below ((Below.refl _ _).alloc (Nat.le_refl _) _) 1
            obtain ⟨v6, hv6⟩ : ∃ v, v = (X465.alloc (.cells z32.toArray 49)).drew := ⟨_, rfl⟩
            first | rw [← z32_arr, ← hgd, ← hv6] | rw [← hgd, ← hv6]
            rw [← hv6] at y6 M6
            refine hK _ _ ⟨(((b470.out.below y6 b470.out.lt)).range 0 _ [] (by simp)), (((b471.out.below y6 b471.out.lt)).range 0 _ [] (by simp)), (((b473.out.below y6 b473.out.lt)).range 0 _ [] (by simp))⟩ (fun _ => ?_)
            clear hK KC hgd hv6
            refine wpAnyH_ready (rs := [2]) (by kernel_rfl) (by simp) ?_
            refine AllReadyH.cons rfl (fun KC hK => ?_) AllReadyH.nil
            go_simp
            refine (CA.out _ _ _ _ _ _ fx3 fz3 hr478).mono ?_
            rintro e v7 ⟨T477_2, rfl, lT7, zc7⟩
            have hT477_2 := Lib.hid lT7
            have y7 := y6.trans (zc7.mono y6.size)
            have M7 : Hid (Blk v7 gd 49 z32) := M6.out.below zc7 M6.out.lt
            refine hK _ _ ⟨(((b470.out.below y7 b470.out.lt)).range 0 _ [] (by simp)), (((b471.out.below y7 b471.out.lt)).range 0 _ [] (by simp)), (((b473.out.below y7 b473.out.lt)).range 0 _ [] (by simp))⟩ (fun _ => ?_)
            clear hK KC lT7
            refine wpAnyH_ready (rs := [4]) (by kernel_rfl) (by simp) ?_
            refine AllReadyH.cons rfl (fun KC hK => ?_) AllReadyH.nil
            go_simp
            refine (CM.out _ _ _ _ _ _ hT477_2 h420 hr479).mono ?_
            rintro e v8 ⟨T477_4, rfl, lT8, zc8⟩
            have hT477_4 := Lib.hid lT8
            have y8 := y7.trans (zc8.mono y7.size)
            have M8 : Hid (Blk v8 gd 49 z32) := M7.out.below zc8 M7.out.lt
            refine hK _ _ ⟨(((b470.out.below y8 b470.out.lt)).range 0 _ [] (by simp)), (((b471.out.below y8 b471.out.lt)).range 0 _ [] (by simp)), (((b473.out.below y8 b473.out.lt)).range 0 _ [] (by simp))⟩ (fun _ => ?_)
            clear hK KC lT8
            refine wpAnyH_ready (rs := [6]) (by kernel_rfl) (by simp) ?_
            refine AllReadyH.cons rfl (fun KC hK => ?_) AllReadyH.nil
            refine step_store_blk rfl 49 (.tmp 17) (.tmp 66) rfl gd T477_4.toArray rfl rfl 49 z32 M8.out (by rw [List.size_toArray, hT477_4.out.len]; kernel_rfl) (by rw [List.size_toArray, hT477_4.out.len, z32_len]) hT477_4.out.one ?_
            intro w3 hb3 ho3
            have ye : Below X465.heap.size X465 w3 := y8.trans (ho3.below y8.size hgl)
            refine hK _ _ ⟨(((b470.out.below ye b470.out.lt)).range 0 _ [] (by simp)), (((b471.out.below ye b471.out.lt)).range 0 _ [] (by simp)), (((b473.out.below ye b473.out.lt)).range 0 _ [] (by simp))⟩ (fun _ => ?_)
            clear hK KC
            refine wpAnyH_done (by kernel_rfl) ?_ _
            go_wp2_with fail
            go_meet
            case rel => exact ⟨gd, T477_4, rfl, hT477_4, hb3, ye, hgl⟩
        case rest =>
        obtain ⟨g480, L480, rfl, h480, N480, U480, G480⟩ := hcut
        obtain ⟨X480, rfl⟩ : ∃ x, x = wc := ⟨_, rfl⟩
        have KK480 : Hid (Below w.heap.size w X480) := KK465.out.trans (U480.out.mono KK465.out.size)
        have C480 : Hid (g465 < g480) := Nat.lt_of_lt_of_le N465.out.lt G480.out
        have b481 : Hid (Blk X480 g 49 UL) := b466.out.below U480.out b466.out.lt
        clear b466
        have b482 : Hid (Blk X480 (g + 1) 49 z32) := b467.out.below U480.out b467.out.lt
        clear b467
        have b483 : Hid (Blk X480 g1 49 A2) := b468.out.below U480.out b468.out.lt
        clear b468
        have b484 : Hid (Blk X480 g4 49 C2) := b469.out.below U480.out b469.out.lt
        clear b469
        have b485 : Hid (Blk X480 g8 49 A3) := b470.out.below U480.out b470.out.lt
        clear b470
        have b486 : Hid (Blk X480 g13 49 C3) := b471.out.below U480.out b471.out.lt
        clear b471
        have b487 : Hid (Blk X480 g412 49 L412) := b472.out.below U480.out b472.out.lt
        clear b472
        have b488 : Hid (Blk X480 g420 49 L420) := b473.out.below U480.out b473.out.lt
        clear b473
        have b489 : Hid (Blk X480 g429 49 L429) := b474.out.below U480.out b474.out.lt
        clear b474
        have b490 : Hid (Blk X480 g439 49 L439) := b475.out.below U480.out b475.out.lt
        clear b475
        have b491 : Hid (Blk X480 g450 49 L450) := b476.out.below U480.out b476.out.lt
        clear b476
        have b492 : Hid (Blk X480 g465 49 L465) := N465.out.below U480.out N465.out.lt
        clear N465
        clear U480 G480 KK465
        obtain ⟨r494, hr494⟩ : ∃ r, Hid ((r464 + r479) % q = r) := ⟨(r464 + r479) % q, rfl⟩
        have ltr494 : Hid (r494 < q) := by rw [← hr494.out]; exact Nat.mod_lt _ HQ0.out
        obtain ⟨r495, hr495⟩ : ∃ r, Hid (r494 * r494 % q = r) := ⟨r494 * r494 % q, rfl⟩
        have ltr495 : Hid (r495 < q) := by rw [← hr495.out]; exact Nat.mod_lt _ HQ0.out
        go_upto_region 19 with fail
        refine wp_region_any (by kernel_rfl) ?_
        change wpAny _ _ _ _ _ _ _ (World.drew _)
        refine wpAny_of_held (S := fun w' => w'.rangeAt g465 0 L465 ∧ w'.rangeAt g480 0 L480) _ _ _ _ ?_
        have y0 : Below X480.heap.size X480 X480.drew := below_draws X480 1
        refine wpAnyH_take_at (i := 0) (v := .agg L465.toArray) rfl rfl (by kernel_rfl) (by kernel_rfl) (by kernel_rfl) (fun _ _ _ h => h) (yieldsIf_load_mid (by rfl) 49 (.tmp 16) rfl g465 0 rfl L465 _ (fun w h => h.1) Try.underlying49 rfl (by rw [h465.out.len]; kernel_rfl)) ⟨(((b492.out.below y0 b492.out.lt)).range 0 _ [] (by simp)), (((N480.out.below y0 N480.out.lt)).range 0 _ [] (by simp))⟩ ?_
        simp only [List.setIfInBounds_toArray, List.set_cons_zero, List.set_cons_succ]
        refine wpAnyH_take_at (i := 1) (v := .agg L480.toArray) rfl rfl (by kernel_rfl) (by kernel_rfl) (by kernel_rfl) (fun _ _ _ h => h) (yieldsIf_load_mid (by rfl) 49 (.tmp 17) rfl g480 0 rfl L480 _ (fun w h => h.2) Try.underlying49 rfl (by rw [h480.out.len]; kernel_rfl)) ⟨(((b492.out.below y0 b492.out.lt)).range 0 _ [] (by simp)), (((N480.out.below y0 N480.out.lt)).range 0 _ [] (by simp))⟩ ?_
        simp only [List.setIfInBounds_toArray, List.set_cons_zero, List.set_cons_succ]
        refine wpAnyH_take_at (i := 3) (v := .agg L465.toArray) rfl rfl (by kernel_rfl) (by kernel_rfl) (by kernel_rfl) (fun _ _ _ h => h) (yieldsIf_load_mid (by rfl) 49 (.tmp 16) rfl g465 0 rfl L465 _ (fun w h => h.1) Try.underlying49 rfl (by rw [h465.out.len]; kernel_rfl)) ⟨(((b492.out.below y0 b492.out.lt)).range 0 _ [] (by simp)), (((N480.out.below y0 N480.out.lt)).range 0 _ [] (by simp))⟩ ?_
        simp only [List.setIfInBounds_toArray, List.set_cons_zero, List.set_cons_succ]
        refine wpAnyH_take_at (i := 4) (v := .agg L480.toArray) rfl rfl (by kernel_rfl) (by kernel_rfl) (by kernel_rfl) (fun _ _ _ h => h) (yieldsIf_load_mid (by rfl) 49 (.tmp 17) rfl g480 0 rfl L480 _ (fun w h => h.2) Try.underlying49 rfl (by rw [h480.out.len]; kernel_rfl)) ⟨(((b492.out.below y0 b492.out.lt)).range 0 _ [] (by simp)), (((N480.out.below y0 N480.out.lt)).range 0 _ [] (by simp))⟩ ?_
        simp only [List.setIfInBounds_toArray, List.set_cons_zero, List.set_cons_succ]
        refine wpAnyH_ready (rs := [2]) (by kernel_rfl) (by simp) ?_
        refine AllReadyH.cons rfl (fun KC hK => ?_) AllReadyH.nil
        go_simp
        refine (CA.out _ _ _ _ _ _ h465 h480 hr494).mono ?_
        rintro e v1 ⟨T493_2, rfl, lT1, zc1⟩
        have hT493_2 := Lib.hid lT1
        have y1 := y0.trans (zc1.mono y0.size)
        refine hK _ _ ⟨(((b492.out.below y1 b492.out.lt)).range 0 _ [] (by simp)), (((N480.out.below y1 N480.out.lt)).range 0 _ [] (by simp))⟩ (fun _ => ?_)
        clear hK KC lT1
        refine wpAnyH_ready (rs := [5]) (by kernel_rfl) (by simp) ?_
        refine AllReadyH.cons rfl (fun KC hK => ?_) AllReadyH.nil
        go_simp
        refine (CA.out _ _ _ _ _ _ h465 h480 hr494).mono ?_
        rintro e v2 ⟨T493_5, rfl, lT2, zc2⟩
        have hT493_5 := Lib.hid lT2
        have y2 := y1.trans (zc2.mono y1.size)
        refine hK _ _ ⟨(((b492.out.below y2 b492.out.lt)).range 0 _ [] (by simp)), (((N480.out.below y2 N480.out.lt)).range 0 _ [] (by simp))⟩ (fun _ => ?_)
        clear hK KC lT2
        refine wpAnyH_ready (rs := [6]) (by kernel_rfl) (by simp) ?_
        refine AllReadyH.cons rfl (fun KC hK => ?_) AllReadyH.nil
        go_simp
        refine (CM.out _ _ _ _ _ _ hT493_2 hT493_5 hr495).mono ?_
        rintro e v3 ⟨T493_6, rfl, lT3, zc3⟩
        have hT493_6 := Lib.hid lT3
        have y3 := y2.trans (zc3.mono y2.size)
        refine hK _ _ ⟨(((b492.out.below y3 b492.out.lt)).range 0 _ [] (by simp)), (((N480.out.below y3 N480.out.lt)).range 0 _ [] (by simp))⟩ (fun _ => ?_)
        clear hK KC lT3
        refine wpAnyH_ready (rs := [7]) (by kernel_rfl) (by simp) ?_
        refine AllReadyH.cons rfl (fun KC hK => ?_) AllReadyH.nil
        refine step_store_blk rfl 49 (.tmp 7) (.tmp 73) rfl g8 T493_6.toArray rfl rfl 49 A3 (b485.out.below y3 b485.out.lt) (by rw [List.size_toArray, hT493_6.out.len]; kernel_rfl) (by rw [List.size_toArray, hT493_6.out.len, fx3.out.len]) hT493_6.out.one ?_
        intro w3 hb3 ho3
        refine hK _ _ ⟨(((b492.out.below y3 b492.out.lt).grown ho3 (by have := HG.out; have := C1.out; have := C4.out; have := C8.out; have := C13.out; have := C412.out; have := C420.out; have := C429.out; have := C439.out; have := C450.out; have := C465.out; have := C480.out; intro e; injection e with e; omega)).range 0 _ [] (by simp)), (((N480.out.below y3 N480.out.lt).grown ho3 (by have := HG.out; have := C1.out; have := C4.out; have := C8.out; have := C13.out; have := C412.out; have := C420.out; have := C429.out; have := C439.out; have := C450.out; have := C465.out; have := C480.out; intro e; injection e with e; omega)).range 0 _ [] (by simp))⟩ (fun _ => ?_)
        clear hK KC
        refine wpAnyH_done (by kernel_rfl) ?_ _
        obtain ⟨X496, rfl⟩ : ∃ x, x = w3 := ⟨_, rfl⟩
        have b497 : Hid (Blk X496 g 49 UL) := (b481.out.below y3 b481.out.lt).grown ho3 (by have := HG.out; have := C1.out; have := C4.out; have := C8.out; have := C13.out; have := C412.out; have := C420.out; have := C429.out; have := C439.out; have := C450.out; have := C465.out; have := C480.out; intro e; injection e with e; omega)
        clear b481
        have b498 : Hid (Blk X496 (g + 1) 49 z32) := (b482.out.below y3 b482.out.lt).grown ho3 (by have := HG.out; have := C1.out; have := C4.out; have := C8.out; have := C13.out; have := C412.out; have := C420.out; have := C429.out; have := C439.out; have := C450.out; have := C465.out; have := C480.out; intro e; injection e with e; omega)
        clear b482
        have b499 : Hid (Blk X496 g1 49 A2) := (b483.out.below y3 b483.out.lt).grown ho3 (by have := HG.out; have := C1.out; have := C4.out; have := C8.out; have := C13.out; have := C412.out; have := C420.out; have := C429.out; have := C439.out; have := C450.out; have := C465.out; have := C480.out; intro e; injection e with e; omega)
        clear b483
        have b500 : Hid (Blk X496 g4 49 C2) := (b484.out.below y3 b484.out.lt).grown ho3 (by have := HG.out; have := C1.out; have := C4.out; have := C8.out; have := C13.out; have := C412.out; have := C420.out; have := C429.out; have := C439.out; have := C450.out; have := C465.out; have := C480.out; intro e; injection e with e; omega)
        clear b484
        have b501 : Hid (Blk X496 g13 49 C3) := (b486.out.below y3 b486.out.lt).grown ho3 (by have := HG.out; have := C1.out; have := C4.out; have := C8.out; have := C13.out; have := C412.out; have := C420.out; have := C429.out; have := C439.out; have := C450.out; have := C465.out; have := C480.out; intro e; injection e with e; omega)
        clear b486
        have b502 : Hid (Blk X496 g412 49 L412) := (b487.out.below y3 b487.out.lt).grown ho3 (by have := HG.out; have := C1.out; have := C4.out; have := C8.out; have := C13.out; have := C412.out; have := C420.out; have := C429.out; have := C439.out; have := C450.out; have := C465.out; have := C480.out; intro e; injection e with e; omega)
        clear b487
        have b503 : Hid (Blk X496 g420 49 L420) := (b488.out.below y3 b488.out.lt).grown ho3 (by have := HG.out; have := C1.out; have := C4.out; have := C8.out; have := C13.out; have := C412.out; have := C420.out; have := C429.out; have := C439.out; have := C450.out; have := C465.out; have := C480.out; intro e; injection e with e; omega)
        clear b488
        have b504 : Hid (Blk X496 g429 49 L429) := (b489.out.below y3 b489.out.lt).grown ho3 (by have := HG.out; have := C1.out; have := C4.out; have := C8.out; have := C13.out; have := C412.out; have := C420.out; have := C429.out; have := C439.out; have := C450.out; have := C465.out; have := C480.out; intro e; injection e with e; omega)
        clear b489
        have b505 : Hid (Blk X496 g439 49 L439) := (b490.out.below y3 b490.out.lt).grown ho3 (by have := HG.out; have := C1.out; have := C4.out; have := C8.out; have := C13.out; have := C412.out; have := C420.out; have := C429.out; have := C439.out; have := C450.out; have := C465.out; have := C480.out; intro e; injection e with e; omega)
        clear b490
        have b506 : Hid (Blk X496 g450 49 L450) := (b491.out.below y3 b491.out.lt).grown ho3 (by have := HG.out; have := C1.out; have := C4.out; have := C8.out; have := C13.out; have := C412.out; have := C420.out; have := C429.out; have := C439.out; have := C450.out; have := C465.out; have := C480.out; intro e; injection e with e; omega)
        clear b491
        have b507 : Hid (Blk X496 g465 49 L465) := (b492.out.below y3 b492.out.lt).grown ho3 (by have := HG.out; have := C1.out; have := C4.out; have := C8.out; have := C13.out; have := C412.out; have := C420.out; have := C429.out; have := C439.out; have := C450.out; have := C465.out; have := C480.out; intro e; injection e with e; omega)
        clear b492
        have b508 : Hid (Blk X496 g480 49 L480) := (N480.out.below y3 N480.out.lt).grown ho3 (by have := HG.out; have := C1.out; have := C4.out; have := C8.out; have := C13.out; have := C412.out; have := C420.out; have := C429.out; have := C439.out; have := C450.out; have := C465.out; have := C480.out; intro e; injection e with e; omega)
        clear N480
        have Q496 : Hid (Blk X496 g8 49 T493_6) := hb3
        have KK496 : Hid (Below w.heap.size w X496) := by
          have h1 := KK480.out.trans (y3.mono KK480.out.size)
          exact h1.trans (ho3.below h1.size (by have := HG.out; have := C1.out; have := C4.out; have := C8.out; have := C13.out; have := C412.out; have := C420.out; have := C429.out; have := C439.out; have := C450.out; have := C465.out; have := C480.out; omega))
        have h496 := hT493_6
        clear b485 KK480 hb3 ho3 y0 y1 y2 y3
        obtain ⟨r510, hr510⟩ : ∃ r, Hid ((r464 + (q - r479)) % q = r) := ⟨(r464 + (q - r479)) % q, rfl⟩
        have ltr510 : Hid (r510 < q) := by rw [← hr510.out]; exact Nat.mod_lt _ HQ0.out
        obtain ⟨r511, hr511⟩ : ∃ r, Hid (r510 * r510 % q = r) := ⟨r510 * r510 % q, rfl⟩
        have ltr511 : Hid (r511 < q) := by rw [← hr511.out]; exact Nat.mod_lt _ HQ0.out
        obtain ⟨r512, hr512⟩ : ∃ r, Hid (u * r511 % q = r) := ⟨u * r511 % q, rfl⟩
        have ltr512 : Hid (r512 < q) := by rw [← hr512.out]; exact Nat.mod_lt _ HQ0.out
        go_upto_region 20 with fail
        refine wp_region_any (by kernel_rfl) ?_
        change wpAny _ _ _ _ _ _ _ (World.drew _)
        refine wpAny_of_held (S := fun w' => w'.rangeAt g 0 UL ∧ w'.rangeAt g465 0 L465 ∧ w'.rangeAt g480 0 L480) _ _ _ _ ?_
        have y0 : Below X496.heap.size X496 X496.drew := below_draws X496 1
        refine wpAnyH_take_at (i := 0) (v := .agg UL.toArray) rfl rfl (by kernel_rfl) (by kernel_rfl) (by kernel_rfl) (fun _ _ _ h => h) (yieldsIf_load_mid (by rfl) 49 (.tmp 3) rfl g 0 rfl UL _ (fun w h => h.1) Try.underlying49 rfl (by rw [HUL.out.len]; kernel_rfl)) ⟨(((b497.out.below y0 b497.out.lt)).range 0 _ [] (by simp)), (((b507.out.below y0 b507.out.lt)).range 0 _ [] (by simp)), (((b508.out.below y0 b508.out.lt)).range 0 _ [] (by simp))⟩ ?_
        simp only [List.setIfInBounds_toArray, List.set_cons_zero, List.set_cons_succ]
        refine wpAnyH_take_at (i := 1) (v := .agg L465.toArray) rfl rfl (by kernel_rfl) (by kernel_rfl) (by kernel_rfl) (fun _ _ _ h => h) (yieldsIf_load_mid (by rfl) 49 (.tmp 16) rfl g465 0 rfl L465 _ (fun w h => h.2.1) Try.underlying49 rfl (by rw [h465.out.len]; kernel_rfl)) ⟨(((b497.out.below y0 b497.out.lt)).range 0 _ [] (by simp)), (((b507.out.below y0 b507.out.lt)).range 0 _ [] (by simp)), (((b508.out.below y0 b508.out.lt)).range 0 _ [] (by simp))⟩ ?_
        simp only [List.setIfInBounds_toArray, List.set_cons_zero, List.set_cons_succ]
        refine wpAnyH_take_at (i := 2) (v := .agg L480.toArray) rfl rfl (by kernel_rfl) (by kernel_rfl) (by kernel_rfl) (fun _ _ _ h => h) (yieldsIf_load_mid (by rfl) 49 (.tmp 17) rfl g480 0 rfl L480 _ (fun w h => h.2.2) Try.underlying49 rfl (by rw [h480.out.len]; kernel_rfl)) ⟨(((b497.out.below y0 b497.out.lt)).range 0 _ [] (by simp)), (((b507.out.below y0 b507.out.lt)).range 0 _ [] (by simp)), (((b508.out.below y0 b508.out.lt)).range 0 _ [] (by simp))⟩ ?_
        simp only [List.setIfInBounds_toArray, List.set_cons_zero, List.set_cons_succ]
        refine wpAnyH_take_at (i := 4) (v := .agg L465.toArray) rfl rfl (by kernel_rfl) (by kernel_rfl) (by kernel_rfl) (fun _ _ _ h => h) (yieldsIf_load_mid (by rfl) 49 (.tmp 16) rfl g465 0 rfl L465 _ (fun w h => h.2.1) Try.underlying49 rfl (by rw [h465.out.len]; kernel_rfl)) ⟨(((b497.out.below y0 b497.out.lt)).range 0 _ [] (by simp)), (((b507.out.below y0 b507.out.lt)).range 0 _ [] (by simp)), (((b508.out.below y0 b508.out.lt)).range 0 _ [] (by simp))⟩ ?_
        simp only [List.setIfInBounds_toArray, List.set_cons_zero, List.set_cons_succ]
        refine wpAnyH_take_at (i := 5) (v := .agg L480.toArray) rfl rfl (by kernel_rfl) (by kernel_rfl) (by kernel_rfl) (fun _ _ _ h => h) (yieldsIf_load_mid (by rfl) 49 (.tmp 17) rfl g480 0 rfl L480 _ (fun w h => h.2.2) Try.underlying49 rfl (by rw [h480.out.len]; kernel_rfl)) ⟨(((b497.out.below y0 b497.out.lt)).range 0 _ [] (by simp)), (((b507.out.below y0 b507.out.lt)).range 0 _ [] (by simp)), (((b508.out.below y0 b508.out.lt)).range 0 _ [] (by simp))⟩ ?_
        simp only [List.setIfInBounds_toArray, List.set_cons_zero, List.set_cons_succ]
        refine wpAnyH_ready (rs := [3]) (by kernel_rfl) (by simp) ?_
        refine AllReadyH.cons rfl (fun KC hK => ?_) AllReadyH.nil
        go_simp
        refine (CB.out _ _ _ _ _ _ h465 h480 ltr479 hr510).mono ?_
        rintro e v1 ⟨T509_3, rfl, lT1, zc1⟩
        have hT509_3 := Lib.hid lT1
        have y1 := y0.trans (zc1.mono y0.size)
        refine hK _ _ ⟨(((b497.out.below y1 b497.out.lt)).range 0 _ [] (by simp)), (((b507.out.below y1 b507.out.lt)).range 0 _ [] (by simp)), (((b508.out.below y1 b508.out.lt)).range 0 _ [] (by simp))⟩ (fun _ => ?_)
        clear hK KC lT1
        refine wpAnyH_ready (rs := [6]) (by kernel_rfl) (by simp) ?_
        refine AllReadyH.cons rfl (fun KC hK => ?_) AllReadyH.nil
        go_simp
        refine (CB.out _ _ _ _ _ _ h465 h480 ltr479 hr510).mono ?_
        rintro e v2 ⟨T509_6, rfl, lT2, zc2⟩
        have hT509_6 := Lib.hid lT2
        have y2 := y1.trans (zc2.mono y1.size)
        refine hK _ _ ⟨(((b497.out.below y2 b497.out.lt)).range 0 _ [] (by simp)), (((b507.out.below y2 b507.out.lt)).range 0 _ [] (by simp)), (((b508.out.below y2 b508.out.lt)).range 0 _ [] (by simp))⟩ (fun _ => ?_)
        clear hK KC lT2
        refine wpAnyH_ready (rs := [7]) (by kernel_rfl) (by simp) ?_
        refine AllReadyH.cons rfl (fun KC hK => ?_) AllReadyH.nil
        go_simp
        refine (CM.out _ _ _ _ _ _ hT509_3 hT509_6 hr511).mono ?_
        rintro e v3 ⟨T509_7, rfl, lT3, zc3⟩
        have hT509_7 := Lib.hid lT3
        have y3 := y2.trans (zc3.mono y2.size)
        refine hK _ _ ⟨(((b497.out.below y3 b497.out.lt)).range 0 _ [] (by simp)), (((b507.out.below y3 b507.out.lt)).range 0 _ [] (by simp)), (((b508.out.below y3 b508.out.lt)).range 0 _ [] (by simp))⟩ (fun _ => ?_)
        clear hK KC lT3
        refine wpAnyH_ready (rs := [8]) (by kernel_rfl) (by simp) ?_
        refine AllReadyH.cons rfl (fun KC hK => ?_) AllReadyH.nil
        go_simp
        refine (CM.out _ _ _ _ _ _ HUL hT509_7 hr512).mono ?_
        rintro e v4 ⟨T509_8, rfl, lT4, zc4⟩
        have hT509_8 := Lib.hid lT4
        have y4 := y3.trans (zc4.mono y3.size)
        refine hK _ _ ⟨(((b497.out.below y4 b497.out.lt)).range 0 _ [] (by simp)), (((b507.out.below y4 b507.out.lt)).range 0 _ [] (by simp)), (((b508.out.below y4 b508.out.lt)).range 0 _ [] (by simp))⟩ (fun _ => ?_)
        clear hK KC lT4
        refine wpAnyH_ready (rs := [9]) (by kernel_rfl) (by simp) ?_
        refine AllReadyH.cons rfl (fun KC hK => ?_) AllReadyH.nil
        refine step_store_blk rfl 49 (.tmp 8) (.tmp 82) rfl g13 T509_8.toArray rfl rfl 49 C3 (b501.out.below y4 b501.out.lt) (by rw [List.size_toArray, hT509_8.out.len]; kernel_rfl) (by rw [List.size_toArray, hT509_8.out.len, fz3.out.len]) hT509_8.out.one ?_
        intro w3 hb3 ho3
        refine hK _ _ ⟨(((b497.out.below y4 b497.out.lt).grown ho3 (by have := HG.out; have := C1.out; have := C4.out; have := C8.out; have := C13.out; have := C412.out; have := C420.out; have := C429.out; have := C439.out; have := C450.out; have := C465.out; have := C480.out; intro e; injection e with e; omega)).range 0 _ [] (by simp)), (((b507.out.below y4 b507.out.lt).grown ho3 (by have := HG.out; have := C1.out; have := C4.out; have := C8.out; have := C13.out; have := C412.out; have := C420.out; have := C429.out; have := C439.out; have := C450.out; have := C465.out; have := C480.out; intro e; injection e with e; omega)).range 0 _ [] (by simp)), (((b508.out.below y4 b508.out.lt).grown ho3 (by have := HG.out; have := C1.out; have := C4.out; have := C8.out; have := C13.out; have := C412.out; have := C420.out; have := C429.out; have := C439.out; have := C450.out; have := C465.out; have := C480.out; intro e; injection e with e; omega)).range 0 _ [] (by simp))⟩ (fun _ => ?_)
        clear hK KC
        refine wpAnyH_done (by kernel_rfl) ?_ _
        obtain ⟨X513, rfl⟩ : ∃ x, x = w3 := ⟨_, rfl⟩
        have b514 : Hid (Blk X513 g 49 UL) := (b497.out.below y4 b497.out.lt).grown ho3 (by have := HG.out; have := C1.out; have := C4.out; have := C8.out; have := C13.out; have := C412.out; have := C420.out; have := C429.out; have := C439.out; have := C450.out; have := C465.out; have := C480.out; intro e; injection e with e; omega)
        clear b497
        have b515 : Hid (Blk X513 (g + 1) 49 z32) := (b498.out.below y4 b498.out.lt).grown ho3 (by have := HG.out; have := C1.out; have := C4.out; have := C8.out; have := C13.out; have := C412.out; have := C420.out; have := C429.out; have := C439.out; have := C450.out; have := C465.out; have := C480.out; intro e; injection e with e; omega)
        clear b498
        have b516 : Hid (Blk X513 g1 49 A2) := (b499.out.below y4 b499.out.lt).grown ho3 (by have := HG.out; have := C1.out; have := C4.out; have := C8.out; have := C13.out; have := C412.out; have := C420.out; have := C429.out; have := C439.out; have := C450.out; have := C465.out; have := C480.out; intro e; injection e with e; omega)
        clear b499
        have b517 : Hid (Blk X513 g4 49 C2) := (b500.out.below y4 b500.out.lt).grown ho3 (by have := HG.out; have := C1.out; have := C4.out; have := C8.out; have := C13.out; have := C412.out; have := C420.out; have := C429.out; have := C439.out; have := C450.out; have := C465.out; have := C480.out; intro e; injection e with e; omega)
        clear b500
        have b518 : Hid (Blk X513 g412 49 L412) := (b502.out.below y4 b502.out.lt).grown ho3 (by have := HG.out; have := C1.out; have := C4.out; have := C8.out; have := C13.out; have := C412.out; have := C420.out; have := C429.out; have := C439.out; have := C450.out; have := C465.out; have := C480.out; intro e; injection e with e; omega)
        clear b502
        have b519 : Hid (Blk X513 g420 49 L420) := (b503.out.below y4 b503.out.lt).grown ho3 (by have := HG.out; have := C1.out; have := C4.out; have := C8.out; have := C13.out; have := C412.out; have := C420.out; have := C429.out; have := C439.out; have := C450.out; have := C465.out; have := C480.out; intro e; injection e with e; omega)
        clear b503
        have b520 : Hid (Blk X513 g429 49 L429) := (b504.out.below y4 b504.out.lt).grown ho3 (by have := HG.out; have := C1.out; have := C4.out; have := C8.out; have := C13.out; have := C412.out; have := C420.out; have := C429.out; have := C439.out; have := C450.out; have := C465.out; have := C480.out; intro e; injection e with e; omega)
        clear b504
        have b521 : Hid (Blk X513 g439 49 L439) := (b505.out.below y4 b505.out.lt).grown ho3 (by have := HG.out; have := C1.out; have := C4.out; have := C8.out; have := C13.out; have := C412.out; have := C420.out; have := C429.out; have := C439.out; have := C450.out; have := C465.out; have := C480.out; intro e; injection e with e; omega)
        clear b505
        have b522 : Hid (Blk X513 g450 49 L450) := (b506.out.below y4 b506.out.lt).grown ho3 (by have := HG.out; have := C1.out; have := C4.out; have := C8.out; have := C13.out; have := C412.out; have := C420.out; have := C429.out; have := C439.out; have := C450.out; have := C465.out; have := C480.out; intro e; injection e with e; omega)
        clear b506
        have b523 : Hid (Blk X513 g465 49 L465) := (b507.out.below y4 b507.out.lt).grown ho3 (by have := HG.out; have := C1.out; have := C4.out; have := C8.out; have := C13.out; have := C412.out; have := C420.out; have := C429.out; have := C439.out; have := C450.out; have := C465.out; have := C480.out; intro e; injection e with e; omega)
        clear b507
        have b524 : Hid (Blk X513 g480 49 L480) := (b508.out.below y4 b508.out.lt).grown ho3 (by have := HG.out; have := C1.out; have := C4.out; have := C8.out; have := C13.out; have := C412.out; have := C420.out; have := C429.out; have := C439.out; have := C450.out; have := C465.out; have := C480.out; intro e; injection e with e; omega)
        clear b508
        have b525 : Hid (Blk X513 g8 49 T493_6) := (Q496.out.below y4 Q496.out.lt).grown ho3 (by have := HG.out; have := C1.out; have := C4.out; have := C8.out; have := C13.out; have := C412.out; have := C420.out; have := C429.out; have := C439.out; have := C450.out; have := C465.out; have := C480.out; intro e; injection e with e; omega)
        clear Q496
        have Q513 : Hid (Blk X513 g13 49 T509_8) := hb3
        have KK513 : Hid (Below w.heap.size w X513) := by
          have h1 := KK496.out.trans (y4.mono KK496.out.size)
          exact h1.trans (ho3.below h1.size (by have := HG.out; have := C1.out; have := C4.out; have := C8.out; have := C13.out; have := C412.out; have := C420.out; have := C429.out; have := C439.out; have := C450.out; have := C465.out; have := C480.out; omega))
        have h513 := hT509_8
        clear b501 KK496 hb3 ho3 y0 y1 y2 y3 y4
        obtain ⟨r526, hr526⟩ : ∃ r, Hid (r430 * r440 % q = r) := ⟨r430 * r440 % q, rfl⟩
        have ltr526 : Hid (r526 < q) := by rw [← hr526.out]; exact Nat.mod_lt _ HQ0.out
        go_wp2_with (first | (refine wpList_load_num rfl (.tmp 13) rfl g429 rfl L429 b520.out h429.out.len ?_) | (refine wpList_load_num rfl (.tmp 14) rfl g439 rfl L439 b521.out h439.out.len ?_))
        refine (CM.out _ _ _ _ _ _ h429 h439 hr526).mono ?_
        rintro e w527 ⟨L527, rfl, l527, k527⟩
        have h527 := Lib.hid l527
        have b528 : Hid (Blk w527 g 49 UL) := b514.out.below k527 b514.out.lt
        clear b514
        have b529 : Hid (Blk w527 (g + 1) 49 z32) := b515.out.below k527 b515.out.lt
        clear b515
        have b530 : Hid (Blk w527 g1 49 A2) := b516.out.below k527 b516.out.lt
        clear b516
        have b531 : Hid (Blk w527 g4 49 C2) := b517.out.below k527 b517.out.lt
        clear b517
        have b532 : Hid (Blk w527 g412 49 L412) := b518.out.below k527 b518.out.lt
        clear b518
        have b533 : Hid (Blk w527 g420 49 L420) := b519.out.below k527 b519.out.lt
        clear b519
        have b534 : Hid (Blk w527 g429 49 L429) := b520.out.below k527 b520.out.lt
        clear b520
        have b535 : Hid (Blk w527 g439 49 L439) := b521.out.below k527 b521.out.lt
        clear b521
        have b536 : Hid (Blk w527 g450 49 L450) := b522.out.below k527 b522.out.lt
        clear b522
        have b537 : Hid (Blk w527 g465 49 L465) := b523.out.below k527 b523.out.lt
        clear b523
        have b538 : Hid (Blk w527 g480 49 L480) := b524.out.below k527 b524.out.lt
        clear b524
        have b539 : Hid (Blk w527 g8 49 T493_6) := b525.out.below k527 b525.out.lt
        clear b525
        have b540 : Hid (Blk w527 g13 49 T509_8) := Q513.out.below k527 Q513.out.lt
        clear Q513
        have KK527 : Hid (Below w.heap.size w w527) := KK513.out.trans (k527.mono KK513.out.size)
        clear l527 k527 KK513
        go_upto_region 22 with (refine wpList_store_num rfl rfl (.tmp 5) (.tmp 85) rfl g1 rfl L527 A2 rfl b530.out fx2.out.len h527.out.len h527.out.one ?_; intro X541 hb541 ho541)
        have b542 : Hid (Blk X541 g 49 UL) := b528.out.grown ho541 (by have := HG.out; have := C1.out; have := C4.out; have := C8.out; have := C13.out; have := C412.out; have := C420.out; have := C429.out; have := C439.out; have := C450.out; have := C465.out; have := C480.out; intro e; injection e with e; omega)
        clear b528
        have b543 : Hid (Blk X541 (g + 1) 49 z32) := b529.out.grown ho541 (by have := HG.out; have := C1.out; have := C4.out; have := C8.out; have := C13.out; have := C412.out; have := C420.out; have := C429.out; have := C439.out; have := C450.out; have := C465.out; have := C480.out; intro e; injection e with e; omega)
        clear b529
        have b544 : Hid (Blk X541 g4 49 C2) := b531.out.grown ho541 (by have := HG.out; have := C1.out; have := C4.out; have := C8.out; have := C13.out; have := C412.out; have := C420.out; have := C429.out; have := C439.out; have := C450.out; have := C465.out; have := C480.out; intro e; injection e with e; omega)
        clear b531
        have b545 : Hid (Blk X541 g412 49 L412) := b532.out.grown ho541 (by have := HG.out; have := C1.out; have := C4.out; have := C8.out; have := C13.out; have := C412.out; have := C420.out; have := C429.out; have := C439.out; have := C450.out; have := C465.out; have := C480.out; intro e; injection e with e; omega)
        clear b532
        have b546 : Hid (Blk X541 g420 49 L420) := b533.out.grown ho541 (by have := HG.out; have := C1.out; have := C4.out; have := C8.out; have := C13.out; have := C412.out; have := C420.out; have := C429.out; have := C439.out; have := C450.out; have := C465.out; have := C480.out; intro e; injection e with e; omega)
        clear b533
        have b547 : Hid (Blk X541 g429 49 L429) := b534.out.grown ho541 (by have := HG.out; have := C1.out; have := C4.out; have := C8.out; have := C13.out; have := C412.out; have := C420.out; have := C429.out; have := C439.out; have := C450.out; have := C465.out; have := C480.out; intro e; injection e with e; omega)
        clear b534
        have b548 : Hid (Blk X541 g439 49 L439) := b535.out.grown ho541 (by have := HG.out; have := C1.out; have := C4.out; have := C8.out; have := C13.out; have := C412.out; have := C420.out; have := C429.out; have := C439.out; have := C450.out; have := C465.out; have := C480.out; intro e; injection e with e; omega)
        clear b535
        have b549 : Hid (Blk X541 g450 49 L450) := b536.out.grown ho541 (by have := HG.out; have := C1.out; have := C4.out; have := C8.out; have := C13.out; have := C412.out; have := C420.out; have := C429.out; have := C439.out; have := C450.out; have := C465.out; have := C480.out; intro e; injection e with e; omega)
        clear b536
        have b550 : Hid (Blk X541 g465 49 L465) := b537.out.grown ho541 (by have := HG.out; have := C1.out; have := C4.out; have := C8.out; have := C13.out; have := C412.out; have := C420.out; have := C429.out; have := C439.out; have := C450.out; have := C465.out; have := C480.out; intro e; injection e with e; omega)
        clear b537
        have b551 : Hid (Blk X541 g480 49 L480) := b538.out.grown ho541 (by have := HG.out; have := C1.out; have := C4.out; have := C8.out; have := C13.out; have := C412.out; have := C420.out; have := C429.out; have := C439.out; have := C450.out; have := C465.out; have := C480.out; intro e; injection e with e; omega)
        clear b538
        have b552 : Hid (Blk X541 g8 49 T493_6) := b539.out.grown ho541 (by have := HG.out; have := C1.out; have := C4.out; have := C8.out; have := C13.out; have := C412.out; have := C420.out; have := C429.out; have := C439.out; have := C450.out; have := C465.out; have := C480.out; intro e; injection e with e; omega)
        clear b539
        have b553 : Hid (Blk X541 g13 49 T509_8) := b540.out.grown ho541 (by have := HG.out; have := C1.out; have := C4.out; have := C8.out; have := C13.out; have := C412.out; have := C420.out; have := C429.out; have := C439.out; have := C450.out; have := C465.out; have := C480.out; intro e; injection e with e; omega)
        clear b540
        have Q541 : Hid (Blk X541 g1 49 L527) := hb541
        have KK541 : Hid (Below w.heap.size w X541) := KK527.out.trans (ho541.below KK527.out.size (by have := HG.out; have := C1.out; have := C4.out; have := C8.out; have := C13.out; have := C412.out; have := C420.out; have := C429.out; have := C439.out; have := C450.out; have := C465.out; have := C480.out; omega))
        clear hb541 ho541 b530 KK527
        obtain ⟨r555, hr555⟩ : ∃ r, Hid (121665 * r451 % q = r) := ⟨121665 * r451 % q, rfl⟩
        have ltr555 : Hid (r555 < q) := by rw [← hr555.out]; exact Nat.mod_lt _ HQ0.out
        obtain ⟨r556, hr556⟩ : ∃ r, Hid ((r430 + r555) % q = r) := ⟨(r430 + r555) % q, rfl⟩
        have ltr556 : Hid (r556 < q) := by rw [← hr556.out]; exact Nat.mod_lt _ HQ0.out
        obtain ⟨r557, hr557⟩ : ∃ r, Hid (r451 * r556 % q = r) := ⟨r451 * r556 % q, rfl⟩
        have ltr557 : Hid (r557 < q) := by rw [← hr557.out]; exact Nat.mod_lt _ HQ0.out
        go_upto_region 22 with fail
        refine wp_region_any (by kernel_rfl) ?_
        change wpAny _ _ _ _ _ _ _ (World.drew _)
        refine wpAny_of_held (S := fun w' => w'.rangeAt g450 0 L450 ∧ w'.rangeAt g429 0 L429) _ _ _ _ ?_
        have y0 : Below X541.heap.size X541 X541.drew := below_draws X541 1
        refine wpAnyH_take_at (i := 0) (v := .agg L450.toArray) rfl rfl (by kernel_rfl) (by kernel_rfl) (by kernel_rfl) (fun _ _ _ h => h) (yieldsIf_load_mid (by rfl) 49 (.tmp 15) rfl g450 0 rfl L450 _ (fun w h => h.1) Try.underlying49 rfl (by rw [h450.out.len]; kernel_rfl)) ⟨(((b549.out.below y0 b549.out.lt)).range 0 _ [] (by simp)), (((b547.out.below y0 b547.out.lt)).range 0 _ [] (by simp))⟩ ?_
        simp only [List.setIfInBounds_toArray, List.set_cons_zero, List.set_cons_succ]
        refine wpAnyH_take_at (i := 1) (v := .agg L429.toArray) rfl rfl (by kernel_rfl) (by kernel_rfl) (by kernel_rfl) (fun _ _ _ h => h) (yieldsIf_load_mid (by rfl) 49 (.tmp 13) rfl g429 0 rfl L429 _ (fun w h => h.2) Try.underlying49 rfl (by rw [h429.out.len]; kernel_rfl)) ⟨(((b549.out.below y0 b549.out.lt)).range 0 _ [] (by simp)), (((b547.out.below y0 b547.out.lt)).range 0 _ [] (by simp))⟩ ?_
        simp only [List.setIfInBounds_toArray, List.set_cons_zero, List.set_cons_succ]
        refine wpAnyH_take_at (i := 3) (v := .agg L450.toArray) rfl rfl (by kernel_rfl) (by kernel_rfl) (by kernel_rfl) (fun _ _ _ h => h) (yieldsIf_load_mid (by rfl) 49 (.tmp 15) rfl g450 0 rfl L450 _ (fun w h => h.1) Try.underlying49 rfl (by rw [h450.out.len]; kernel_rfl)) ⟨(((b549.out.below y0 b549.out.lt)).range 0 _ [] (by simp)), (((b547.out.below y0 b547.out.lt)).range 0 _ [] (by simp))⟩ ?_
        simp only [List.setIfInBounds_toArray, List.set_cons_zero, List.set_cons_succ]
        refine wpAnyH_ready (rs := [2]) (by kernel_rfl) (by simp) ?_
        refine AllReadyH.cons rfl (fun KC hK => ?_) AllReadyH.nil
        go_simp
        refine (CS.out 121665 _ H121665).mono ?_
        rintro e v1 ⟨T554_2, rfl, lT1, zc1⟩
        have hT554_2 := Lib.hid lT1
        have y1 := y0.trans (zc1.mono y0.size)
        refine hK _ _ ⟨(((b549.out.below y1 b549.out.lt)).range 0 _ [] (by simp)), (((b547.out.below y1 b547.out.lt)).range 0 _ [] (by simp))⟩ (fun _ => ?_)
        clear hK KC lT1
        refine wpAnyH_ready (rs := [4]) (by kernel_rfl) (by simp) ?_
        refine AllReadyH.cons rfl (fun KC hK => ?_) AllReadyH.nil
        go_simp
        refine (CM.out _ _ _ _ _ _ hT554_2 h450 hr555).mono ?_
        rintro e v2 ⟨T554_4, rfl, lT2, zc2⟩
        have hT554_4 := Lib.hid lT2
        have y2 := y1.trans (zc2.mono y1.size)
        refine hK _ _ ⟨(((b549.out.below y2 b549.out.lt)).range 0 _ [] (by simp)), (((b547.out.below y2 b547.out.lt)).range 0 _ [] (by simp))⟩ (fun _ => ?_)
        clear hK KC lT2
        refine wpAnyH_ready (rs := [5]) (by kernel_rfl) (by simp) ?_
        refine AllReadyH.cons rfl (fun KC hK => ?_) AllReadyH.nil
        go_simp
        refine (CA.out _ _ _ _ _ _ h429 hT554_4 hr556).mono ?_
        rintro e v3 ⟨T554_5, rfl, lT3, zc3⟩
        have hT554_5 := Lib.hid lT3
        have y3 := y2.trans (zc3.mono y2.size)
        refine hK _ _ ⟨(((b549.out.below y3 b549.out.lt)).range 0 _ [] (by simp)), (((b547.out.below y3 b547.out.lt)).range 0 _ [] (by simp))⟩ (fun _ => ?_)
        clear hK KC lT3
        refine wpAnyH_ready (rs := [6]) (by kernel_rfl) (by simp) ?_
        refine AllReadyH.cons rfl (fun KC hK => ?_) AllReadyH.nil
        go_simp
        refine (CM.out _ _ _ _ _ _ h450 hT554_5 hr557).mono ?_
        rintro e v4 ⟨T554_6, rfl, lT4, zc4⟩
        have hT554_6 := Lib.hid lT4
        have y4 := y3.trans (zc4.mono y3.size)
        refine hK _ _ ⟨(((b549.out.below y4 b549.out.lt)).range 0 _ [] (by simp)), (((b547.out.below y4 b547.out.lt)).range 0 _ [] (by simp))⟩ (fun _ => ?_)
        clear hK KC lT4
        refine wpAnyH_ready (rs := [7]) (by kernel_rfl) (by simp) ?_
        refine AllReadyH.cons rfl (fun KC hK => ?_) AllReadyH.nil
        refine step_store_blk rfl 49 (.tmp 6) (.tmp 92) rfl g4 T554_6.toArray rfl rfl 49 C2 (b544.out.below y4 b544.out.lt) (by rw [List.size_toArray, hT554_6.out.len]; kernel_rfl) (by rw [List.size_toArray, hT554_6.out.len, fz2.out.len]) hT554_6.out.one ?_
        intro w3 hb3 ho3
        refine hK _ _ ⟨(((b549.out.below y4 b549.out.lt).grown ho3 (by have := HG.out; have := C1.out; have := C4.out; have := C8.out; have := C13.out; have := C412.out; have := C420.out; have := C429.out; have := C439.out; have := C450.out; have := C465.out; have := C480.out; intro e; injection e with e; omega)).range 0 _ [] (by simp)), (((b547.out.below y4 b547.out.lt).grown ho3 (by have := HG.out; have := C1.out; have := C4.out; have := C8.out; have := C13.out; have := C412.out; have := C420.out; have := C429.out; have := C439.out; have := C450.out; have := C465.out; have := C480.out; intro e; injection e with e; omega)).range 0 _ [] (by simp))⟩ (fun _ => ?_)
        clear hK KC
        refine wpAnyH_done (by kernel_rfl) ?_ _
        obtain ⟨X558, rfl⟩ : ∃ x, x = w3 := ⟨_, rfl⟩
        have b559 : Hid (Blk X558 g 49 UL) := (b542.out.below y4 b542.out.lt).grown ho3 (by have := HG.out; have := C1.out; have := C4.out; have := C8.out; have := C13.out; have := C412.out; have := C420.out; have := C429.out; have := C439.out; have := C450.out; have := C465.out; have := C480.out; intro e; injection e with e; omega)
        clear b542
        have b560 : Hid (Blk X558 (g + 1) 49 z32) := (b543.out.below y4 b543.out.lt).grown ho3 (by have := HG.out; have := C1.out; have := C4.out; have := C8.out; have := C13.out; have := C412.out; have := C420.out; have := C429.out; have := C439.out; have := C450.out; have := C465.out; have := C480.out; intro e; injection e with e; omega)
        clear b543
        have b561 : Hid (Blk X558 g412 49 L412) := (b545.out.below y4 b545.out.lt).grown ho3 (by have := HG.out; have := C1.out; have := C4.out; have := C8.out; have := C13.out; have := C412.out; have := C420.out; have := C429.out; have := C439.out; have := C450.out; have := C465.out; have := C480.out; intro e; injection e with e; omega)
        clear b545
        have b562 : Hid (Blk X558 g420 49 L420) := (b546.out.below y4 b546.out.lt).grown ho3 (by have := HG.out; have := C1.out; have := C4.out; have := C8.out; have := C13.out; have := C412.out; have := C420.out; have := C429.out; have := C439.out; have := C450.out; have := C465.out; have := C480.out; intro e; injection e with e; omega)
        clear b546
        have b563 : Hid (Blk X558 g429 49 L429) := (b547.out.below y4 b547.out.lt).grown ho3 (by have := HG.out; have := C1.out; have := C4.out; have := C8.out; have := C13.out; have := C412.out; have := C420.out; have := C429.out; have := C439.out; have := C450.out; have := C465.out; have := C480.out; intro e; injection e with e; omega)
        clear b547
        have b564 : Hid (Blk X558 g439 49 L439) := (b548.out.below y4 b548.out.lt).grown ho3 (by have := HG.out; have := C1.out; have := C4.out; have := C8.out; have := C13.out; have := C412.out; have := C420.out; have := C429.out; have := C439.out; have := C450.out; have := C465.out; have := C480.out; intro e; injection e with e; omega)
        clear b548
        have b565 : Hid (Blk X558 g450 49 L450) := (b549.out.below y4 b549.out.lt).grown ho3 (by have := HG.out; have := C1.out; have := C4.out; have := C8.out; have := C13.out; have := C412.out; have := C420.out; have := C429.out; have := C439.out; have := C450.out; have := C465.out; have := C480.out; intro e; injection e with e; omega)
        clear b549
        have b566 : Hid (Blk X558 g465 49 L465) := (b550.out.below y4 b550.out.lt).grown ho3 (by have := HG.out; have := C1.out; have := C4.out; have := C8.out; have := C13.out; have := C412.out; have := C420.out; have := C429.out; have := C439.out; have := C450.out; have := C465.out; have := C480.out; intro e; injection e with e; omega)
        clear b550
        have b567 : Hid (Blk X558 g480 49 L480) := (b551.out.below y4 b551.out.lt).grown ho3 (by have := HG.out; have := C1.out; have := C4.out; have := C8.out; have := C13.out; have := C412.out; have := C420.out; have := C429.out; have := C439.out; have := C450.out; have := C465.out; have := C480.out; intro e; injection e with e; omega)
        clear b551
        have b568 : Hid (Blk X558 g8 49 T493_6) := (b552.out.below y4 b552.out.lt).grown ho3 (by have := HG.out; have := C1.out; have := C4.out; have := C8.out; have := C13.out; have := C412.out; have := C420.out; have := C429.out; have := C439.out; have := C450.out; have := C465.out; have := C480.out; intro e; injection e with e; omega)
        clear b552
        have b569 : Hid (Blk X558 g13 49 T509_8) := (b553.out.below y4 b553.out.lt).grown ho3 (by have := HG.out; have := C1.out; have := C4.out; have := C8.out; have := C13.out; have := C412.out; have := C420.out; have := C429.out; have := C439.out; have := C450.out; have := C465.out; have := C480.out; intro e; injection e with e; omega)
        clear b553
        have b570 : Hid (Blk X558 g1 49 L527) := (Q541.out.below y4 Q541.out.lt).grown ho3 (by have := HG.out; have := C1.out; have := C4.out; have := C8.out; have := C13.out; have := C412.out; have := C420.out; have := C429.out; have := C439.out; have := C450.out; have := C465.out; have := C480.out; intro e; injection e with e; omega)
        clear Q541
        have Q558 : Hid (Blk X558 g4 49 T554_6) := hb3
        have KK558 : Hid (Below w.heap.size w X558) := by
          have h1 := KK541.out.trans (y4.mono KK541.out.size)
          exact h1.trans (ho3.below h1.size (by have := HG.out; have := C1.out; have := C4.out; have := C8.out; have := C13.out; have := C412.out; have := C420.out; have := C429.out; have := C439.out; have := C450.out; have := C465.out; have := C480.out; omega))
        have h558 := hT554_6
        clear b544 KK541 hb3 ho3 y0 y1 y2 y3 y4
        go_wp2
        go_roundw
        case rel =>
          refine ⟨j + 1, r526, r557, r495, r512, L527, T554_6, T493_6, T509_8, by have := HJ.out; omega, by have h1 := HPJ.out; have h2 := HJ.out; go_num, ?_, ⟨ltr526.out, ltr557.out, ltr495.out, ltr512.out⟩, h527, hT554_6, hT493_6, hT509_8, b559, b560, b570, Q558, b568, b569, KK558⟩
          rw [Hid, M.lad, hlad.out, ← HBIT.out, hbit, M.lbit]
          simp only [M.lstep, hr413.out, hr421.out, hr430.out, hr440.out, hr451.out, hr463.out, hr464.out, hr478.out, hr479.out, hr494.out, hr495.out, hr510.out, hr511.out, hr512.out, hr526.out, hr555.out, hr556.out, hr557.out]
          exact fun h => by cases h
        case measure => have h1 := HPJ.out; have h2 := HJ.out; simp [intOf]; omega
    · obtain rfl : j = 255 := by omega
      clear hlt hj
      have c0 : ¬ ((0 : Int) ≤ 254 - ((255 : Nat) : Int)) := by omega
      obtain ⟨r572, hr572⟩ : ∃ r, Hid (z2 ^ (q - 2) % q = r) := ⟨z2 ^ (q - 2) % q, rfl⟩
      have ltr572 : Hid (r572 < q) := by rw [← hr572.out]; exact Nat.mod_lt _ HQ0.out
      obtain ⟨r573, hr573⟩ : ∃ r, Hid (x2 * r572 % q = r) := ⟨x2 * r572 % q, rfl⟩
      have ltr573 : Hid (r573 < q) := by rw [← hr573.out]; exact Nat.mod_lt _ HQ0.out
      go_upto_region 26 with fail
      refine wp_region_any (by kernel_rfl) ?_
      change wpAny _ _ _ _ _ _ _ (World.drew _)
      refine wpAny_of_held (S := fun w' => w'.rangeAt g1 0 A2 ∧ w'.rangeAt g4 0 C2) _ _ _ _ ?_
      have y0 : Below wz.heap.size wz wz.drew := below_draws wz 1
      refine wpAnyH_take_at (i := 0) (v := .agg A2.toArray) rfl rfl (by kernel_rfl) (by kernel_rfl) (by kernel_rfl) (fun _ _ _ h => h) (yieldsIf_load_mid (by rfl) 49 (.tmp 5) rfl g1 0 rfl A2 _ (fun w h => h.1) Try.underlying49 rfl (by rw [fx2.out.len]; kernel_rfl)) ⟨(((b5.out.below y0 b5.out.lt)).range 0 _ [] (by simp)), (((b6.out.below y0 b6.out.lt)).range 0 _ [] (by simp))⟩ ?_
      simp only [List.setIfInBounds_toArray, List.set_cons_zero, List.set_cons_succ]
      refine wpAnyH_take_at (i := 1) (v := .agg C2.toArray) rfl rfl (by kernel_rfl) (by kernel_rfl) (by kernel_rfl) (fun _ _ _ h => h) (yieldsIf_load_mid (by rfl) 49 (.tmp 6) rfl g4 0 rfl C2 _ (fun w h => h.2) Try.underlying49 rfl (by rw [fz2.out.len]; kernel_rfl)) ⟨(((b5.out.below y0 b5.out.lt)).range 0 _ [] (by simp)), (((b6.out.below y0 b6.out.lt)).range 0 _ [] (by simp))⟩ ?_
      simp only [List.setIfInBounds_toArray, List.set_cons_zero, List.set_cons_succ]
      refine wpAnyH_ready (rs := [2]) (by kernel_rfl) (by simp) ?_
      refine AllReadyH.cons rfl (fun KC hK => ?_) AllReadyH.nil
      go_simp
      refine (CI.out _ _ _ _ fz2 hr572).mono ?_
      rintro e v1 ⟨T571_2, rfl, lT1, zc1⟩
      have hT571_2 := Lib.hid lT1
      have y1 := y0.trans (zc1.mono y0.size)
      refine hK _ _ ⟨(((b5.out.below y1 b5.out.lt)).range 0 _ [] (by simp)), (((b6.out.below y1 b6.out.lt)).range 0 _ [] (by simp))⟩ (fun _ => ?_)
      clear hK KC lT1
      refine wpAnyH_ready (rs := [3]) (by kernel_rfl) (by simp) ?_
      refine AllReadyH.cons rfl (fun KC hK => ?_) AllReadyH.nil
      go_simp
      refine (CM.out _ _ _ _ _ _ fx2 hT571_2 hr573).mono ?_
      rintro e v2 ⟨T571_3, rfl, lT2, zc2⟩
      have hT571_3 := Lib.hid lT2
      have y2 := y1.trans (zc2.mono y1.size)
      refine hK _ _ ⟨(((b5.out.below y2 b5.out.lt)).range 0 _ [] (by simp)), (((b6.out.below y2 b6.out.lt)).range 0 _ [] (by simp))⟩ (fun _ => ?_)
      clear hK KC lT2
      refine wpAnyH_ready (rs := [4]) (by kernel_rfl) (by simp) ?_
      refine AllReadyH.cons rfl (fun KC hK => ?_) AllReadyH.nil
      refine step_store_blk rfl 49 (.tmp 4) (.tmp 102) rfl (g + 1) T571_3.toArray rfl rfl 49 z32 (b4.out.below y2 b4.out.lt) (by rw [List.size_toArray, hT571_3.out.len]; kernel_rfl) (by rw [List.size_toArray, hT571_3.out.len, z32_len]) hT571_3.out.one ?_
      intro w3 hb3 ho3
      refine hK _ _ ⟨(((b5.out.below y2 b5.out.lt).grown ho3 (by have := HG.out; have := C1.out; have := C4.out; have := C8.out; have := C13.out; intro e; injection e with e; omega)).range 0 _ [] (by simp)), (((b6.out.below y2 b6.out.lt).grown ho3 (by have := HG.out; have := C1.out; have := C4.out; have := C8.out; have := C13.out; intro e; injection e with e; omega)).range 0 _ [] (by simp))⟩ (fun _ => ?_)
      clear hK KC
      refine wpAnyH_done (by kernel_rfl) ?_ _
      obtain ⟨X574, rfl⟩ : ∃ x, x = w3 := ⟨_, rfl⟩
      have b575 : Hid (Blk X574 g 49 UL) := (b3.out.below y2 b3.out.lt).grown ho3 (by have := HG.out; have := C1.out; have := C4.out; have := C8.out; have := C13.out; intro e; injection e with e; omega)
      clear b3
      have b576 : Hid (Blk X574 g1 49 A2) := (b5.out.below y2 b5.out.lt).grown ho3 (by have := HG.out; have := C1.out; have := C4.out; have := C8.out; have := C13.out; intro e; injection e with e; omega)
      clear b5
      have b577 : Hid (Blk X574 g4 49 C2) := (b6.out.below y2 b6.out.lt).grown ho3 (by have := HG.out; have := C1.out; have := C4.out; have := C8.out; have := C13.out; intro e; injection e with e; omega)
      clear b6
      have b578 : Hid (Blk X574 g8 49 A3) := (b7.out.below y2 b7.out.lt).grown ho3 (by have := HG.out; have := C1.out; have := C4.out; have := C8.out; have := C13.out; intro e; injection e with e; omega)
      clear b7
      have b579 : Hid (Blk X574 g13 49 C3) := (b8.out.below y2 b8.out.lt).grown ho3 (by have := HG.out; have := C1.out; have := C4.out; have := C8.out; have := C13.out; intro e; injection e with e; omega)
      clear b8
      have Q574 : Hid (Blk X574 (g + 1) 49 T571_3) := hb3
      have KK574 : Hid (Below w.heap.size w X574) := by
        have h1 := kk.out.trans (y2.mono kk.out.size)
        exact h1.trans (ho3.below h1.size (by have := HG.out; have := C1.out; have := C4.out; have := C8.out; have := C13.out; omega))
      have h574 := hT571_3
      clear b4 kk hb3 ho3 y0 y1 y2
      have HRES : Hid (r573 = M.ladder q ks u) := by rw [Hid, M.ladder, hlad.out]; simp only []; rw [hr572.out, hr573.out]
      go_wp2
      exact bodyPost_ret (results_cell_row rfl _ _ (g + 1) _ _ _ _ rfl Q574.out Try.underlying49 rfl (by rw [List.size_toArray, hT571_3.out.len]; kernel_rfl)) rfl ⟨T571_3, rfl, by rw [← HRES.out]; exact hT571_3.out, KK574.out⟩

end Go.Proofs.Yteombilmndlhjaa
