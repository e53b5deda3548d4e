/-
  THE WALK OF orloplaw07.FieldChains, under FieldOk: it returns true, and writes nothing that was there. Conditions: FieldOk (proved of the code elsewhere). (Written by gen_fwalk.py.)
-/
import Derived.Test.YtmgbcollcfeolaaFieldFace
import Derived.Test.YtmgbcollcfeolaaFieldLaw
import Derived.Test.YtmgbcollcfeolaaOpenArr2
namespace Go.Proofs.Ytmgbcollcfeolaa
open Go.RowKit
set_option linter.unusedVariables false

/-- The script's cells, hidden from the walk till they are wanted. -/
theorem IsDo.below {w w' : World} {v : Value} {ds : List (Nat × Bool)} (h : IsDo w v ds) (k : Below w.heap.size w w') : IsDo w' v ds := by
  obtain ⟨ao, cap, rfl, h1, h2, h3⟩ := h
  refine ⟨ao, cap, rfl, h1, h2, ?_⟩
  rcases h3 with h | ⟨b, off, rfl, h⟩
  · exact .inl h
  · refine .inr ⟨b, off, rfl, fun i hi => ?_⟩
    obtain ⟨c0, c1, c2⟩ := h i hi
    exact ⟨by rw [k.cell (by exact World.block_lt_of_cell? w _ c0), c0], by rw [k.cell (by exact World.block_lt_of_cell? w _ c1), c1], c2⟩

theorem IsDo.shape {w : World} {v : Value} {ds : List (Nat × Bool)} (h : IsDo w v ds) : ∃ ao cap, v = .slice ao ds.length cap := by
  obtain ⟨ao, cap, rfl, _⟩ := h
  exact ⟨ao, cap, rfl⟩

set_option maxRecDepth 100000 in
set_option maxHeartbeats 16000000 in
theorem fieldChains_walk_of {Fe : List Value → Nat → Prop} (F : FieldOk Fe) (w : World) (xs : List UInt8) (lx : xs.length = 32) (ys : List UInt8) (ly : ys.length = 32) (sv : Value) (ds : List (Nat × Bool)) (hds : IsDo w sv ds) : Calls Try.prog 5 #[.agg (Lib.byteCells xs).toArray, .agg (Lib.byteCells ys).toArray, sv] w fun e w' => e = .returned (.bool true) ∧ Below w.heap.size w w' := by
  obtain ⟨a, ha⟩ : ∃ r, Hid (M.told xs % M.Q = r) := ⟨M.told xs % M.Q, rfl⟩
  have lta : Hid (a < M.Q) := by rw [← ha.out]; exact Nat.mod_lt _ M.Q_pos
  obtain ⟨b, hb⟩ : ∃ r, Hid (M.told ys % M.Q = r) := ⟨M.told ys % M.Q, rfl⟩
  have ltb : Hid (b < M.Q) := by rw [← hb.out]; exact Nat.mod_lt _ M.Q_pos
  have HD := Lib.hid hds
  obtain ⟨ao, cap, rfl⟩ := hds.shape
  obtain ⟨nn, hnn⟩ : ∃ n, n = ds.length := ⟨_, rfl⟩
  have HNN : Hid (ds.length = nn) := hnn.symm
  rw [← hnn] at HD ⊢
  clear hds hnn
  obtain ⟨g, hg⟩ : ∃ g, g = w.heap.size := ⟨_, rfl⟩
  obtain ⟨W, hW⟩ : ∃ W, Hid (W = ((w.alloc (.cells (Lib.byteCells xs).toArray 35)).alloc (.cells (Lib.byteCells ys).toArray 35))) := ⟨_, rfl⟩
  have B0 : Hid (Blk W (g) 35 (Lib.byteCells xs)) := by rw [hW.out, hg]; exact (Blk.newAt _ _ _ _ _ (by simp) rfl).alloc _
  have B1 : Hid (Blk W (g + 1) 35 (Lib.byteCells ys)) := by rw [hW.out, hg]; exact Blk.newAt _ _ _ _ _ (by simp) rfl
  have K0 : Hid (Below w.heap.size w W) := by rw [hW.out]; exact (((Below.refl _ _).alloc (Nat.le_refl _) _).alloc (by simp) _)
  have hsl0 := slice32_all (g)
  have hsl1 := slice32_all (g + 1)
  go_enter Try.func5, Try.ntmps5
  go_upto_region 1 with fail
  rw [← hW.out, ← hg]
  clear hW hg
  go_wp2_with fail
  refine (fieldAwake_any F W).mono ?_
  rintro e wA ⟨rfl, kA⟩
  have C0 : Hid (Blk wA (g) 35 (Lib.byteCells xs)) := B0.out.below kA B0.out.lt
  have C1 : Hid (Blk wA (g + 1) 35 (Lib.byteCells ys)) := B1.out.below kA B1.out.lt
  have KA : Hid (Below w.heap.size w wA) := K0.out.trans (kA.mono K0.out.size)
  clear kA K0 B0 B1
  go_wp2_with fail
  refine (F.from_at _ (blk_all C0.out lx) ha).mono ?_
  rintro e w1 ⟨L1, rfl, l1, k1⟩
  have h1 := Lib.hid l1
  obtain ⟨g1, hg1⟩ : ∃ v, v = w1.heap.size := ⟨_, rfl⟩
  have HN1 : Hid (w.heap.size ≤ g1) := by
    have h1 := k1.size
    have h2 := KA.out.size
    rw [Hid]; omega
  have N1 : Blk (w1.alloc (.cells z5.toArray 27)) g1 27 z5 := Blk.newAt _ _ _ _ _ hg1 rfl
  go_upto_region 4 with (rw [← z5_arr, ← hg1]; refine wpList_store_el rfl rfl (.tmp 7) (.tmp 17) rfl g1 rfl L1 z5 rfl N1 z5_len (F.len h1.out) (F.one h1.out) ?_; intro X1 hb1 ho1)
  have U1 : Below wA.heap.size wA X1 := (k1.alloc k1.size _).trans (ho1.below (by have := k1.size; simp; omega) (by have := k1.size; omega))
  have KK1 : Hid (Below w.heap.size w X1) := KA.out.trans (U1.mono KA.out.size)
  have b2 : Hid (Blk X1 (g) 35 (Lib.byteCells xs)) := C0.out.below U1 C0.out.lt
  clear C0
  have b3 : Hid (Blk X1 (g + 1) 35 (Lib.byteCells ys)) := C1.out.below U1 C1.out.lt
  clear C1
  have Q1 : Hid (Blk X1 g1 27 L1) := hb1
  clear l1 k1 hg1 N1 hb1 ho1 U1 KA
  go_wp2_with fail
  refine (F.from_at _ (blk_all b3.out ly) hb).mono ?_
  rintro e w4 ⟨L4, rfl, l4, k4⟩
  have h4 := Lib.hid l4
  obtain ⟨g4, hg4⟩ : ∃ v, v = w4.heap.size := ⟨_, rfl⟩
  have HN4 : Hid (g1 < g4 ∧ w.heap.size ≤ g4) := by
    have h1 := k4.size
    have h2 := KK1.out.size
    exact ⟨(by have := Q1.out.lt; omega), by omega⟩
  have N4 : Blk (w4.alloc (.cells z5.toArray 27)) g4 27 z5 := Blk.newAt _ _ _ _ _ hg4 rfl
  go_upto_region 5 with (rw [← z5_arr, ← hg4]; refine wpList_store_el rfl rfl (.tmp 8) (.tmp 19) rfl g4 rfl L4 z5 rfl N4 z5_len (F.len h4.out) (F.one h4.out) ?_; intro X4 hb4 ho4)
  have U4 : Below X1.heap.size X1 X4 := (k4.alloc k4.size _).trans (ho4.below (by have := k4.size; simp; omega) (by have := k4.size; omega))
  have KK4 : Hid (Below w.heap.size w X4) := KK1.out.trans (U4.mono KK1.out.size)
  have b5 : Hid (Blk X4 g1 27 L1) := Q1.out.below U4 Q1.out.lt
  clear Q1
  have b6 : Hid (Blk X4 (g) 35 (Lib.byteCells xs)) := b2.out.below U4 b2.out.lt
  clear b2
  have b7 : Hid (Blk X4 (g + 1) 35 (Lib.byteCells ys)) := b3.out.below U4 b3.out.lt
  clear b3
  have Q4 : Hid (Blk X4 g4 27 L4) := hb4
  clear l4 k4 hg4 N4 hb4 ho4 U4 KK1
  go_wp2_with fail
  refine (rfrom_at _ (blk_all b6.out lx) ha).mono ?_
  rintro e w8 ⟨L8, rfl, l8, k8⟩
  have h8 := Lib.hid l8
  obtain ⟨g8, hg8⟩ : ∃ v, v = w8.heap.size := ⟨_, rfl⟩
  have HN8 : Hid (g1 < g8 ∧ g4 < g8 ∧ w.heap.size ≤ g8) := by
    have h1 := k8.size
    have h2 := KK4.out.size
    exact ⟨(by have := b5.out.lt; omega), (by have := Q4.out.lt; omega), by omega⟩
  have N8 : Blk (w8.alloc (.cells z32.toArray 31)) g8 31 z32 := Blk.newAt _ _ _ _ _ hg8 rfl
  go_upto_region 6 with (rw [← z32_arr, ← hg8]; refine wpList_store_num rfl rfl (.tmp 9) (.tmp 21) rfl g8 rfl L8 z32 rfl N8 z32_len h8.out.len h8.out.one ?_; intro X8 hb8 ho8)
  have U8 : Below X4.heap.size X4 X8 := (k8.alloc k8.size _).trans (ho8.below (by have := k8.size; simp; omega) (by have := k8.size; omega))
  have KK8 : Hid (Below w.heap.size w X8) := KK4.out.trans (U8.mono KK4.out.size)
  have b9 : Hid (Blk X8 g1 27 L1) := b5.out.below U8 b5.out.lt
  clear b5
  have b10 : Hid (Blk X8 g4 27 L4) := Q4.out.below U8 Q4.out.lt
  clear Q4
  have b11 : Hid (Blk X8 (g) 35 (Lib.byteCells xs)) := b6.out.below U8 b6.out.lt
  clear b6
  have b12 : Hid (Blk X8 (g + 1) 35 (Lib.byteCells ys)) := b7.out.below U8 b7.out.lt
  clear b7
  have Q8 : Hid (Blk X8 g8 31 L8) := hb8
  clear l8 k8 hg8 N8 hb8 ho8 U8 KK4
  go_wp2_with fail
  refine (rfrom_at _ (blk_all b12.out ly) hb).mono ?_
  rintro e w13 ⟨L13, rfl, l13, k13⟩
  have h13 := Lib.hid l13
  obtain ⟨g13, hg13⟩ : ∃ v, v = w13.heap.size := ⟨_, rfl⟩
  have HN13 : Hid (g1 < g13 ∧ g4 < g13 ∧ g8 < g13 ∧ w.heap.size ≤ g13) := by
    have h1 := k13.size
    have h2 := KK8.out.size
    exact ⟨(by have := b9.out.lt; omega), (by have := b10.out.lt; omega), (by have := Q8.out.lt; omega), by omega⟩
  have N13 : Blk (w13.alloc (.cells z32.toArray 31)) g13 31 z32 := Blk.newAt _ _ _ _ _ hg13 rfl
  go_upto_region 7 with (rw [← z32_arr, ← hg13]; refine wpList_store_num rfl rfl (.tmp 10) (.tmp 23) rfl g13 rfl L13 z32 rfl N13 z32_len h13.out.len h13.out.one ?_; intro X13 hb13 ho13)
  have U13 : Below X8.heap.size X8 X13 := (k13.alloc k13.size _).trans (ho13.below (by have := k13.size; simp; omega) (by have := k13.size; omega))
  have KK13 : Hid (Below w.heap.size w X13) := KK8.out.trans (U13.mono KK8.out.size)
  have b14 : Hid (Blk X13 g1 27 L1) := b9.out.below U13 b9.out.lt
  clear b9
  have b15 : Hid (Blk X13 g4 27 L4) := b10.out.below U13 b10.out.lt
  clear b10
  have b16 : Hid (Blk X13 g8 31 L8) := Q8.out.below U13 Q8.out.lt
  clear Q8
  have b17 : Hid (Blk X13 (g) 35 (Lib.byteCells xs)) := b11.out.below U13 b11.out.lt
  clear b11
  have b18 : Hid (Blk X13 (g + 1) 35 (Lib.byteCells ys)) := b12.out.below U13 b12.out.lt
  clear b12
  have Q13 : Hid (Blk X13 g13 31 L13) := hb13
  clear l13 k13 hg13 N13 hb13 ho13 U13 KK8
  have HX : Hid (g1 < g4 ∧ g4 < g8 ∧ g8 < g13 ∧ w.heap.size ≤ g1) := ⟨HN4.out.1, HN8.out.2.1, HN13.out.2.2.1, HN1.out⟩
  clear HN1 HN4 HN8 HN13
  go_wp2
  go_loopw [11] (fun i wr => ∃ (k : Nat) (La Lb Lp Lq : List Value) (m n : Nat), i = .int .i64 k ∧ Hid (Fe La m) ∧ Hid (Fe Lb n) ∧ Hid (IsN Lp m) ∧ Hid (IsN Lq n) ∧ Hid (Blk wr g1 27 La) ∧ Hid (Blk wr g4 27 Lb) ∧ Hid (Blk wr g8 31 Lp) ∧ Hid (Blk wr g13 31 Lq) ∧ Hid (Below w.heap.size w wr) ∧ k ≤ 60 ∧ k ≤ nn)
    (fun i _ => 60 - (intOf i).toNat)
  case atStart => exact ⟨0, _, _, _, _, _, _, rfl, h1, h4, h8, h13, b14, b15, b16, Q13, KK13, by omega, by omega⟩
  case round =>
    clear b14
    clear b15
    clear b16
    clear Q13
    clear KK13
    obtain ⟨wz, rfl⟩ : ∃ x, x = wr := ⟨_, rfl⟩
    obtain ⟨k, La, Lb, Lp, Lq, m, n, rfl, fa, fb, fp, fq, ba, bb, bp, bq, kk, hk60, hkn⟩ := hrel
    by_cases hlt : k < nn ∧ k < 60
    · have c1 : ((k : Int) < (nn : Int)) := by omega
      have c2 : ((k : Int) < 60) := by omega
      have HKN : Hid (k < nn ∧ k < 60) := hlt
      have ltn : Hid (n < M.Q) := F.lt fb.out
      clear hlt hk60 hkn
      go_upto_region 10 with fail
      obtain ⟨g19, hg19⟩ : ∃ v, v = wz.heap.size := ⟨_, rfl⟩
      have N19 : Blk (wz.alloc (.cells z5.toArray 27)) g19 27 z5 := Blk.newAt _ _ _ _ _ hg19 rfl
      have O19 : Hid (g1 < g19 ∧ g4 < g19 ∧ g8 < g19 ∧ g13 < g19) := by
        exact ⟨(by have := ba.out.lt; omega), (by have := bb.out.lt; omega), (by have := bp.out.lt; omega), (by have := bq.out.lt; omega)⟩
      have M19 : w.heap.size ≤ g19 := by rw [hg19]; exact kk.out.size
      go_upto_region 11 with (first | (refine wpList_load_el rfl (.tmp 7) rfl g1 rfl La ba.out (F.len fa.out) ?_) | (rw [← z5_arr, ← hg19]; refine wpList_store_el rfl rfl (.tmp 12) (.tmp 34) rfl g19 rfl La z5 rfl N19 z5_len (F.len fa.out) (F.one fa.out) ?_; intro X19 hb19 ho19))
      have KK19 : Hid (Below w.heap.size w X19) := (kk.out.alloc kk.out.size _).trans (ho19.below (by have := kk.out.size; simp; omega) M19)
      have b20 : Hid (Blk X19 g1 27 La) := (ba.out.alloc _).grown ho19 (by have := O19.out; intro e; injection e with e; omega)
      clear ba
      have b21 : Hid (Blk X19 g4 27 Lb) := (bb.out.alloc _).grown ho19 (by have := O19.out; intro e; injection e with e; omega)
      clear bb
      have b22 : Hid (Blk X19 g8 31 Lp) := (bp.out.alloc _).grown ho19 (by have := O19.out; intro e; injection e with e; omega)
      clear bp
      have b23 : Hid (Blk X19 g13 31 Lq) := (bq.out.alloc _).grown ho19 (by have := O19.out; intro e; injection e with e; omega)
      clear bq
      have Q19 : Hid (Blk X19 g19 27 La) := hb19
      clear hb19 ho19 N19 hg19 M19 kk
      obtain ⟨g24, hg24⟩ : ∃ v, v = X19.heap.size := ⟨_, rfl⟩
      have N24 : Blk (X19.alloc (.cells z32.toArray 31)) g24 31 z32 := Blk.newAt _ _ _ _ _ hg24 rfl
      have O24 : Hid (g1 < g24 ∧ g4 < g24 ∧ g8 < g24 ∧ g13 < g24 ∧ g19 < g24) := by
        exact ⟨(by have := b20.out.lt; omega), (by have := b21.out.lt; omega), (by have := b22.out.lt; omega), (by have := b23.out.lt; omega), (by have := Q19.out.lt; omega)⟩
      have M24 : w.heap.size ≤ g24 := by rw [hg24]; exact KK19.out.size
      go_upto_region 12 with (first | (refine wpList_load_num rfl (.tmp 9) rfl g8 rfl Lp b22.out fp.out.len ?_) | (rw [← z32_arr, ← hg24]; refine wpList_store_num rfl rfl (.tmp 13) (.tmp 35) rfl g24 rfl Lp z32 rfl N24 z32_len fp.out.len fp.out.one ?_; intro X24 hb24 ho24))
      have KK24 : Hid (Below w.heap.size w X24) := (KK19.out.alloc KK19.out.size _).trans (ho24.below (by have := KK19.out.size; simp; omega) M24)
      have b25 : Hid (Blk X24 g1 27 La) := (b20.out.alloc _).grown ho24 (by have := O24.out; intro e; injection e with e; omega)
      clear b20
      have b26 : Hid (Blk X24 g4 27 Lb) := (b21.out.alloc _).grown ho24 (by have := O24.out; intro e; injection e with e; omega)
      clear b21
      have b27 : Hid (Blk X24 g8 31 Lp) := (b22.out.alloc _).grown ho24 (by have := O24.out; intro e; injection e with e; omega)
      clear b22
      have b28 : Hid (Blk X24 g13 31 Lq) := (b23.out.alloc _).grown ho24 (by have := O24.out; intro e; injection e with e; omega)
      clear b23
      have b29 : Hid (Blk X24 g19 27 La) := (Q19.out.alloc _).grown ho24 (by have := O24.out; intro e; injection e with e; omega)
      clear Q19
      have Q24 : Hid (Blk X24 g24 31 Lp) := hb24
      clear hb24 ho24 N24 hg24 M24 KK19
      have HX0 := HX
      clear HX
      have HX : Hid (g1 < g4 ∧ g4 < g8 ∧ g8 < g13 ∧ g13 < g19 ∧ g19 < g24 ∧ w.heap.size ≤ g1) := ⟨HX0.out.1, HX0.out.2.1, HX0.out.2.2.1, O19.out.2.2.2, O24.out.2.2.2.2, HX0.out.2.2.2⟩
      clear O19 O24
      obtain ⟨kd, hkd⟩ : ∃ x, x = (ds.getD k (0, false)).1 := ⟨_, rfl⟩
      obtain ⟨bk, hbk⟩ : ∃ x, x = (ds.getD k (0, false)).2 := ⟨_, rfl⟩
      obtain ⟨sb, so, rfl, hcell⟩ : ∃ b off, ao = some ⟨b, off, none⟩ ∧ ∀ W, Below w.heap.size w W → W.cell? ⟨b, off + k * 2, none⟩ = some (.int .u8 (kd : Int)) ∧ W.cell? ⟨b, off + k * 2 + 1, none⟩ = some (.bool bk) := by
        have hk := HKN.out.1
        rw [← HNN.out] at hk
        have hd2 : ∃ b off, ao = some ⟨b, off, none⟩ ∧ (∀ i, i < ds.length → w.cell? ⟨b, off + i * 2, none⟩ = some (.int .u8 ((ds.getD i (0, false)).1 : Int)) ∧ w.cell? ⟨b, off + i * 2 + 1, none⟩ = some (.bool (ds.getD i (0, false)).2) ∧ (ds.getD i (0, false)).1 < 256) := by
          obtain ⟨ao', cap', e, h1, h2, h3⟩ := HD.out
          injection e with e1 e2 e3
          rcases h3 with h | ⟨b, off, h4, h5⟩
          · rw [h] at hk; simp at hk
          · exact ⟨b, off, by rw [e1, h4], h5⟩
        obtain ⟨b, off, e, h⟩ := hd2
        refine ⟨b, off, e, fun W kW => ?_⟩
        obtain ⟨g0, g1, _⟩ := h k hk
        rw [← hkd] at g0
        rw [← hbk] at g1
        exact ⟨by rw [kW.cell (by exact World.block_lt_of_cell? w _ g0), g0], by rw [kW.cell (by exact World.block_lt_of_cell? w _ g1), g1]⟩
      have HC := Lib.hid hcell
      clear hcell hkd hbk
      have ck := (HC.out _ KK24.out).1
      have h5 : kd % 5 = 0 ∨ kd % 5 = 1 ∨ kd % 5 = 2 ∨ kd % 5 = 3 ∨ kd % 5 = 4 := by omega
      rcases h5 with h5 | h5 | h5 | h5 | h5
      · skip
        have hj : (kd : Int) % 5 = 0 := by omega
        clear h5
        obtain ⟨r30, hr30⟩ : ∃ r, Hid ((m + n) % M.Q = r) := ⟨(m + n) % M.Q, rfl⟩
        go_wp2_with (first | (refine wpList_load_el rfl (.tmp 7) rfl g1 rfl La b25.out (F.len fa.out) ?_) | (refine wpList_load_el rfl (.tmp 8) rfl g4 rfl Lb b26.out (F.len fb.out) ?_))
        refine (F.add_at _ fa fb hr30).mono ?_
        rintro e w31 ⟨L31, rfl, l31, k31⟩
        have h31 := Lib.hid l31
        have b32 : Hid (Blk w31 g1 27 La) := b25.out.below k31 b25.out.lt
        clear b25
        have b33 : Hid (Blk w31 g4 27 Lb) := b26.out.below k31 b26.out.lt
        clear b26
        have b34 : Hid (Blk w31 g8 31 Lp) := b27.out.below k31 b27.out.lt
        clear b27
        have b35 : Hid (Blk w31 g13 31 Lq) := b28.out.below k31 b28.out.lt
        clear b28
        have b36 : Hid (Blk w31 g19 27 La) := b29.out.below k31 b29.out.lt
        clear b29
        have b37 : Hid (Blk w31 g24 31 Lp) := Q24.out.below k31 Q24.out.lt
        clear Q24
        have KK31 : Hid (Below w.heap.size w w31) := KK24.out.trans (k31.mono KK24.out.size)
        clear l31 k31 KK24
        go_upto_region 17 with (first | (refine wpList_store_el rfl rfl (.tmp 12) (.tmp 54) rfl g19 rfl L31 La rfl b36.out (F.len fa.out) (F.len h31.out) (F.one h31.out) ?_; intro X38 hb38 ho38))
        have N38 : Hid (Blk X38 g19 27 L31) := hb38
        have b39 : Hid (Blk X38 g1 27 La) := b32.out.grown ho38 (by have := HX.out; intro e; injection e with e; omega)
        clear b32
        have b40 : Hid (Blk X38 g4 27 Lb) := b33.out.grown ho38 (by have := HX.out; intro e; injection e with e; omega)
        clear b33
        have b41 : Hid (Blk X38 g8 31 Lp) := b34.out.grown ho38 (by have := HX.out; intro e; injection e with e; omega)
        clear b34
        have b42 : Hid (Blk X38 g13 31 Lq) := b35.out.grown ho38 (by have := HX.out; intro e; injection e with e; omega)
        clear b35
        have b43 : Hid (Blk X38 g24 31 Lp) := b37.out.grown ho38 (by have := HX.out; intro e; injection e with e; omega)
        clear b37
        have KK38 : Hid (Below w.heap.size w X38) := KK31.out.trans (ho38.below KK31.out.size (by have := HX.out; omega))
        clear hb38 ho38 b36 KK31
        go_wp2_with (first | (refine wpList_load_num rfl (.tmp 9) rfl g8 rfl Lp b41.out fp.out.len ?_) | (refine wpList_load_num rfl (.tmp 10) rfl g13 rfl Lq b42.out fq.out.len ?_))
        refine (radd_at _ fp fq hr30).mono ?_
        rintro e w44 ⟨L44, rfl, l44, k44⟩
        have h44 := Lib.hid l44
        have b45 : Hid (Blk w44 g1 27 La) := b39.out.below k44 b39.out.lt
        clear b39
        have b46 : Hid (Blk w44 g4 27 Lb) := b40.out.below k44 b40.out.lt
        clear b40
        have b47 : Hid (Blk w44 g8 31 Lp) := b41.out.below k44 b41.out.lt
        clear b41
        have b48 : Hid (Blk w44 g13 31 Lq) := b42.out.below k44 b42.out.lt
        clear b42
        have b49 : Hid (Blk w44 g24 31 Lp) := b43.out.below k44 b43.out.lt
        clear b43
        have b50 : Hid (Blk w44 g19 27 L31) := N38.out.below k44 N38.out.lt
        clear N38
        have KK44 : Hid (Below w.heap.size w w44) := KK38.out.trans (k44.mono KK38.out.size)
        clear l44 k44 KK38
        go_upto_region 27 with (first | (refine wpList_store_num rfl rfl (.tmp 13) (.tmp 57) rfl g24 rfl L44 Lp rfl b49.out fp.out.len h44.out.len h44.out.one ?_; intro X51 hb51 ho51))
        have N51 : Hid (Blk X51 g24 31 L44) := hb51
        have b52 : Hid (Blk X51 g1 27 La) := b45.out.grown ho51 (by have := HX.out; intro e; injection e with e; omega)
        clear b45
        have b53 : Hid (Blk X51 g4 27 Lb) := b46.out.grown ho51 (by have := HX.out; intro e; injection e with e; omega)
        clear b46
        have b54 : Hid (Blk X51 g8 31 Lp) := b47.out.grown ho51 (by have := HX.out; intro e; injection e with e; omega)
        clear b47
        have b55 : Hid (Blk X51 g13 31 Lq) := b48.out.grown ho51 (by have := HX.out; intro e; injection e with e; omega)
        clear b48
        have b56 : Hid (Blk X51 g19 27 L31) := b50.out.grown ho51 (by have := HX.out; intro e; injection e with e; omega)
        clear b50
        have KK51 : Hid (Below w.heap.size w X51) := KK44.out.trans (ho51.below KK44.out.size (by have := HX.out; omega))
        clear hb51 ho51 b49 KK44
        clear ck hj
        go_wp2_with (first | (refine wpList_load_el rfl (.tmp 12) rfl g19 rfl L31 b56.out (F.len h31.out) ?_) | (refine wpList_load_num rfl (.tmp 13) rfl g24 rfl L44 N51.out h44.out.len ?_))
        refine (same_yes F L31 L44 r30 _ h31.out h44.out).mono ?_
        rintro e w57 ⟨rfl, k57⟩
        have b58 : Hid (Blk w57 g1 27 La) := b52.out.below k57 b52.out.lt
        clear b52
        have b59 : Hid (Blk w57 g4 27 Lb) := b53.out.below k57 b53.out.lt
        clear b53
        have b60 : Hid (Blk w57 g8 31 Lp) := b54.out.below k57 b54.out.lt
        clear b54
        have b61 : Hid (Blk w57 g13 31 Lq) := b55.out.below k57 b55.out.lt
        clear b55
        have b62 : Hid (Blk w57 g19 27 L31) := b56.out.below k57 b56.out.lt
        clear b56
        have b63 : Hid (Blk w57 g24 31 L44) := N51.out.below k57 N51.out.lt
        clear N51
        have KK57 : Hid (Below w.heap.size w w57) := KK51.out.trans (k57.mono KK51.out.size)
        clear k57 KK51
        go_wp2_with (first | (refine wpList_unguard rfl (wpList_load_el rfl (.tmp 8) rfl g4 rfl Lb b59.out (F.len fb.out) ?_)) | (refine wpList_unguard rfl (wpList_load_num rfl (.tmp 10) rfl g13 rfl Lq b61.out fq.out.len ?_)))
        refine (same_yes F Lb Lq n _ fb.out fq.out).mono ?_
        rintro e w64 ⟨rfl, k64⟩
        have b65 : Hid (Blk w64 g1 27 La) := b58.out.below k64 b58.out.lt
        clear b58
        have b66 : Hid (Blk w64 g4 27 Lb) := b59.out.below k64 b59.out.lt
        clear b59
        have b67 : Hid (Blk w64 g8 31 Lp) := b60.out.below k64 b60.out.lt
        clear b60
        have b68 : Hid (Blk w64 g13 31 Lq) := b61.out.below k64 b61.out.lt
        clear b61
        have b69 : Hid (Blk w64 g19 27 L31) := b62.out.below k64 b62.out.lt
        clear b62
        have b70 : Hid (Blk w64 g24 31 L44) := b63.out.below k64 b63.out.lt
        clear b63
        have KK64 : Hid (Below w.heap.size w w64) := KK57.out.trans (k64.mono KK57.out.size)
        clear k64 KK57
        go_upto_region 30 with (first | (refine wpList_load_el rfl (.tmp 12) rfl g19 rfl L31 b69.out (F.len h31.out) ?_) | (refine wpList_store_el rfl rfl (.tmp 7) (.tmp 91) rfl g1 rfl L31 La rfl b65.out (F.len fa.out) (F.len h31.out) (F.one h31.out) ?_; intro X71 hb71 ho71))
        have N71 : Hid (Blk X71 g1 27 L31) := hb71
        have b72 : Hid (Blk X71 g4 27 Lb) := b66.out.grown ho71 (by have := HX.out; intro e; injection e with e; omega)
        clear b66
        have b73 : Hid (Blk X71 g8 31 Lp) := b67.out.grown ho71 (by have := HX.out; intro e; injection e with e; omega)
        clear b67
        have b74 : Hid (Blk X71 g13 31 Lq) := b68.out.grown ho71 (by have := HX.out; intro e; injection e with e; omega)
        clear b68
        have b75 : Hid (Blk X71 g19 27 L31) := b69.out.grown ho71 (by have := HX.out; intro e; injection e with e; omega)
        clear b69
        have b76 : Hid (Blk X71 g24 31 L44) := b70.out.grown ho71 (by have := HX.out; intro e; injection e with e; omega)
        clear b70
        have KK71 : Hid (Below w.heap.size w X71) := KK64.out.trans (ho71.below KK64.out.size (by have := HX.out; omega))
        clear hb71 ho71 b65 KK64
        go_upto_region 31 with (first | (refine wpList_load_num rfl (.tmp 13) rfl g24 rfl L44 b76.out h44.out.len ?_) | (refine wpList_store_num rfl rfl (.tmp 9) (.tmp 92) rfl g8 rfl L44 Lp rfl b73.out fp.out.len h44.out.len h44.out.one ?_; intro X77 hb77 ho77))
        have N77 : Hid (Blk X77 g8 31 L44) := hb77
        have b78 : Hid (Blk X77 g4 27 Lb) := b72.out.grown ho77 (by have := HX.out; intro e; injection e with e; omega)
        clear b72
        have b79 : Hid (Blk X77 g13 31 Lq) := b74.out.grown ho77 (by have := HX.out; intro e; injection e with e; omega)
        clear b74
        have b80 : Hid (Blk X77 g19 27 L31) := b75.out.grown ho77 (by have := HX.out; intro e; injection e with e; omega)
        clear b75
        have b81 : Hid (Blk X77 g24 31 L44) := b76.out.grown ho77 (by have := HX.out; intro e; injection e with e; omega)
        clear b76
        have b82 : Hid (Blk X77 g1 27 L31) := N71.out.grown ho77 (by have := HX.out; intro e; injection e with e; omega)
        clear N71
        have KK77 : Hid (Below w.heap.size w X77) := KK71.out.trans (ho77.below KK71.out.size (by have := HX.out; omega))
        clear hb77 ho77 b73 KK71
        have ck := (HC.out _ KK77.out).2
        cases bk
        · skip
          go_wp2
          go_roundw
          case rel => exact ⟨k + 1, L31, Lb, L44, Lq, r30, n, by go_num, h31, fb, h44, fq, b82, b78, N77, b79, KK77, by have := HKN.out; omega, by have := HKN.out; omega⟩
          case measure => have := HKN.out; simp [intOf]; omega
        · skip
          go_wp2_with (first | (refine wpList_load_el rfl (.tmp 7) rfl g1 rfl L31 b82.out (F.len h31.out) ?_) | (refine wpList_load_el rfl (.tmp 8) rfl g4 rfl Lb b78.out (F.len fb.out) ?_))
          refine (F.swap_ 3 L31 Lb r30 n _ (by decide) h31.out fb.out).mono ?_
          rintro e w83 ⟨K83, L83, rfl, p83, q83, k83⟩
          rw [if_pos (show 3 % 2 = 1 by decide)] at p83 q83
          have hp83 := Lib.hid p83
          have hq83 := Lib.hid q83
          have b84 : Hid (Blk w83 g4 27 Lb) := b78.out.below k83 b78.out.lt
          clear b78
          have b85 : Hid (Blk w83 g13 31 Lq) := b79.out.below k83 b79.out.lt
          clear b79
          have b86 : Hid (Blk w83 g19 27 L31) := b80.out.below k83 b80.out.lt
          clear b80
          have b87 : Hid (Blk w83 g24 31 L44) := b81.out.below k83 b81.out.lt
          clear b81
          have b88 : Hid (Blk w83 g1 27 L31) := b82.out.below k83 b82.out.lt
          clear b82
          have b89 : Hid (Blk w83 g8 31 L44) := N77.out.below k83 N77.out.lt
          clear N77
          have KK83 : Hid (Below w.heap.size w w83) := KK77.out.trans (k83.mono KK77.out.size)
          clear p83 q83 k83 KK77
          go_upto_region 33 with (first | (refine wpList_store_el rfl rfl (.tmp 7) (.tmp 102) rfl g1 rfl K83 L31 rfl b88.out (F.len h31.out) (F.len hp83.out) (F.one hp83.out) ?_; intro X90 hb90 ho90) | (refine wpList_store_el rfl rfl (.tmp 8) (.tmp 103) rfl g4 rfl L83 Lb rfl (b84.out.grown ho90 (by have := HX.out; intro e; injection e with e; omega)) (F.len fb.out) (F.len hq83.out) (F.one hq83.out) ?_; intro Y90 hc90 hd90))
          have N90 : Hid (Blk Y90 g1 27 K83) := (show Blk X90 g1 27 K83 from hb90).grown hd90 (by have := HX.out; intro e; injection e with e; omega)
          have O90 : Hid (Blk Y90 g4 27 L83) := hc90
          have b91 : Hid (Blk Y90 g13 31 Lq) := (b85.out.grown ho90 (by have := HX.out; intro e; injection e with e; omega)).grown hd90 (by have := HX.out; intro e; injection e with e; omega)
          clear b85
          have b92 : Hid (Blk Y90 g19 27 L31) := (b86.out.grown ho90 (by have := HX.out; intro e; injection e with e; omega)).grown hd90 (by have := HX.out; intro e; injection e with e; omega)
          clear b86
          have b93 : Hid (Blk Y90 g24 31 L44) := (b87.out.grown ho90 (by have := HX.out; intro e; injection e with e; omega)).grown hd90 (by have := HX.out; intro e; injection e with e; omega)
          clear b87
          have b94 : Hid (Blk Y90 g8 31 L44) := (b89.out.grown ho90 (by have := HX.out; intro e; injection e with e; omega)).grown hd90 (by have := HX.out; intro e; injection e with e; omega)
          clear b89
          have KK90 : Hid (Below w.heap.size w Y90) := by
            have h1 := KK83.out.trans (ho90.below KK83.out.size (by have := HX.out; omega))
            exact h1.trans (hd90.below h1.size (by have := HX.out; omega))
          clear hb90 ho90 hc90 hd90 b88 b84 KK83
          go_upto_region 9 with (first | (refine wpList_load_num rfl (.tmp 10) rfl g13 rfl Lq b91.out fq.out.len ?_) | (refine wpList_load_num rfl (.tmp 9) rfl g8 rfl L44 b94.out h44.out.len ?_) | (refine wpList_store_num rfl rfl (.tmp 9) (.tmp 104) rfl g8 rfl Lq L44 rfl b94.out h44.out.len fq.out.len fq.out.one ?_; intro X95 hb95 ho95) | (refine wpList_store_num rfl rfl (.tmp 10) (.tmp 105) rfl g13 rfl L44 Lq rfl (b91.out.grown ho95 (by have := HX.out; intro e; injection e with e; omega)) fq.out.len h44.out.len h44.out.one ?_; intro Y95 hc95 hd95))
          have N95 : Hid (Blk Y95 g8 31 Lq) := (show Blk X95 g8 31 Lq from hb95).grown hd95 (by have := HX.out; intro e; injection e with e; omega)
          have O95 : Hid (Blk Y95 g13 31 L44) := hc95
          have b96 : Hid (Blk Y95 g19 27 L31) := (b92.out.grown ho95 (by have := HX.out; intro e; injection e with e; omega)).grown hd95 (by have := HX.out; intro e; injection e with e; omega)
          clear b92
          have b97 : Hid (Blk Y95 g24 31 L44) := (b93.out.grown ho95 (by have := HX.out; intro e; injection e with e; omega)).grown hd95 (by have := HX.out; intro e; injection e with e; omega)
          clear b93
          have b98 : Hid (Blk Y95 g1 27 K83) := (N90.out.grown ho95 (by have := HX.out; intro e; injection e with e; omega)).grown hd95 (by have := HX.out; intro e; injection e with e; omega)
          clear N90
          have b99 : Hid (Blk Y95 g4 27 L83) := (O90.out.grown ho95 (by have := HX.out; intro e; injection e with e; omega)).grown hd95 (by have := HX.out; intro e; injection e with e; omega)
          clear O90
          have KK95 : Hid (Below w.heap.size w Y95) := by
            have h1 := KK90.out.trans (ho95.below KK90.out.size (by have := HX.out; omega))
            exact h1.trans (hd95.below h1.size (by have := HX.out; omega))
          clear hb95 ho95 hc95 hd95 b94 b91 KK90
          go_wp2
          go_roundw
          case rel => exact ⟨k + 1, K83, L83, Lq, L44, n, r30, by go_num, hp83, hq83, fq, h44, b98, b99, N95, O95, KK95, by have := HKN.out; omega, by have := HKN.out; omega⟩
          case measure => have := HKN.out; simp [intOf]; omega
      · skip
        have hj : (kd : Int) % 5 = 1 := by omega
        clear h5
        obtain ⟨r100, hr100⟩ : ∃ r, Hid ((m + (M.Q - n)) % M.Q = r) := ⟨(m + (M.Q - n)) % M.Q, rfl⟩
        go_wp2_with (first | (refine wpList_load_el rfl (.tmp 7) rfl g1 rfl La b25.out (F.len fa.out) ?_) | (refine wpList_load_el rfl (.tmp 8) rfl g4 rfl Lb b26.out (F.len fb.out) ?_))
        refine (F.sub_at _ fa fb hr100).mono ?_
        rintro e w101 ⟨L101, rfl, l101, k101⟩
        have h101 := Lib.hid l101
        have b102 : Hid (Blk w101 g1 27 La) := b25.out.below k101 b25.out.lt
        clear b25
        have b103 : Hid (Blk w101 g4 27 Lb) := b26.out.below k101 b26.out.lt
        clear b26
        have b104 : Hid (Blk w101 g8 31 Lp) := b27.out.below k101 b27.out.lt
        clear b27
        have b105 : Hid (Blk w101 g13 31 Lq) := b28.out.below k101 b28.out.lt
        clear b28
        have b106 : Hid (Blk w101 g19 27 La) := b29.out.below k101 b29.out.lt
        clear b29
        have b107 : Hid (Blk w101 g24 31 Lp) := Q24.out.below k101 Q24.out.lt
        clear Q24
        have KK101 : Hid (Below w.heap.size w w101) := KK24.out.trans (k101.mono KK24.out.size)
        clear l101 k101 KK24
        go_upto_region 20 with (first | (refine wpList_store_el rfl rfl (.tmp 12) (.tmp 62) rfl g19 rfl L101 La rfl b106.out (F.len fa.out) (F.len h101.out) (F.one h101.out) ?_; intro X108 hb108 ho108))
        have N108 : Hid (Blk X108 g19 27 L101) := hb108
        have b109 : Hid (Blk X108 g1 27 La) := b102.out.grown ho108 (by have := HX.out; intro e; injection e with e; omega)
        clear b102
        have b110 : Hid (Blk X108 g4 27 Lb) := b103.out.grown ho108 (by have := HX.out; intro e; injection e with e; omega)
        clear b103
        have b111 : Hid (Blk X108 g8 31 Lp) := b104.out.grown ho108 (by have := HX.out; intro e; injection e with e; omega)
        clear b104
        have b112 : Hid (Blk X108 g13 31 Lq) := b105.out.grown ho108 (by have := HX.out; intro e; injection e with e; omega)
        clear b105
        have b113 : Hid (Blk X108 g24 31 Lp) := b107.out.grown ho108 (by have := HX.out; intro e; injection e with e; omega)
        clear b107
        have KK108 : Hid (Below w.heap.size w X108) := KK101.out.trans (ho108.below KK101.out.size (by have := HX.out; omega))
        clear hb108 ho108 b106 KK101
        go_wp2_with (first | (refine wpList_load_num rfl (.tmp 9) rfl g8 rfl Lp b111.out fp.out.len ?_) | (refine wpList_load_num rfl (.tmp 10) rfl g13 rfl Lq b112.out fq.out.len ?_))
        refine (rsub_at _ fp fq ltn hr100).mono ?_
        rintro e w114 ⟨L114, rfl, l114, k114⟩
        have h114 := Lib.hid l114
        have b115 : Hid (Blk w114 g1 27 La) := b109.out.below k114 b109.out.lt
        clear b109
        have b116 : Hid (Blk w114 g4 27 Lb) := b110.out.below k114 b110.out.lt
        clear b110
        have b117 : Hid (Blk w114 g8 31 Lp) := b111.out.below k114 b111.out.lt
        clear b111
        have b118 : Hid (Blk w114 g13 31 Lq) := b112.out.below k114 b112.out.lt
        clear b112
        have b119 : Hid (Blk w114 g24 31 Lp) := b113.out.below k114 b113.out.lt
        clear b113
        have b120 : Hid (Blk w114 g19 27 L101) := N108.out.below k114 N108.out.lt
        clear N108
        have KK114 : Hid (Below w.heap.size w w114) := KK108.out.trans (k114.mono KK108.out.size)
        clear l114 k114 KK108
        go_upto_region 27 with (first | (refine wpList_store_num rfl rfl (.tmp 13) (.tmp 65) rfl g24 rfl L114 Lp rfl b119.out fp.out.len h114.out.len h114.out.one ?_; intro X121 hb121 ho121))
        have N121 : Hid (Blk X121 g24 31 L114) := hb121
        have b122 : Hid (Blk X121 g1 27 La) := b115.out.grown ho121 (by have := HX.out; intro e; injection e with e; omega)
        clear b115
        have b123 : Hid (Blk X121 g4 27 Lb) := b116.out.grown ho121 (by have := HX.out; intro e; injection e with e; omega)
        clear b116
        have b124 : Hid (Blk X121 g8 31 Lp) := b117.out.grown ho121 (by have := HX.out; intro e; injection e with e; omega)
        clear b117
        have b125 : Hid (Blk X121 g13 31 Lq) := b118.out.grown ho121 (by have := HX.out; intro e; injection e with e; omega)
        clear b118
        have b126 : Hid (Blk X121 g19 27 L101) := b120.out.grown ho121 (by have := HX.out; intro e; injection e with e; omega)
        clear b120
        have KK121 : Hid (Below w.heap.size w X121) := KK114.out.trans (ho121.below KK114.out.size (by have := HX.out; omega))
        clear hb121 ho121 b119 KK114
        clear ck hj
        go_wp2_with (first | (refine wpList_load_el rfl (.tmp 12) rfl g19 rfl L101 b126.out (F.len h101.out) ?_) | (refine wpList_load_num rfl (.tmp 13) rfl g24 rfl L114 N121.out h114.out.len ?_))
        refine (same_yes F L101 L114 r100 _ h101.out h114.out).mono ?_
        rintro e w127 ⟨rfl, k127⟩
        have b128 : Hid (Blk w127 g1 27 La) := b122.out.below k127 b122.out.lt
        clear b122
        have b129 : Hid (Blk w127 g4 27 Lb) := b123.out.below k127 b123.out.lt
        clear b123
        have b130 : Hid (Blk w127 g8 31 Lp) := b124.out.below k127 b124.out.lt
        clear b124
        have b131 : Hid (Blk w127 g13 31 Lq) := b125.out.below k127 b125.out.lt
        clear b125
        have b132 : Hid (Blk w127 g19 27 L101) := b126.out.below k127 b126.out.lt
        clear b126
        have b133 : Hid (Blk w127 g24 31 L114) := N121.out.below k127 N121.out.lt
        clear N121
        have KK127 : Hid (Below w.heap.size w w127) := KK121.out.trans (k127.mono KK121.out.size)
        clear k127 KK121
        go_wp2_with (first | (refine wpList_unguard rfl (wpList_load_el rfl (.tmp 8) rfl g4 rfl Lb b129.out (F.len fb.out) ?_)) | (refine wpList_unguard rfl (wpList_load_num rfl (.tmp 10) rfl g13 rfl Lq b131.out fq.out.len ?_)))
        refine (same_yes F Lb Lq n _ fb.out fq.out).mono ?_
        rintro e w134 ⟨rfl, k134⟩
        have b135 : Hid (Blk w134 g1 27 La) := b128.out.below k134 b128.out.lt
        clear b128
        have b136 : Hid (Blk w134 g4 27 Lb) := b129.out.below k134 b129.out.lt
        clear b129
        have b137 : Hid (Blk w134 g8 31 Lp) := b130.out.below k134 b130.out.lt
        clear b130
        have b138 : Hid (Blk w134 g13 31 Lq) := b131.out.below k134 b131.out.lt
        clear b131
        have b139 : Hid (Blk w134 g19 27 L101) := b132.out.below k134 b132.out.lt
        clear b132
        have b140 : Hid (Blk w134 g24 31 L114) := b133.out.below k134 b133.out.lt
        clear b133
        have KK134 : Hid (Below w.heap.size w w134) := KK127.out.trans (k134.mono KK127.out.size)
        clear k134 KK127
        go_upto_region 30 with (first | (refine wpList_load_el rfl (.tmp 12) rfl g19 rfl L101 b139.out (F.len h101.out) ?_) | (refine wpList_store_el rfl rfl (.tmp 7) (.tmp 91) rfl g1 rfl L101 La rfl b135.out (F.len fa.out) (F.len h101.out) (F.one h101.out) ?_; intro X141 hb141 ho141))
        have N141 : Hid (Blk X141 g1 27 L101) := hb141
        have b142 : Hid (Blk X141 g4 27 Lb) := b136.out.grown ho141 (by have := HX.out; intro e; injection e with e; omega)
        clear b136
        have b143 : Hid (Blk X141 g8 31 Lp) := b137.out.grown ho141 (by have := HX.out; intro e; injection e with e; omega)
        clear b137
        have b144 : Hid (Blk X141 g13 31 Lq) := b138.out.grown ho141 (by have := HX.out; intro e; injection e with e; omega)
        clear b138
        have b145 : Hid (Blk X141 g19 27 L101) := b139.out.grown ho141 (by have := HX.out; intro e; injection e with e; omega)
        clear b139
        have b146 : Hid (Blk X141 g24 31 L114) := b140.out.grown ho141 (by have := HX.out; intro e; injection e with e; omega)
        clear b140
        have KK141 : Hid (Below w.heap.size w X141) := KK134.out.trans (ho141.below KK134.out.size (by have := HX.out; omega))
        clear hb141 ho141 b135 KK134
        go_upto_region 31 with (first | (refine wpList_load_num rfl (.tmp 13) rfl g24 rfl L114 b146.out h114.out.len ?_) | (refine wpList_store_num rfl rfl (.tmp 9) (.tmp 92) rfl g8 rfl L114 Lp rfl b143.out fp.out.len h114.out.len h114.out.one ?_; intro X147 hb147 ho147))
        have N147 : Hid (Blk X147 g8 31 L114) := hb147
        have b148 : Hid (Blk X147 g4 27 Lb) := b142.out.grown ho147 (by have := HX.out; intro e; injection e with e; omega)
        clear b142
        have b149 : Hid (Blk X147 g13 31 Lq) := b144.out.grown ho147 (by have := HX.out; intro e; injection e with e; omega)
        clear b144
        have b150 : Hid (Blk X147 g19 27 L101) := b145.out.grown ho147 (by have := HX.out; intro e; injection e with e; omega)
        clear b145
        have b151 : Hid (Blk X147 g24 31 L114) := b146.out.grown ho147 (by have := HX.out; intro e; injection e with e; omega)
        clear b146
        have b152 : Hid (Blk X147 g1 27 L101) := N141.out.grown ho147 (by have := HX.out; intro e; injection e with e; omega)
        clear N141
        have KK147 : Hid (Below w.heap.size w X147) := KK141.out.trans (ho147.below KK141.out.size (by have := HX.out; omega))
        clear hb147 ho147 b143 KK141
        have ck := (HC.out _ KK147.out).2
        cases bk
        · skip
          go_wp2
          go_roundw
          case rel => exact ⟨k + 1, L101, Lb, L114, Lq, r100, n, by go_num, h101, fb, h114, fq, b152, b148, N147, b149, KK147, by have := HKN.out; omega, by have := HKN.out; omega⟩
          case measure => have := HKN.out; simp [intOf]; omega
        · skip
          go_wp2_with (first | (refine wpList_load_el rfl (.tmp 7) rfl g1 rfl L101 b152.out (F.len h101.out) ?_) | (refine wpList_load_el rfl (.tmp 8) rfl g4 rfl Lb b148.out (F.len fb.out) ?_))
          refine (F.swap_ 3 L101 Lb r100 n _ (by decide) h101.out fb.out).mono ?_
          rintro e w153 ⟨K153, L153, rfl, p153, q153, k153⟩
          rw [if_pos (show 3 % 2 = 1 by decide)] at p153 q153
          have hp153 := Lib.hid p153
          have hq153 := Lib.hid q153
          have b154 : Hid (Blk w153 g4 27 Lb) := b148.out.below k153 b148.out.lt
          clear b148
          have b155 : Hid (Blk w153 g13 31 Lq) := b149.out.below k153 b149.out.lt
          clear b149
          have b156 : Hid (Blk w153 g19 27 L101) := b150.out.below k153 b150.out.lt
          clear b150
          have b157 : Hid (Blk w153 g24 31 L114) := b151.out.below k153 b151.out.lt
          clear b151
          have b158 : Hid (Blk w153 g1 27 L101) := b152.out.below k153 b152.out.lt
          clear b152
          have b159 : Hid (Blk w153 g8 31 L114) := N147.out.below k153 N147.out.lt
          clear N147
          have KK153 : Hid (Below w.heap.size w w153) := KK147.out.trans (k153.mono KK147.out.size)
          clear p153 q153 k153 KK147
          go_upto_region 33 with (first | (refine wpList_store_el rfl rfl (.tmp 7) (.tmp 102) rfl g1 rfl K153 L101 rfl b158.out (F.len h101.out) (F.len hp153.out) (F.one hp153.out) ?_; intro X160 hb160 ho160) | (refine wpList_store_el rfl rfl (.tmp 8) (.tmp 103) rfl g4 rfl L153 Lb rfl (b154.out.grown ho160 (by have := HX.out; intro e; injection e with e; omega)) (F.len fb.out) (F.len hq153.out) (F.one hq153.out) ?_; intro Y160 hc160 hd160))
          have N160 : Hid (Blk Y160 g1 27 K153) := (show Blk X160 g1 27 K153 from hb160).grown hd160 (by have := HX.out; intro e; injection e with e; omega)
          have O160 : Hid (Blk Y160 g4 27 L153) := hc160
          have b161 : Hid (Blk Y160 g13 31 Lq) := (b155.out.grown ho160 (by have := HX.out; intro e; injection e with e; omega)).grown hd160 (by have := HX.out; intro e; injection e with e; omega)
          clear b155
          have b162 : Hid (Blk Y160 g19 27 L101) := (b156.out.grown ho160 (by have := HX.out; intro e; injection e with e; omega)).grown hd160 (by have := HX.out; intro e; injection e with e; omega)
          clear b156
          have b163 : Hid (Blk Y160 g24 31 L114) := (b157.out.grown ho160 (by have := HX.out; intro e; injection e with e; omega)).grown hd160 (by have := HX.out; intro e; injection e with e; omega)
          clear b157
          have b164 : Hid (Blk Y160 g8 31 L114) := (b159.out.grown ho160 (by have := HX.out; intro e; injection e with e; omega)).grown hd160 (by have := HX.out; intro e; injection e with e; omega)
          clear b159
          have KK160 : Hid (Below w.heap.size w Y160) := by
            have h1 := KK153.out.trans (ho160.below KK153.out.size (by have := HX.out; omega))
            exact h1.trans (hd160.below h1.size (by have := HX.out; omega))
          clear hb160 ho160 hc160 hd160 b158 b154 KK153
          go_upto_region 9 with (first | (refine wpList_load_num rfl (.tmp 10) rfl g13 rfl Lq b161.out fq.out.len ?_) | (refine wpList_load_num rfl (.tmp 9) rfl g8 rfl L114 b164.out h114.out.len ?_) | (refine wpList_store_num rfl rfl (.tmp 9) (.tmp 104) rfl g8 rfl Lq L114 rfl b164.out h114.out.len fq.out.len fq.out.one ?_; intro X165 hb165 ho165) | (refine wpList_store_num rfl rfl (.tmp 10) (.tmp 105) rfl g13 rfl L114 Lq rfl (b161.out.grown ho165 (by have := HX.out; intro e; injection e with e; omega)) fq.out.len h114.out.len h114.out.one ?_; intro Y165 hc165 hd165))
          have N165 : Hid (Blk Y165 g8 31 Lq) := (show Blk X165 g8 31 Lq from hb165).grown hd165 (by have := HX.out; intro e; injection e with e; omega)
          have O165 : Hid (Blk Y165 g13 31 L114) := hc165
          have b166 : Hid (Blk Y165 g19 27 L101) := (b162.out.grown ho165 (by have := HX.out; intro e; injection e with e; omega)).grown hd165 (by have := HX.out; intro e; injection e with e; omega)
          clear b162
          have b167 : Hid (Blk Y165 g24 31 L114) := (b163.out.grown ho165 (by have := HX.out; intro e; injection e with e; omega)).grown hd165 (by have := HX.out; intro e; injection e with e; omega)
          clear b163
          have b168 : Hid (Blk Y165 g1 27 K153) := (N160.out.grown ho165 (by have := HX.out; intro e; injection e with e; omega)).grown hd165 (by have := HX.out; intro e; injection e with e; omega)
          clear N160
          have b169 : Hid (Blk Y165 g4 27 L153) := (O160.out.grown ho165 (by have := HX.out; intro e; injection e with e; omega)).grown hd165 (by have := HX.out; intro e; injection e with e; omega)
          clear O160
          have KK165 : Hid (Below w.heap.size w Y165) := by
            have h1 := KK160.out.trans (ho165.below KK160.out.size (by have := HX.out; omega))
            exact h1.trans (hd165.below h1.size (by have := HX.out; omega))
          clear hb165 ho165 hc165 hd165 b164 b161 KK160
          go_wp2
          go_roundw
          case rel => exact ⟨k + 1, K153, L153, Lq, L114, n, r100, by go_num, hp153, hq153, fq, h114, b168, b169, N165, O165, KK165, by have := HKN.out; omega, by have := HKN.out; omega⟩
          case measure => have := HKN.out; simp [intOf]; omega
      · skip
        have hj : (kd : Int) % 5 = 2 := by omega
        clear h5
        obtain ⟨r170, hr170⟩ : ∃ r, Hid (m * n % M.Q = r) := ⟨m * n % M.Q, rfl⟩
        go_wp2_with (first | (refine wpList_load_el rfl (.tmp 7) rfl g1 rfl La b25.out (F.len fa.out) ?_) | (refine wpList_load_el rfl (.tmp 8) rfl g4 rfl Lb b26.out (F.len fb.out) ?_))
        refine (F.mul_at _ fa fb hr170).mono ?_
        rintro e w171 ⟨L171, rfl, l171, k171⟩
        have h171 := Lib.hid l171
        have b172 : Hid (Blk w171 g1 27 La) := b25.out.below k171 b25.out.lt
        clear b25
        have b173 : Hid (Blk w171 g4 27 Lb) := b26.out.below k171 b26.out.lt
        clear b26
        have b174 : Hid (Blk w171 g8 31 Lp) := b27.out.below k171 b27.out.lt
        clear b27
        have b175 : Hid (Blk w171 g13 31 Lq) := b28.out.below k171 b28.out.lt
        clear b28
        have b176 : Hid (Blk w171 g19 27 La) := b29.out.below k171 b29.out.lt
        clear b29
        have b177 : Hid (Blk w171 g24 31 Lp) := Q24.out.below k171 Q24.out.lt
        clear Q24
        have KK171 : Hid (Below w.heap.size w w171) := KK24.out.trans (k171.mono KK24.out.size)
        clear l171 k171 KK24
        go_upto_region 23 with (first | (refine wpList_store_el rfl rfl (.tmp 12) (.tmp 70) rfl g19 rfl L171 La rfl b176.out (F.len fa.out) (F.len h171.out) (F.one h171.out) ?_; intro X178 hb178 ho178))
        have N178 : Hid (Blk X178 g19 27 L171) := hb178
        have b179 : Hid (Blk X178 g1 27 La) := b172.out.grown ho178 (by have := HX.out; intro e; injection e with e; omega)
        clear b172
        have b180 : Hid (Blk X178 g4 27 Lb) := b173.out.grown ho178 (by have := HX.out; intro e; injection e with e; omega)
        clear b173
        have b181 : Hid (Blk X178 g8 31 Lp) := b174.out.grown ho178 (by have := HX.out; intro e; injection e with e; omega)
        clear b174
        have b182 : Hid (Blk X178 g13 31 Lq) := b175.out.grown ho178 (by have := HX.out; intro e; injection e with e; omega)
        clear b175
        have b183 : Hid (Blk X178 g24 31 Lp) := b177.out.grown ho178 (by have := HX.out; intro e; injection e with e; omega)
        clear b177
        have KK178 : Hid (Below w.heap.size w X178) := KK171.out.trans (ho178.below KK171.out.size (by have := HX.out; omega))
        clear hb178 ho178 b176 KK171
        go_wp2_with (first | (refine wpList_load_num rfl (.tmp 9) rfl g8 rfl Lp b181.out fp.out.len ?_) | (refine wpList_load_num rfl (.tmp 10) rfl g13 rfl Lq b182.out fq.out.len ?_))
        refine (rmul_at _ fp fq hr170).mono ?_
        rintro e w184 ⟨L184, rfl, l184, k184⟩
        have h184 := Lib.hid l184
        have b185 : Hid (Blk w184 g1 27 La) := b179.out.below k184 b179.out.lt
        clear b179
        have b186 : Hid (Blk w184 g4 27 Lb) := b180.out.below k184 b180.out.lt
        clear b180
        have b187 : Hid (Blk w184 g8 31 Lp) := b181.out.below k184 b181.out.lt
        clear b181
        have b188 : Hid (Blk w184 g13 31 Lq) := b182.out.below k184 b182.out.lt
        clear b182
        have b189 : Hid (Blk w184 g24 31 Lp) := b183.out.below k184 b183.out.lt
        clear b183
        have b190 : Hid (Blk w184 g19 27 L171) := N178.out.below k184 N178.out.lt
        clear N178
        have KK184 : Hid (Below w.heap.size w w184) := KK178.out.trans (k184.mono KK178.out.size)
        clear l184 k184 KK178
        go_upto_region 27 with (first | (refine wpList_store_num rfl rfl (.tmp 13) (.tmp 73) rfl g24 rfl L184 Lp rfl b189.out fp.out.len h184.out.len h184.out.one ?_; intro X191 hb191 ho191))
        have N191 : Hid (Blk X191 g24 31 L184) := hb191
        have b192 : Hid (Blk X191 g1 27 La) := b185.out.grown ho191 (by have := HX.out; intro e; injection e with e; omega)
        clear b185
        have b193 : Hid (Blk X191 g4 27 Lb) := b186.out.grown ho191 (by have := HX.out; intro e; injection e with e; omega)
        clear b186
        have b194 : Hid (Blk X191 g8 31 Lp) := b187.out.grown ho191 (by have := HX.out; intro e; injection e with e; omega)
        clear b187
        have b195 : Hid (Blk X191 g13 31 Lq) := b188.out.grown ho191 (by have := HX.out; intro e; injection e with e; omega)
        clear b188
        have b196 : Hid (Blk X191 g19 27 L171) := b190.out.grown ho191 (by have := HX.out; intro e; injection e with e; omega)
        clear b190
        have KK191 : Hid (Below w.heap.size w X191) := KK184.out.trans (ho191.below KK184.out.size (by have := HX.out; omega))
        clear hb191 ho191 b189 KK184
        clear ck hj
        go_wp2_with (first | (refine wpList_load_el rfl (.tmp 12) rfl g19 rfl L171 b196.out (F.len h171.out) ?_) | (refine wpList_load_num rfl (.tmp 13) rfl g24 rfl L184 N191.out h184.out.len ?_))
        refine (same_yes F L171 L184 r170 _ h171.out h184.out).mono ?_
        rintro e w197 ⟨rfl, k197⟩
        have b198 : Hid (Blk w197 g1 27 La) := b192.out.below k197 b192.out.lt
        clear b192
        have b199 : Hid (Blk w197 g4 27 Lb) := b193.out.below k197 b193.out.lt
        clear b193
        have b200 : Hid (Blk w197 g8 31 Lp) := b194.out.below k197 b194.out.lt
        clear b194
        have b201 : Hid (Blk w197 g13 31 Lq) := b195.out.below k197 b195.out.lt
        clear b195
        have b202 : Hid (Blk w197 g19 27 L171) := b196.out.below k197 b196.out.lt
        clear b196
        have b203 : Hid (Blk w197 g24 31 L184) := N191.out.below k197 N191.out.lt
        clear N191
        have KK197 : Hid (Below w.heap.size w w197) := KK191.out.trans (k197.mono KK191.out.size)
        clear k197 KK191
        go_wp2_with (first | (refine wpList_unguard rfl (wpList_load_el rfl (.tmp 8) rfl g4 rfl Lb b199.out (F.len fb.out) ?_)) | (refine wpList_unguard rfl (wpList_load_num rfl (.tmp 10) rfl g13 rfl Lq b201.out fq.out.len ?_)))
        refine (same_yes F Lb Lq n _ fb.out fq.out).mono ?_
        rintro e w204 ⟨rfl, k204⟩
        have b205 : Hid (Blk w204 g1 27 La) := b198.out.below k204 b198.out.lt
        clear b198
        have b206 : Hid (Blk w204 g4 27 Lb) := b199.out.below k204 b199.out.lt
        clear b199
        have b207 : Hid (Blk w204 g8 31 Lp) := b200.out.below k204 b200.out.lt
        clear b200
        have b208 : Hid (Blk w204 g13 31 Lq) := b201.out.below k204 b201.out.lt
        clear b201
        have b209 : Hid (Blk w204 g19 27 L171) := b202.out.below k204 b202.out.lt
        clear b202
        have b210 : Hid (Blk w204 g24 31 L184) := b203.out.below k204 b203.out.lt
        clear b203
        have KK204 : Hid (Below w.heap.size w w204) := KK197.out.trans (k204.mono KK197.out.size)
        clear k204 KK197
        go_upto_region 30 with (first | (refine wpList_load_el rfl (.tmp 12) rfl g19 rfl L171 b209.out (F.len h171.out) ?_) | (refine wpList_store_el rfl rfl (.tmp 7) (.tmp 91) rfl g1 rfl L171 La rfl b205.out (F.len fa.out) (F.len h171.out) (F.one h171.out) ?_; intro X211 hb211 ho211))
        have N211 : Hid (Blk X211 g1 27 L171) := hb211
        have b212 : Hid (Blk X211 g4 27 Lb) := b206.out.grown ho211 (by have := HX.out; intro e; injection e with e; omega)
        clear b206
        have b213 : Hid (Blk X211 g8 31 Lp) := b207.out.grown ho211 (by have := HX.out; intro e; injection e with e; omega)
        clear b207
        have b214 : Hid (Blk X211 g13 31 Lq) := b208.out.grown ho211 (by have := HX.out; intro e; injection e with e; omega)
        clear b208
        have b215 : Hid (Blk X211 g19 27 L171) := b209.out.grown ho211 (by have := HX.out; intro e; injection e with e; omega)
        clear b209
        have b216 : Hid (Blk X211 g24 31 L184) := b210.out.grown ho211 (by have := HX.out; intro e; injection e with e; omega)
        clear b210
        have KK211 : Hid (Below w.heap.size w X211) := KK204.out.trans (ho211.below KK204.out.size (by have := HX.out; omega))
        clear hb211 ho211 b205 KK204
        go_upto_region 31 with (first | (refine wpList_load_num rfl (.tmp 13) rfl g24 rfl L184 b216.out h184.out.len ?_) | (refine wpList_store_num rfl rfl (.tmp 9) (.tmp 92) rfl g8 rfl L184 Lp rfl b213.out fp.out.len h184.out.len h184.out.one ?_; intro X217 hb217 ho217))
        have N217 : Hid (Blk X217 g8 31 L184) := hb217
        have b218 : Hid (Blk X217 g4 27 Lb) := b212.out.grown ho217 (by have := HX.out; intro e; injection e with e; omega)
        clear b212
        have b219 : Hid (Blk X217 g13 31 Lq) := b214.out.grown ho217 (by have := HX.out; intro e; injection e with e; omega)
        clear b214
        have b220 : Hid (Blk X217 g19 27 L171) := b215.out.grown ho217 (by have := HX.out; intro e; injection e with e; omega)
        clear b215
        have b221 : Hid (Blk X217 g24 31 L184) := b216.out.grown ho217 (by have := HX.out; intro e; injection e with e; omega)
        clear b216
        have b222 : Hid (Blk X217 g1 27 L171) := N211.out.grown ho217 (by have := HX.out; intro e; injection e with e; omega)
        clear N211
        have KK217 : Hid (Below w.heap.size w X217) := KK211.out.trans (ho217.below KK211.out.size (by have := HX.out; omega))
        clear hb217 ho217 b213 KK211
        have ck := (HC.out _ KK217.out).2
        cases bk
        · skip
          go_wp2
          go_roundw
          case rel => exact ⟨k + 1, L171, Lb, L184, Lq, r170, n, by go_num, h171, fb, h184, fq, b222, b218, N217, b219, KK217, by have := HKN.out; omega, by have := HKN.out; omega⟩
          case measure => have := HKN.out; simp [intOf]; omega
        · skip
          go_wp2_with (first | (refine wpList_load_el rfl (.tmp 7) rfl g1 rfl L171 b222.out (F.len h171.out) ?_) | (refine wpList_load_el rfl (.tmp 8) rfl g4 rfl Lb b218.out (F.len fb.out) ?_))
          refine (F.swap_ 3 L171 Lb r170 n _ (by decide) h171.out fb.out).mono ?_
          rintro e w223 ⟨K223, L223, rfl, p223, q223, k223⟩
          rw [if_pos (show 3 % 2 = 1 by decide)] at p223 q223
          have hp223 := Lib.hid p223
          have hq223 := Lib.hid q223
          have b224 : Hid (Blk w223 g4 27 Lb) := b218.out.below k223 b218.out.lt
          clear b218
          have b225 : Hid (Blk w223 g13 31 Lq) := b219.out.below k223 b219.out.lt
          clear b219
          have b226 : Hid (Blk w223 g19 27 L171) := b220.out.below k223 b220.out.lt
          clear b220
          have b227 : Hid (Blk w223 g24 31 L184) := b221.out.below k223 b221.out.lt
          clear b221
          have b228 : Hid (Blk w223 g1 27 L171) := b222.out.below k223 b222.out.lt
          clear b222
          have b229 : Hid (Blk w223 g8 31 L184) := N217.out.below k223 N217.out.lt
          clear N217
          have KK223 : Hid (Below w.heap.size w w223) := KK217.out.trans (k223.mono KK217.out.size)
          clear p223 q223 k223 KK217
          go_upto_region 33 with (first | (refine wpList_store_el rfl rfl (.tmp 7) (.tmp 102) rfl g1 rfl K223 L171 rfl b228.out (F.len h171.out) (F.len hp223.out) (F.one hp223.out) ?_; intro X230 hb230 ho230) | (refine wpList_store_el rfl rfl (.tmp 8) (.tmp 103) rfl g4 rfl L223 Lb rfl (b224.out.grown ho230 (by have := HX.out; intro e; injection e with e; omega)) (F.len fb.out) (F.len hq223.out) (F.one hq223.out) ?_; intro Y230 hc230 hd230))
          have N230 : Hid (Blk Y230 g1 27 K223) := (show Blk X230 g1 27 K223 from hb230).grown hd230 (by have := HX.out; intro e; injection e with e; omega)
          have O230 : Hid (Blk Y230 g4 27 L223) := hc230
          have b231 : Hid (Blk Y230 g13 31 Lq) := (b225.out.grown ho230 (by have := HX.out; intro e; injection e with e; omega)).grown hd230 (by have := HX.out; intro e; injection e with e; omega)
          clear b225
          have b232 : Hid (Blk Y230 g19 27 L171) := (b226.out.grown ho230 (by have := HX.out; intro e; injection e with e; omega)).grown hd230 (by have := HX.out; intro e; injection e with e; omega)
          clear b226
          have b233 : Hid (Blk Y230 g24 31 L184) := (b227.out.grown ho230 (by have := HX.out; intro e; injection e with e; omega)).grown hd230 (by have := HX.out; intro e; injection e with e; omega)
          clear b227
          have b234 : Hid (Blk Y230 g8 31 L184) := (b229.out.grown ho230 (by have := HX.out; intro e; injection e with e; omega)).grown hd230 (by have := HX.out; intro e; injection e with e; omega)
          clear b229
          have KK230 : Hid (Below w.heap.size w Y230) := by
            have h1 := KK223.out.trans (ho230.below KK223.out.size (by have := HX.out; omega))
            exact h1.trans (hd230.below h1.size (by have := HX.out; omega))
          clear hb230 ho230 hc230 hd230 b228 b224 KK223
          go_upto_region 9 with (first | (refine wpList_load_num rfl (.tmp 10) rfl g13 rfl Lq b231.out fq.out.len ?_) | (refine wpList_load_num rfl (.tmp 9) rfl g8 rfl L184 b234.out h184.out.len ?_) | (refine wpList_store_num rfl rfl (.tmp 9) (.tmp 104) rfl g8 rfl Lq L184 rfl b234.out h184.out.len fq.out.len fq.out.one ?_; intro X235 hb235 ho235) | (refine wpList_store_num rfl rfl (.tmp 10) (.tmp 105) rfl g13 rfl L184 Lq rfl (b231.out.grown ho235 (by have := HX.out; intro e; injection e with e; omega)) fq.out.len h184.out.len h184.out.one ?_; intro Y235 hc235 hd235))
          have N235 : Hid (Blk Y235 g8 31 Lq) := (show Blk X235 g8 31 Lq from hb235).grown hd235 (by have := HX.out; intro e; injection e with e; omega)
          have O235 : Hid (Blk Y235 g13 31 L184) := hc235
          have b236 : Hid (Blk Y235 g19 27 L171) := (b232.out.grown ho235 (by have := HX.out; intro e; injection e with e; omega)).grown hd235 (by have := HX.out; intro e; injection e with e; omega)
          clear b232
          have b237 : Hid (Blk Y235 g24 31 L184) := (b233.out.grown ho235 (by have := HX.out; intro e; injection e with e; omega)).grown hd235 (by have := HX.out; intro e; injection e with e; omega)
          clear b233
          have b238 : Hid (Blk Y235 g1 27 K223) := (N230.out.grown ho235 (by have := HX.out; intro e; injection e with e; omega)).grown hd235 (by have := HX.out; intro e; injection e with e; omega)
          clear N230
          have b239 : Hid (Blk Y235 g4 27 L223) := (O230.out.grown ho235 (by have := HX.out; intro e; injection e with e; omega)).grown hd235 (by have := HX.out; intro e; injection e with e; omega)
          clear O230
          have KK235 : Hid (Below w.heap.size w Y235) := by
            have h1 := KK230.out.trans (ho235.below KK230.out.size (by have := HX.out; omega))
            exact h1.trans (hd235.below h1.size (by have := HX.out; omega))
          clear hb235 ho235 hc235 hd235 b234 b231 KK230
          go_wp2
          go_roundw
          case rel => exact ⟨k + 1, K223, L223, Lq, L184, n, r170, by go_num, hp223, hq223, fq, h184, b238, b239, N235, O235, KK235, by have := HKN.out; omega, by have := HKN.out; omega⟩
          case measure => have := HKN.out; simp [intOf]; omega
      · skip
        have hj : (kd : Int) % 5 = 3 := by omega
        clear h5
        obtain ⟨r240, hr240⟩ : ∃ r, Hid (m * m % M.Q = r) := ⟨m * m % M.Q, rfl⟩
        go_wp2_with (first | (refine wpList_load_el rfl (.tmp 7) rfl g1 rfl La b25.out (F.len fa.out) ?_))
        refine (F.square_at _ fa hr240).mono ?_
        rintro e w241 ⟨L241, rfl, l241, k241⟩
        have h241 := Lib.hid l241
        have b242 : Hid (Blk w241 g1 27 La) := b25.out.below k241 b25.out.lt
        clear b25
        have b243 : Hid (Blk w241 g4 27 Lb) := b26.out.below k241 b26.out.lt
        clear b26
        have b244 : Hid (Blk w241 g8 31 Lp) := b27.out.below k241 b27.out.lt
        clear b27
        have b245 : Hid (Blk w241 g13 31 Lq) := b28.out.below k241 b28.out.lt
        clear b28
        have b246 : Hid (Blk w241 g19 27 La) := b29.out.below k241 b29.out.lt
        clear b29
        have b247 : Hid (Blk w241 g24 31 Lp) := Q24.out.below k241 Q24.out.lt
        clear Q24
        have KK241 : Hid (Below w.heap.size w w241) := KK24.out.trans (k241.mono KK24.out.size)
        clear l241 k241 KK24
        go_upto_region 26 with (first | (refine wpList_store_el rfl rfl (.tmp 12) (.tmp 77) rfl g19 rfl L241 La rfl b246.out (F.len fa.out) (F.len h241.out) (F.one h241.out) ?_; intro X248 hb248 ho248))
        have N248 : Hid (Blk X248 g19 27 L241) := hb248
        have b249 : Hid (Blk X248 g1 27 La) := b242.out.grown ho248 (by have := HX.out; intro e; injection e with e; omega)
        clear b242
        have b250 : Hid (Blk X248 g4 27 Lb) := b243.out.grown ho248 (by have := HX.out; intro e; injection e with e; omega)
        clear b243
        have b251 : Hid (Blk X248 g8 31 Lp) := b244.out.grown ho248 (by have := HX.out; intro e; injection e with e; omega)
        clear b244
        have b252 : Hid (Blk X248 g13 31 Lq) := b245.out.grown ho248 (by have := HX.out; intro e; injection e with e; omega)
        clear b245
        have b253 : Hid (Blk X248 g24 31 Lp) := b247.out.grown ho248 (by have := HX.out; intro e; injection e with e; omega)
        clear b247
        have KK248 : Hid (Below w.heap.size w X248) := KK241.out.trans (ho248.below KK241.out.size (by have := HX.out; omega))
        clear hb248 ho248 b246 KK241
        go_wp2_with (first | (refine wpList_load_num rfl (.tmp 9) rfl g8 rfl Lp b251.out fp.out.len ?_))
        refine (rmul_at _ fp fp hr240).mono ?_
        rintro e w254 ⟨L254, rfl, l254, k254⟩
        have h254 := Lib.hid l254
        have b255 : Hid (Blk w254 g1 27 La) := b249.out.below k254 b249.out.lt
        clear b249
        have b256 : Hid (Blk w254 g4 27 Lb) := b250.out.below k254 b250.out.lt
        clear b250
        have b257 : Hid (Blk w254 g8 31 Lp) := b251.out.below k254 b251.out.lt
        clear b251
        have b258 : Hid (Blk w254 g13 31 Lq) := b252.out.below k254 b252.out.lt
        clear b252
        have b259 : Hid (Blk w254 g24 31 Lp) := b253.out.below k254 b253.out.lt
        clear b253
        have b260 : Hid (Blk w254 g19 27 L241) := N248.out.below k254 N248.out.lt
        clear N248
        have KK254 : Hid (Below w.heap.size w w254) := KK248.out.trans (k254.mono KK248.out.size)
        clear l254 k254 KK248
        go_upto_region 27 with (first | (refine wpList_store_num rfl rfl (.tmp 13) (.tmp 80) rfl g24 rfl L254 Lp rfl b259.out fp.out.len h254.out.len h254.out.one ?_; intro X261 hb261 ho261))
        have N261 : Hid (Blk X261 g24 31 L254) := hb261
        have b262 : Hid (Blk X261 g1 27 La) := b255.out.grown ho261 (by have := HX.out; intro e; injection e with e; omega)
        clear b255
        have b263 : Hid (Blk X261 g4 27 Lb) := b256.out.grown ho261 (by have := HX.out; intro e; injection e with e; omega)
        clear b256
        have b264 : Hid (Blk X261 g8 31 Lp) := b257.out.grown ho261 (by have := HX.out; intro e; injection e with e; omega)
        clear b257
        have b265 : Hid (Blk X261 g13 31 Lq) := b258.out.grown ho261 (by have := HX.out; intro e; injection e with e; omega)
        clear b258
        have b266 : Hid (Blk X261 g19 27 L241) := b260.out.grown ho261 (by have := HX.out; intro e; injection e with e; omega)
        clear b260
        have KK261 : Hid (Below w.heap.size w X261) := KK254.out.trans (ho261.below KK254.out.size (by have := HX.out; omega))
        clear hb261 ho261 b259 KK254
        clear ck hj
        go_wp2_with (first | (refine wpList_load_el rfl (.tmp 12) rfl g19 rfl L241 b266.out (F.len h241.out) ?_) | (refine wpList_load_num rfl (.tmp 13) rfl g24 rfl L254 N261.out h254.out.len ?_))
        refine (same_yes F L241 L254 r240 _ h241.out h254.out).mono ?_
        rintro e w267 ⟨rfl, k267⟩
        have b268 : Hid (Blk w267 g1 27 La) := b262.out.below k267 b262.out.lt
        clear b262
        have b269 : Hid (Blk w267 g4 27 Lb) := b263.out.below k267 b263.out.lt
        clear b263
        have b270 : Hid (Blk w267 g8 31 Lp) := b264.out.below k267 b264.out.lt
        clear b264
        have b271 : Hid (Blk w267 g13 31 Lq) := b265.out.below k267 b265.out.lt
        clear b265
        have b272 : Hid (Blk w267 g19 27 L241) := b266.out.below k267 b266.out.lt
        clear b266
        have b273 : Hid (Blk w267 g24 31 L254) := N261.out.below k267 N261.out.lt
        clear N261
        have KK267 : Hid (Below w.heap.size w w267) := KK261.out.trans (k267.mono KK261.out.size)
        clear k267 KK261
        go_wp2_with (first | (refine wpList_unguard rfl (wpList_load_el rfl (.tmp 8) rfl g4 rfl Lb b269.out (F.len fb.out) ?_)) | (refine wpList_unguard rfl (wpList_load_num rfl (.tmp 10) rfl g13 rfl Lq b271.out fq.out.len ?_)))
        refine (same_yes F Lb Lq n _ fb.out fq.out).mono ?_
        rintro e w274 ⟨rfl, k274⟩
        have b275 : Hid (Blk w274 g1 27 La) := b268.out.below k274 b268.out.lt
        clear b268
        have b276 : Hid (Blk w274 g4 27 Lb) := b269.out.below k274 b269.out.lt
        clear b269
        have b277 : Hid (Blk w274 g8 31 Lp) := b270.out.below k274 b270.out.lt
        clear b270
        have b278 : Hid (Blk w274 g13 31 Lq) := b271.out.below k274 b271.out.lt
        clear b271
        have b279 : Hid (Blk w274 g19 27 L241) := b272.out.below k274 b272.out.lt
        clear b272
        have b280 : Hid (Blk w274 g24 31 L254) := b273.out.below k274 b273.out.lt
        clear b273
        have KK274 : Hid (Below w.heap.size w w274) := KK267.out.trans (k274.mono KK267.out.size)
        clear k274 KK267
        go_upto_region 30 with (first | (refine wpList_load_el rfl (.tmp 12) rfl g19 rfl L241 b279.out (F.len h241.out) ?_) | (refine wpList_store_el rfl rfl (.tmp 7) (.tmp 91) rfl g1 rfl L241 La rfl b275.out (F.len fa.out) (F.len h241.out) (F.one h241.out) ?_; intro X281 hb281 ho281))
        have N281 : Hid (Blk X281 g1 27 L241) := hb281
        have b282 : Hid (Blk X281 g4 27 Lb) := b276.out.grown ho281 (by have := HX.out; intro e; injection e with e; omega)
        clear b276
        have b283 : Hid (Blk X281 g8 31 Lp) := b277.out.grown ho281 (by have := HX.out; intro e; injection e with e; omega)
        clear b277
        have b284 : Hid (Blk X281 g13 31 Lq) := b278.out.grown ho281 (by have := HX.out; intro e; injection e with e; omega)
        clear b278
        have b285 : Hid (Blk X281 g19 27 L241) := b279.out.grown ho281 (by have := HX.out; intro e; injection e with e; omega)
        clear b279
        have b286 : Hid (Blk X281 g24 31 L254) := b280.out.grown ho281 (by have := HX.out; intro e; injection e with e; omega)
        clear b280
        have KK281 : Hid (Below w.heap.size w X281) := KK274.out.trans (ho281.below KK274.out.size (by have := HX.out; omega))
        clear hb281 ho281 b275 KK274
        go_upto_region 31 with (first | (refine wpList_load_num rfl (.tmp 13) rfl g24 rfl L254 b286.out h254.out.len ?_) | (refine wpList_store_num rfl rfl (.tmp 9) (.tmp 92) rfl g8 rfl L254 Lp rfl b283.out fp.out.len h254.out.len h254.out.one ?_; intro X287 hb287 ho287))
        have N287 : Hid (Blk X287 g8 31 L254) := hb287
        have b288 : Hid (Blk X287 g4 27 Lb) := b282.out.grown ho287 (by have := HX.out; intro e; injection e with e; omega)
        clear b282
        have b289 : Hid (Blk X287 g13 31 Lq) := b284.out.grown ho287 (by have := HX.out; intro e; injection e with e; omega)
        clear b284
        have b290 : Hid (Blk X287 g19 27 L241) := b285.out.grown ho287 (by have := HX.out; intro e; injection e with e; omega)
        clear b285
        have b291 : Hid (Blk X287 g24 31 L254) := b286.out.grown ho287 (by have := HX.out; intro e; injection e with e; omega)
        clear b286
        have b292 : Hid (Blk X287 g1 27 L241) := N281.out.grown ho287 (by have := HX.out; intro e; injection e with e; omega)
        clear N281
        have KK287 : Hid (Below w.heap.size w X287) := KK281.out.trans (ho287.below KK281.out.size (by have := HX.out; omega))
        clear hb287 ho287 b283 KK281
        have ck := (HC.out _ KK287.out).2
        cases bk
        · skip
          go_wp2
          go_roundw
          case rel => exact ⟨k + 1, L241, Lb, L254, Lq, r240, n, by go_num, h241, fb, h254, fq, b292, b288, N287, b289, KK287, by have := HKN.out; omega, by have := HKN.out; omega⟩
          case measure => have := HKN.out; simp [intOf]; omega
        · skip
          go_wp2_with (first | (refine wpList_load_el rfl (.tmp 7) rfl g1 rfl L241 b292.out (F.len h241.out) ?_) | (refine wpList_load_el rfl (.tmp 8) rfl g4 rfl Lb b288.out (F.len fb.out) ?_))
          refine (F.swap_ 3 L241 Lb r240 n _ (by decide) h241.out fb.out).mono ?_
          rintro e w293 ⟨K293, L293, rfl, p293, q293, k293⟩
          rw [if_pos (show 3 % 2 = 1 by decide)] at p293 q293
          have hp293 := Lib.hid p293
          have hq293 := Lib.hid q293
          have b294 : Hid (Blk w293 g4 27 Lb) := b288.out.below k293 b288.out.lt
          clear b288
          have b295 : Hid (Blk w293 g13 31 Lq) := b289.out.below k293 b289.out.lt
          clear b289
          have b296 : Hid (Blk w293 g19 27 L241) := b290.out.below k293 b290.out.lt
          clear b290
          have b297 : Hid (Blk w293 g24 31 L254) := b291.out.below k293 b291.out.lt
          clear b291
          have b298 : Hid (Blk w293 g1 27 L241) := b292.out.below k293 b292.out.lt
          clear b292
          have b299 : Hid (Blk w293 g8 31 L254) := N287.out.below k293 N287.out.lt
          clear N287
          have KK293 : Hid (Below w.heap.size w w293) := KK287.out.trans (k293.mono KK287.out.size)
          clear p293 q293 k293 KK287
          go_upto_region 33 with (first | (refine wpList_store_el rfl rfl (.tmp 7) (.tmp 102) rfl g1 rfl K293 L241 rfl b298.out (F.len h241.out) (F.len hp293.out) (F.one hp293.out) ?_; intro X300 hb300 ho300) | (refine wpList_store_el rfl rfl (.tmp 8) (.tmp 103) rfl g4 rfl L293 Lb rfl (b294.out.grown ho300 (by have := HX.out; intro e; injection e with e; omega)) (F.len fb.out) (F.len hq293.out) (F.one hq293.out) ?_; intro Y300 hc300 hd300))
          have N300 : Hid (Blk Y300 g1 27 K293) := (show Blk X300 g1 27 K293 from hb300).grown hd300 (by have := HX.out; intro e; injection e with e; omega)
          have O300 : Hid (Blk Y300 g4 27 L293) := hc300
          have b301 : Hid (Blk Y300 g13 31 Lq) := (b295.out.grown ho300 (by have := HX.out; intro e; injection e with e; omega)).grown hd300 (by have := HX.out; intro e; injection e with e; omega)
          clear b295
          have b302 : Hid (Blk Y300 g19 27 L241) := (b296.out.grown ho300 (by have := HX.out; intro e; injection e with e; omega)).grown hd300 (by have := HX.out; intro e; injection e with e; omega)
          clear b296
          have b303 : Hid (Blk Y300 g24 31 L254) := (b297.out.grown ho300 (by have := HX.out; intro e; injection e with e; omega)).grown hd300 (by have := HX.out; intro e; injection e with e; omega)
          clear b297
          have b304 : Hid (Blk Y300 g8 31 L254) := (b299.out.grown ho300 (by have := HX.out; intro e; injection e with e; omega)).grown hd300 (by have := HX.out; intro e; injection e with e; omega)
          clear b299
          have KK300 : Hid (Below w.heap.size w Y300) := by
            have h1 := KK293.out.trans (ho300.below KK293.out.size (by have := HX.out; omega))
            exact h1.trans (hd300.below h1.size (by have := HX.out; omega))
          clear hb300 ho300 hc300 hd300 b298 b294 KK293
          go_upto_region 9 with (first | (refine wpList_load_num rfl (.tmp 10) rfl g13 rfl Lq b301.out fq.out.len ?_) | (refine wpList_load_num rfl (.tmp 9) rfl g8 rfl L254 b304.out h254.out.len ?_) | (refine wpList_store_num rfl rfl (.tmp 9) (.tmp 104) rfl g8 rfl Lq L254 rfl b304.out h254.out.len fq.out.len fq.out.one ?_; intro X305 hb305 ho305) | (refine wpList_store_num rfl rfl (.tmp 10) (.tmp 105) rfl g13 rfl L254 Lq rfl (b301.out.grown ho305 (by have := HX.out; intro e; injection e with e; omega)) fq.out.len h254.out.len h254.out.one ?_; intro Y305 hc305 hd305))
          have N305 : Hid (Blk Y305 g8 31 Lq) := (show Blk X305 g8 31 Lq from hb305).grown hd305 (by have := HX.out; intro e; injection e with e; omega)
          have O305 : Hid (Blk Y305 g13 31 L254) := hc305
          have b306 : Hid (Blk Y305 g19 27 L241) := (b302.out.grown ho305 (by have := HX.out; intro e; injection e with e; omega)).grown hd305 (by have := HX.out; intro e; injection e with e; omega)
          clear b302
          have b307 : Hid (Blk Y305 g24 31 L254) := (b303.out.grown ho305 (by have := HX.out; intro e; injection e with e; omega)).grown hd305 (by have := HX.out; intro e; injection e with e; omega)
          clear b303
          have b308 : Hid (Blk Y305 g1 27 K293) := (N300.out.grown ho305 (by have := HX.out; intro e; injection e with e; omega)).grown hd305 (by have := HX.out; intro e; injection e with e; omega)
          clear N300
          have b309 : Hid (Blk Y305 g4 27 L293) := (O300.out.grown ho305 (by have := HX.out; intro e; injection e with e; omega)).grown hd305 (by have := HX.out; intro e; injection e with e; omega)
          clear O300
          have KK305 : Hid (Below w.heap.size w Y305) := by
            have h1 := KK300.out.trans (ho305.below KK300.out.size (by have := HX.out; omega))
            exact h1.trans (hd305.below h1.size (by have := HX.out; omega))
          clear hb305 ho305 hc305 hd305 b304 b301 KK300
          go_wp2
          go_roundw
          case rel => exact ⟨k + 1, K293, L293, Lq, L254, n, r240, by go_num, hp293, hq293, fq, h254, b308, b309, N305, O305, KK305, by have := HKN.out; omega, by have := HKN.out; omega⟩
          case measure => have := HKN.out; simp [intOf]; omega
      · skip
        have hj : (kd : Int) % 5 = 4 := by omega
        clear h5
        go_wp2_with (first | (refine wpList_load_el rfl (.tmp 7) rfl g1 rfl La b25.out (F.len fa.out) ?_) | (refine wpList_load_el rfl (.tmp 8) rfl g4 rfl Lb b26.out (F.len fb.out) ?_))
        refine (F.swap_ 1 La Lb m n _ (by decide) fa.out fb.out).mono ?_
        rintro e w310 ⟨K310, L310, rfl, p310, q310, k310⟩
        rw [if_pos (show 1 % 2 = 1 by decide)] at p310 q310
        have hp310 := Lib.hid p310
        have hq310 := Lib.hid q310
        have b311 : Hid (Blk w310 g1 27 La) := b25.out.below k310 b25.out.lt
        clear b25
        have b312 : Hid (Blk w310 g4 27 Lb) := b26.out.below k310 b26.out.lt
        clear b26
        have b313 : Hid (Blk w310 g8 31 Lp) := b27.out.below k310 b27.out.lt
        clear b27
        have b314 : Hid (Blk w310 g13 31 Lq) := b28.out.below k310 b28.out.lt
        clear b28
        have b315 : Hid (Blk w310 g19 27 La) := b29.out.below k310 b29.out.lt
        clear b29
        have b316 : Hid (Blk w310 g24 31 Lp) := Q24.out.below k310 Q24.out.lt
        clear Q24
        have KK310 : Hid (Below w.heap.size w w310) := KK24.out.trans (k310.mono KK24.out.size)
        clear p310 q310 k310 KK24
        go_upto_region 14 with (first | (refine wpList_store_el rfl rfl (.tmp 12) (.tmp 46) rfl g19 rfl K310 La rfl b315.out (F.len fa.out) (F.len hp310.out) (F.one hp310.out) ?_; intro X317 hb317 ho317) | (refine wpList_store_el rfl rfl (.tmp 8) (.tmp 47) rfl g4 rfl L310 Lb rfl (b312.out.grown ho317 (by have := HX.out; intro e; injection e with e; omega)) (F.len fb.out) (F.len hq310.out) (F.one hq310.out) ?_; intro Y317 hc317 hd317))
        have N317 : Hid (Blk Y317 g19 27 K310) := (show Blk X317 g19 27 K310 from hb317).grown hd317 (by have := HX.out; intro e; injection e with e; omega)
        have O317 : Hid (Blk Y317 g4 27 L310) := hc317
        have b318 : Hid (Blk Y317 g1 27 La) := (b311.out.grown ho317 (by have := HX.out; intro e; injection e with e; omega)).grown hd317 (by have := HX.out; intro e; injection e with e; omega)
        clear b311
        have b319 : Hid (Blk Y317 g8 31 Lp) := (b313.out.grown ho317 (by have := HX.out; intro e; injection e with e; omega)).grown hd317 (by have := HX.out; intro e; injection e with e; omega)
        clear b313
        have b320 : Hid (Blk Y317 g13 31 Lq) := (b314.out.grown ho317 (by have := HX.out; intro e; injection e with e; omega)).grown hd317 (by have := HX.out; intro e; injection e with e; omega)
        clear b314
        have b321 : Hid (Blk Y317 g24 31 Lp) := (b316.out.grown ho317 (by have := HX.out; intro e; injection e with e; omega)).grown hd317 (by have := HX.out; intro e; injection e with e; omega)
        clear b316
        have KK317 : Hid (Below w.heap.size w Y317) := by
          have h1 := KK310.out.trans (ho317.below KK310.out.size (by have := HX.out; omega))
          exact h1.trans (hd317.below h1.size (by have := HX.out; omega))
        clear hb317 ho317 hc317 hd317 b315 b312 KK310
        go_upto_region 14 with fail
        refine wp_region_any (by kernel_rfl) ?_
        change wpAny _ _ _ _ _ _ _ (World.drew _)
        obtain ⟨D322, hD322⟩ : ∃ v, v = Y317.drew := ⟨_, rfl⟩
        have b323 : Hid (Blk D322 g1 27 La) := by rw [hD322]; exact b318.out.drew
        clear b318
        have b324 : Hid (Blk D322 g8 31 Lp) := by rw [hD322]; exact b319.out.drew
        clear b319
        have b325 : Hid (Blk D322 g13 31 Lq) := by rw [hD322]; exact b320.out.drew
        clear b320
        have b326 : Hid (Blk D322 g24 31 Lp) := by rw [hD322]; exact b321.out.drew
        clear b321
        have b327 : Hid (Blk D322 g19 27 K310) := by rw [hD322]; exact N317.out.drew
        clear N317
        have b328 : Hid (Blk D322 g4 27 L310) := by rw [hD322]; exact O317.out.drew
        clear O317
        have KD322 : Hid (Below w.heap.size w D322) := by rw [hD322]; exact drewN_below KK317.out 1
        rw [← hD322]
        clear hD322 KK317
        refine wpAny_of_held (S := fun w' => w'.rangeAt g8 0 Lp) _ _ _ _ ?_
        refine wpAnyH_take_at (i := 1) (v := .agg Lp.toArray) rfl rfl (by kernel_rfl) (by kernel_rfl) (by kernel_rfl) (fun _ _ _ h => h) (yieldsIf_load_mid (by rfl) 31 (.tmp 9) rfl g8 0 rfl Lp _ (fun w h => h) Try.underlying31 rfl (by rw [fp.out.len]; kernel_rfl)) (b324.out.range 0 _ [] (by simp)) ?_
        simp only [List.setIfInBounds_toArray, List.set_cons_zero, List.set_cons_succ]
        refine wpAnyH_ready (rs := [0]) (by kernel_rfl) (by simp) ?_
        refine AllReadyH.cons rfl (fun KC hK => ?_) AllReadyH.nil
        refine step_load_mid rfl 31 (.tmp 10) rfl g13 0 rfl Lq _ (b325.out.range 0 _ [] (by simp)) Try.underlying31 rfl (by rw [fq.out.len]; kernel_rfl) ?_
        refine hK.out _ _ (b324.out.range 0 _ [] (by simp)) (fun _ => ?_)
        clear hK KC
        refine wpAnyH_ready (rs := [2]) (by kernel_rfl) (by simp) ?_
        refine AllReadyH.cons rfl (fun KC hK => ?_) AllReadyH.nil
        refine step_store_blk rfl 31 (.tmp 13) (.tmp 48) rfl g24 Lq.toArray rfl rfl 31 Lp b326.out (by rw [List.size_toArray, fq.out.len]; kernel_rfl) (by rw [List.size_toArray, fq.out.len, fp.out.len]) fq.out.one ?_
        intro X322 hb322 ho322
        refine hK.out _ _ ((b324.out.grown ho322 (by have := HX.out; intro e; injection e with e; omega)).range 0 _ [] (by simp)) (fun _ => ?_)
        clear hK KC
        refine wpAnyH_ready (rs := [3]) (by kernel_rfl) (by simp) ?_
        refine AllReadyH.cons rfl (fun KC hK => ?_) AllReadyH.nil
        refine step_store_blk rfl 31 (.tmp 10) (.tmp 49) rfl g13 Lp.toArray rfl rfl 31 Lq (b325.out.grown ho322 (by have := HX.out; intro e; injection e with e; omega)) (by rw [List.size_toArray, fp.out.len]; kernel_rfl) (by rw [List.size_toArray, fp.out.len, fq.out.len]) fp.out.one ?_
        intro Y322 hc322 hd322
        refine hK.out _ _ (((b324.out.grown ho322 (by have := HX.out; intro e; injection e with e; omega)).grown hd322 (by have := HX.out; intro e; injection e with e; omega)).range 0 _ [] (by simp)) (fun _ => ?_)
        clear hK KC
        refine wpAnyH_done (by kernel_rfl) ?_ _
        have N322 : Hid (Blk Y322 g24 31 Lq) := (show Blk X322 g24 31 Lq from hb322).grown hd322 (by have := HX.out; intro e; injection e with e; omega)
        have O322 : Hid (Blk Y322 g13 31 Lp) := hc322
        have b329 : Hid (Blk Y322 g1 27 La) := (b323.out.grown ho322 (by have := HX.out; intro e; injection e with e; omega)).grown hd322 (by have := HX.out; intro e; injection e with e; omega)
        clear b323
        have b330 : Hid (Blk Y322 g8 31 Lp) := (b324.out.grown ho322 (by have := HX.out; intro e; injection e with e; omega)).grown hd322 (by have := HX.out; intro e; injection e with e; omega)
        clear b324
        have b331 : Hid (Blk Y322 g19 27 K310) := (b327.out.grown ho322 (by have := HX.out; intro e; injection e with e; omega)).grown hd322 (by have := HX.out; intro e; injection e with e; omega)
        clear b327
        have b332 : Hid (Blk Y322 g4 27 L310) := (b328.out.grown ho322 (by have := HX.out; intro e; injection e with e; omega)).grown hd322 (by have := HX.out; intro e; injection e with e; omega)
        clear b328
        have KK322 : Hid (Below w.heap.size w Y322) := by
          have h1 := KD322.out.trans (ho322.below KD322.out.size (by have := HX.out; omega))
          exact h1.trans (hd322.below h1.size (by have := HX.out; omega))
        clear hb322 ho322 hc322 hd322 b326 b325 KD322
        clear ck hj
        go_wp2_with (first | (refine wpList_load_el rfl (.tmp 12) rfl g19 rfl K310 b331.out (F.len hp310.out) ?_) | (refine wpList_load_num rfl (.tmp 13) rfl g24 rfl Lq N322.out fq.out.len ?_))
        refine (same_yes F K310 Lq n _ hp310.out fq.out).mono ?_
        rintro e w333 ⟨rfl, k333⟩
        have b334 : Hid (Blk w333 g1 27 La) := b329.out.below k333 b329.out.lt
        clear b329
        have b335 : Hid (Blk w333 g8 31 Lp) := b330.out.below k333 b330.out.lt
        clear b330
        have b336 : Hid (Blk w333 g19 27 K310) := b331.out.below k333 b331.out.lt
        clear b331
        have b337 : Hid (Blk w333 g4 27 L310) := b332.out.below k333 b332.out.lt
        clear b332
        have b338 : Hid (Blk w333 g24 31 Lq) := N322.out.below k333 N322.out.lt
        clear N322
        have b339 : Hid (Blk w333 g13 31 Lp) := O322.out.below k333 O322.out.lt
        clear O322
        have KK333 : Hid (Below w.heap.size w w333) := KK322.out.trans (k333.mono KK322.out.size)
        clear k333 KK322
        go_wp2_with (first | (refine wpList_unguard rfl (wpList_load_el rfl (.tmp 8) rfl g4 rfl L310 b337.out (F.len hq310.out) ?_)) | (refine wpList_unguard rfl (wpList_load_num rfl (.tmp 10) rfl g13 rfl Lp b339.out fp.out.len ?_)))
        refine (same_yes F L310 Lp m _ hq310.out fp.out).mono ?_
        rintro e w340 ⟨rfl, k340⟩
        have b341 : Hid (Blk w340 g1 27 La) := b334.out.below k340 b334.out.lt
        clear b334
        have b342 : Hid (Blk w340 g8 31 Lp) := b335.out.below k340 b335.out.lt
        clear b335
        have b343 : Hid (Blk w340 g19 27 K310) := b336.out.below k340 b336.out.lt
        clear b336
        have b344 : Hid (Blk w340 g4 27 L310) := b337.out.below k340 b337.out.lt
        clear b337
        have b345 : Hid (Blk w340 g24 31 Lq) := b338.out.below k340 b338.out.lt
        clear b338
        have b346 : Hid (Blk w340 g13 31 Lp) := b339.out.below k340 b339.out.lt
        clear b339
        have KK340 : Hid (Below w.heap.size w w340) := KK333.out.trans (k340.mono KK333.out.size)
        clear k340 KK333
        go_upto_region 30 with (first | (refine wpList_load_el rfl (.tmp 12) rfl g19 rfl K310 b343.out (F.len hp310.out) ?_) | (refine wpList_store_el rfl rfl (.tmp 7) (.tmp 91) rfl g1 rfl K310 La rfl b341.out (F.len fa.out) (F.len hp310.out) (F.one hp310.out) ?_; intro X347 hb347 ho347))
        have N347 : Hid (Blk X347 g1 27 K310) := hb347
        have b348 : Hid (Blk X347 g8 31 Lp) := b342.out.grown ho347 (by have := HX.out; intro e; injection e with e; omega)
        clear b342
        have b349 : Hid (Blk X347 g19 27 K310) := b343.out.grown ho347 (by have := HX.out; intro e; injection e with e; omega)
        clear b343
        have b350 : Hid (Blk X347 g4 27 L310) := b344.out.grown ho347 (by have := HX.out; intro e; injection e with e; omega)
        clear b344
        have b351 : Hid (Blk X347 g24 31 Lq) := b345.out.grown ho347 (by have := HX.out; intro e; injection e with e; omega)
        clear b345
        have b352 : Hid (Blk X347 g13 31 Lp) := b346.out.grown ho347 (by have := HX.out; intro e; injection e with e; omega)
        clear b346
        have KK347 : Hid (Below w.heap.size w X347) := KK340.out.trans (ho347.below KK340.out.size (by have := HX.out; omega))
        clear hb347 ho347 b341 KK340
        go_upto_region 31 with (first | (refine wpList_load_num rfl (.tmp 13) rfl g24 rfl Lq b351.out fq.out.len ?_) | (refine wpList_store_num rfl rfl (.tmp 9) (.tmp 92) rfl g8 rfl Lq Lp rfl b348.out fp.out.len fq.out.len fq.out.one ?_; intro X353 hb353 ho353))
        have N353 : Hid (Blk X353 g8 31 Lq) := hb353
        have b354 : Hid (Blk X353 g19 27 K310) := b349.out.grown ho353 (by have := HX.out; intro e; injection e with e; omega)
        clear b349
        have b355 : Hid (Blk X353 g4 27 L310) := b350.out.grown ho353 (by have := HX.out; intro e; injection e with e; omega)
        clear b350
        have b356 : Hid (Blk X353 g24 31 Lq) := b351.out.grown ho353 (by have := HX.out; intro e; injection e with e; omega)
        clear b351
        have b357 : Hid (Blk X353 g13 31 Lp) := b352.out.grown ho353 (by have := HX.out; intro e; injection e with e; omega)
        clear b352
        have b358 : Hid (Blk X353 g1 27 K310) := N347.out.grown ho353 (by have := HX.out; intro e; injection e with e; omega)
        clear N347
        have KK353 : Hid (Below w.heap.size w X353) := KK347.out.trans (ho353.below KK347.out.size (by have := HX.out; omega))
        clear hb353 ho353 b348 KK347
        have ck := (HC.out _ KK353.out).2
        cases bk
        · skip
          go_wp2
          go_roundw
          case rel => exact ⟨k + 1, K310, L310, Lq, Lp, n, m, by go_num, hp310, hq310, fq, fp, b358, b355, N353, b357, KK353, by have := HKN.out; omega, by have := HKN.out; omega⟩
          case measure => have := HKN.out; simp [intOf]; omega
        · skip
          go_wp2_with (first | (refine wpList_load_el rfl (.tmp 7) rfl g1 rfl K310 b358.out (F.len hp310.out) ?_) | (refine wpList_load_el rfl (.tmp 8) rfl g4 rfl L310 b355.out (F.len hq310.out) ?_))
          refine (F.swap_ 3 K310 L310 n m _ (by decide) hp310.out hq310.out).mono ?_
          rintro e w359 ⟨K359, L359, rfl, p359, q359, k359⟩
          rw [if_pos (show 3 % 2 = 1 by decide)] at p359 q359
          have hp359 := Lib.hid p359
          have hq359 := Lib.hid q359
          have b360 : Hid (Blk w359 g19 27 K310) := b354.out.below k359 b354.out.lt
          clear b354
          have b361 : Hid (Blk w359 g4 27 L310) := b355.out.below k359 b355.out.lt
          clear b355
          have b362 : Hid (Blk w359 g24 31 Lq) := b356.out.below k359 b356.out.lt
          clear b356
          have b363 : Hid (Blk w359 g13 31 Lp) := b357.out.below k359 b357.out.lt
          clear b357
          have b364 : Hid (Blk w359 g1 27 K310) := b358.out.below k359 b358.out.lt
          clear b358
          have b365 : Hid (Blk w359 g8 31 Lq) := N353.out.below k359 N353.out.lt
          clear N353
          have KK359 : Hid (Below w.heap.size w w359) := KK353.out.trans (k359.mono KK353.out.size)
          clear p359 q359 k359 KK353
          go_upto_region 33 with (first | (refine wpList_store_el rfl rfl (.tmp 7) (.tmp 102) rfl g1 rfl K359 K310 rfl b364.out (F.len hp310.out) (F.len hp359.out) (F.one hp359.out) ?_; intro X366 hb366 ho366) | (refine wpList_store_el rfl rfl (.tmp 8) (.tmp 103) rfl g4 rfl L359 L310 rfl (b361.out.grown ho366 (by have := HX.out; intro e; injection e with e; omega)) (F.len hq310.out) (F.len hq359.out) (F.one hq359.out) ?_; intro Y366 hc366 hd366))
          have N366 : Hid (Blk Y366 g1 27 K359) := (show Blk X366 g1 27 K359 from hb366).grown hd366 (by have := HX.out; intro e; injection e with e; omega)
          have O366 : Hid (Blk Y366 g4 27 L359) := hc366
          have b367 : Hid (Blk Y366 g19 27 K310) := (b360.out.grown ho366 (by have := HX.out; intro e; injection e with e; omega)).grown hd366 (by have := HX.out; intro e; injection e with e; omega)
          clear b360
          have b368 : Hid (Blk Y366 g24 31 Lq) := (b362.out.grown ho366 (by have := HX.out; intro e; injection e with e; omega)).grown hd366 (by have := HX.out; intro e; injection e with e; omega)
          clear b362
          have b369 : Hid (Blk Y366 g13 31 Lp) := (b363.out.grown ho366 (by have := HX.out; intro e; injection e with e; omega)).grown hd366 (by have := HX.out; intro e; injection e with e; omega)
          clear b363
          have b370 : Hid (Blk Y366 g8 31 Lq) := (b365.out.grown ho366 (by have := HX.out; intro e; injection e with e; omega)).grown hd366 (by have := HX.out; intro e; injection e with e; omega)
          clear b365
          have KK366 : Hid (Below w.heap.size w Y366) := by
            have h1 := KK359.out.trans (ho366.below KK359.out.size (by have := HX.out; omega))
            exact h1.trans (hd366.below h1.size (by have := HX.out; omega))
          clear hb366 ho366 hc366 hd366 b364 b361 KK359
          go_upto_region 9 with (first | (refine wpList_load_num rfl (.tmp 10) rfl g13 rfl Lp b369.out fp.out.len ?_) | (refine wpList_load_num rfl (.tmp 9) rfl g8 rfl Lq b370.out fq.out.len ?_) | (refine wpList_store_num rfl rfl (.tmp 9) (.tmp 104) rfl g8 rfl Lp Lq rfl b370.out fq.out.len fp.out.len fp.out.one ?_; intro X371 hb371 ho371) | (refine wpList_store_num rfl rfl (.tmp 10) (.tmp 105) rfl g13 rfl Lq Lp rfl (b369.out.grown ho371 (by have := HX.out; intro e; injection e with e; omega)) fp.out.len fq.out.len fq.out.one ?_; intro Y371 hc371 hd371))
          have N371 : Hid (Blk Y371 g8 31 Lp) := (show Blk X371 g8 31 Lp from hb371).grown hd371 (by have := HX.out; intro e; injection e with e; omega)
          have O371 : Hid (Blk Y371 g13 31 Lq) := hc371
          have b372 : Hid (Blk Y371 g19 27 K310) := (b367.out.grown ho371 (by have := HX.out; intro e; injection e with e; omega)).grown hd371 (by have := HX.out; intro e; injection e with e; omega)
          clear b367
          have b373 : Hid (Blk Y371 g24 31 Lq) := (b368.out.grown ho371 (by have := HX.out; intro e; injection e with e; omega)).grown hd371 (by have := HX.out; intro e; injection e with e; omega)
          clear b368
          have b374 : Hid (Blk Y371 g1 27 K359) := (N366.out.grown ho371 (by have := HX.out; intro e; injection e with e; omega)).grown hd371 (by have := HX.out; intro e; injection e with e; omega)
          clear N366
          have b375 : Hid (Blk Y371 g4 27 L359) := (O366.out.grown ho371 (by have := HX.out; intro e; injection e with e; omega)).grown hd371 (by have := HX.out; intro e; injection e with e; omega)
          clear O366
          have KK371 : Hid (Below w.heap.size w Y371) := by
            have h1 := KK366.out.trans (ho371.below KK366.out.size (by have := HX.out; omega))
            exact h1.trans (hd371.below h1.size (by have := HX.out; omega))
          clear hb371 ho371 hc371 hd371 b370 b369 KK366
          go_wp2
          go_roundw
          case rel => exact ⟨k + 1, K359, L359, Lp, Lq, m, n, by go_num, hp359, hq359, fp, fq, b374, b375, N371, O371, KK371, by have := HKN.out; omega, by have := HKN.out; omega⟩
          case measure => have := HKN.out; simp [intOf]; omega
    · by_cases h1 : k < nn
      · skip
        have c1 : ((k : Int) < (nn : Int)) := by omega
        have c2 : ¬ ((k : Int) < 60) := by omega
        clear hlt hk60 hkn h1
        go_wp2_with (first | (refine wpList_load_el rfl (.tmp 7) rfl g1 rfl La ba.out (F.len fa.out) ?_) | (refine wpList_load_num rfl (.tmp 9) rfl g8 rfl Lp bp.out fp.out.len ?_))
        refine (same_yes F La Lp m _ fa.out fp.out).mono ?_
        rintro e w376 ⟨rfl, k376⟩
        have b377 : Hid (Blk w376 g1 27 La) := ba.out.below k376 ba.out.lt
        clear ba
        have b378 : Hid (Blk w376 g4 27 Lb) := bb.out.below k376 bb.out.lt
        clear bb
        have b379 : Hid (Blk w376 g8 31 Lp) := bp.out.below k376 bp.out.lt
        clear bp
        have b380 : Hid (Blk w376 g13 31 Lq) := bq.out.below k376 bq.out.lt
        clear bq
        have KK376 : Hid (Below w.heap.size w w376) := kk.out.trans (k376.mono kk.out.size)
        clear k376 kk
        go_wp2_with (first | (refine wpList_unguard rfl (wpList_load_el rfl (.tmp 8) rfl g4 rfl Lb b378.out (F.len fb.out) ?_)) | (refine wpList_unguard rfl (wpList_load_num rfl (.tmp 10) rfl g13 rfl Lq b380.out fq.out.len ?_)))
        refine (same_yes F Lb Lq n _ fb.out fq.out).mono ?_
        rintro e w381 ⟨rfl, k381⟩
        have b382 : Hid (Blk w381 g1 27 La) := b377.out.below k381 b377.out.lt
        clear b377
        have b383 : Hid (Blk w381 g4 27 Lb) := b378.out.below k381 b378.out.lt
        clear b378
        have b384 : Hid (Blk w381 g8 31 Lp) := b379.out.below k381 b379.out.lt
        clear b379
        have b385 : Hid (Blk w381 g13 31 Lq) := b380.out.below k381 b380.out.lt
        clear b380
        have KK381 : Hid (Below w.heap.size w w381) := KK376.out.trans (k381.mono KK376.out.size)
        clear k381 KK376
        go_wp2
        go_ret
        exact ⟨rfl, KK381.out⟩
      · skip
        have c1 : ¬ ((k : Int) < (nn : Int)) := by omega
        clear hlt hk60 hkn h1
        go_wp2_with (first | (refine wpList_load_el rfl (.tmp 7) rfl g1 rfl La ba.out (F.len fa.out) ?_) | (refine wpList_load_num rfl (.tmp 9) rfl g8 rfl Lp bp.out fp.out.len ?_))
        refine (same_yes F La Lp m _ fa.out fp.out).mono ?_
        rintro e w386 ⟨rfl, k386⟩
        have b387 : Hid (Blk w386 g1 27 La) := ba.out.below k386 ba.out.lt
        clear ba
        have b388 : Hid (Blk w386 g4 27 Lb) := bb.out.below k386 bb.out.lt
        clear bb
        have b389 : Hid (Blk w386 g8 31 Lp) := bp.out.below k386 bp.out.lt
        clear bp
        have b390 : Hid (Blk w386 g13 31 Lq) := bq.out.below k386 bq.out.lt
        clear bq
        have KK386 : Hid (Below w.heap.size w w386) := kk.out.trans (k386.mono kk.out.size)
        clear k386 kk
        go_wp2_with (first | (refine wpList_unguard rfl (wpList_load_el rfl (.tmp 8) rfl g4 rfl Lb b388.out (F.len fb.out) ?_)) | (refine wpList_unguard rfl (wpList_load_num rfl (.tmp 10) rfl g13 rfl Lq b390.out fq.out.len ?_)))
        refine (same_yes F Lb Lq n _ fb.out fq.out).mono ?_
        rintro e w391 ⟨rfl, k391⟩
        have b392 : Hid (Blk w391 g1 27 La) := b387.out.below k391 b387.out.lt
        clear b387
        have b393 : Hid (Blk w391 g4 27 Lb) := b388.out.below k391 b388.out.lt
        clear b388
        have b394 : Hid (Blk w391 g8 31 Lp) := b389.out.below k391 b389.out.lt
        clear b389
        have b395 : Hid (Blk w391 g13 31 Lq) := b390.out.below k391 b390.out.lt
        clear b390
        have KK391 : Hid (Below w.heap.size w w391) := KK386.out.trans (k391.mono KK386.out.size)
        clear k391 KK386
        go_wp2
        go_ret
        exact ⟨rfl, KK391.out⟩

end Go.Proofs.Ytmgbcollcfeolaa
