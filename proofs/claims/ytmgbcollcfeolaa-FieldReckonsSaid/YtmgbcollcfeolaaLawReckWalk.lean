/-
  THE WALK OF orloplaw07.FieldReckons, under FieldOk: it returns true, and writes nothing that was there. Conditions: FieldOk (proved of the code elsewhere). (Written by gen_fwalk.py.)
-/
import Derived.Test.YtmgbcollcfeolaaFieldFace
import Derived.Test.YtmgbcollcfeolaaFieldLaw
namespace Go.Proofs.Ytmgbcollcfeolaa
open Go.RowKit
set_option linter.unusedVariables false

set_option maxRecDepth 100000 in
set_option maxHeartbeats 16000000 in
theorem fieldReckons_walk_of {Fe : List Value → Nat → Prop} (F : FieldOk Fe) (w : World) (xs : List UInt8) (lx : xs.length = 32) (ys : List UInt8) (ly : ys.length = 32) (n : Nat) (hn : n < 4294967296) : Calls Try.prog 4 #[.agg (Lib.byteCells xs).toArray, .agg (Lib.byteCells ys).toArray, .int .u32 (n : Int)] w fun e w' => e = .returned (.bool true) ∧ Below w.heap.size w w' := by
  obtain ⟨a, ha⟩ : ∃ r, Hid (M.told xs % M.Q = r) := ⟨M.told xs % M.Q, rfl⟩
  have lta : Hid (a < M.Q) := by rw [← ha.out]; exact Nat.mod_lt _ M.Q_pos
  obtain ⟨b, hb⟩ : ∃ r, Hid (M.told ys % M.Q = r) := ⟨M.told ys % M.Q, rfl⟩
  have ltb : Hid (b < M.Q) := by rw [← hb.out]; exact Nat.mod_lt _ M.Q_pos
  have HN := Lib.hid hn
  clear hn
  obtain ⟨g, hg⟩ : ∃ g, g = w.heap.size := ⟨_, rfl⟩
  obtain ⟨W, hW⟩ : ∃ W, Hid (W = ((w.alloc (.cells (Lib.byteCells xs).toArray 35)).alloc (.cells (Lib.byteCells ys).toArray 35))) := ⟨_, rfl⟩
  have B0 : Hid (Blk W (g) 35 (Lib.byteCells xs)) := by rw [hW.out, hg]; exact (Blk.newAt _ _ _ _ _ (by simp) rfl).alloc _
  have B1 : Hid (Blk W (g + 1) 35 (Lib.byteCells ys)) := by rw [hW.out, hg]; exact Blk.newAt _ _ _ _ _ (by simp) rfl
  have K0 : Hid (Below w.heap.size w W) := by rw [hW.out]; exact (((Below.refl _ _).alloc (Nat.le_refl _) _).alloc (by simp) _)
  have hsl0 := slice32_all (g)
  have hsl1 := slice32_all (g + 1)
  go_enter Try.func4, Try.ntmps4
  go_upto_region 1 with fail
  rw [← hW.out, ← hg]
  clear hW hg
  go_wp2_with fail
  refine (fieldAwake_any F W).mono ?_
  rintro e wA ⟨rfl, kA⟩
  have C0 : Hid (Blk wA (g) 35 (Lib.byteCells xs)) := B0.out.below kA B0.out.lt
  have C1 : Hid (Blk wA (g + 1) 35 (Lib.byteCells ys)) := B1.out.below kA B1.out.lt
  have KA : Hid (Below w.heap.size w wA) := K0.out.trans (kA.mono K0.out.size)
  clear kA K0 B0 B1
  go_wp2_with fail
  refine (F.from_at _ (blk_all C0.out lx) ha).mono ?_
  rintro e w1 ⟨L1, rfl, l1, k1⟩
  have h1 := Lib.hid l1
  obtain ⟨g1, hg1⟩ : ∃ v, v = w1.heap.size := ⟨_, rfl⟩
  have N1 : Blk (w1.alloc (.cells z5.toArray 27)) g1 27 z5 := Blk.newAt _ _ _ _ _ hg1 rfl
  go_upto_region 4 with (rw [← z5_arr, ← hg1]; refine wpList_store_el rfl rfl (.tmp 7) (.tmp 14) rfl g1 rfl L1 z5 rfl N1 z5_len (F.len h1.out) (F.one h1.out) ?_; intro X1 hb1 ho1)
  have U1 : Below wA.heap.size wA X1 := (k1.alloc k1.size _).trans (ho1.below (by have := k1.size; simp; omega) (by have := k1.size; omega))
  have KK1 : Hid (Below w.heap.size w X1) := KA.out.trans (U1.mono KA.out.size)
  have b2 : Hid (Blk X1 (g) 35 (Lib.byteCells xs)) := C0.out.below U1 C0.out.lt
  clear C0
  have b3 : Hid (Blk X1 (g + 1) 35 (Lib.byteCells ys)) := C1.out.below U1 C1.out.lt
  clear C1
  have Q1 : Hid (Blk X1 g1 27 L1) := hb1
  clear l1 k1 hg1 N1 hb1 ho1 U1 KA
  go_wp2_with fail
  refine (F.from_at _ (blk_all b3.out ly) hb).mono ?_
  rintro e w4 ⟨L4, rfl, l4, k4⟩
  have h4 := Lib.hid l4
  obtain ⟨g4, hg4⟩ : ∃ v, v = w4.heap.size := ⟨_, rfl⟩
  have N4 : Blk (w4.alloc (.cells z5.toArray 27)) g4 27 z5 := Blk.newAt _ _ _ _ _ hg4 rfl
  go_upto_region 5 with (rw [← z5_arr, ← hg4]; refine wpList_store_el rfl rfl (.tmp 8) (.tmp 16) rfl g4 rfl L4 z5 rfl N4 z5_len (F.len h4.out) (F.one h4.out) ?_; intro X4 hb4 ho4)
  have U4 : Below X1.heap.size X1 X4 := (k4.alloc k4.size _).trans (ho4.below (by have := k4.size; simp; omega) (by have := k4.size; omega))
  have KK4 : Hid (Below w.heap.size w X4) := KK1.out.trans (U4.mono KK1.out.size)
  have b5 : Hid (Blk X4 g1 27 L1) := Q1.out.below U4 Q1.out.lt
  clear Q1
  have b6 : Hid (Blk X4 (g) 35 (Lib.byteCells xs)) := b2.out.below U4 b2.out.lt
  clear b2
  have b7 : Hid (Blk X4 (g + 1) 35 (Lib.byteCells ys)) := b3.out.below U4 b3.out.lt
  clear b3
  have Q4 : Hid (Blk X4 g4 27 L4) := hb4
  clear l4 k4 hg4 N4 hb4 ho4 U4 KK1
  go_wp2_with fail
  refine (rfrom_at _ (blk_all b6.out lx) ha).mono ?_
  rintro e w8 ⟨L8, rfl, l8, k8⟩
  have h8 := Lib.hid l8
  obtain ⟨g8, hg8⟩ : ∃ v, v = w8.heap.size := ⟨_, rfl⟩
  have N8 : Blk (w8.alloc (.cells z32.toArray 31)) g8 31 z32 := Blk.newAt _ _ _ _ _ hg8 rfl
  go_upto_region 6 with (rw [← z32_arr, ← hg8]; refine wpList_store_num rfl rfl (.tmp 9) (.tmp 18) rfl g8 rfl L8 z32 rfl N8 z32_len h8.out.len h8.out.one ?_; intro X8 hb8 ho8)
  have U8 : Below X4.heap.size X4 X8 := (k8.alloc k8.size _).trans (ho8.below (by have := k8.size; simp; omega) (by have := k8.size; omega))
  have KK8 : Hid (Below w.heap.size w X8) := KK4.out.trans (U8.mono KK4.out.size)
  have b9 : Hid (Blk X8 g1 27 L1) := b5.out.below U8 b5.out.lt
  clear b5
  have b10 : Hid (Blk X8 g4 27 L4) := Q4.out.below U8 Q4.out.lt
  clear Q4
  have b11 : Hid (Blk X8 (g) 35 (Lib.byteCells xs)) := b6.out.below U8 b6.out.lt
  clear b6
  have b12 : Hid (Blk X8 (g + 1) 35 (Lib.byteCells ys)) := b7.out.below U8 b7.out.lt
  clear b7
  have Q8 : Hid (Blk X8 g8 31 L8) := hb8
  clear l8 k8 hg8 N8 hb8 ho8 U8 KK4
  go_wp2_with fail
  refine (rfrom_at _ (blk_all b12.out ly) hb).mono ?_
  rintro e w13 ⟨L13, rfl, l13, k13⟩
  have h13 := Lib.hid l13
  obtain ⟨g13, hg13⟩ : ∃ v, v = w13.heap.size := ⟨_, rfl⟩
  have N13 : Blk (w13.alloc (.cells z32.toArray 31)) g13 31 z32 := Blk.newAt _ _ _ _ _ hg13 rfl
  go_upto_region 7 with (rw [← z32_arr, ← hg13]; refine wpList_store_num rfl rfl (.tmp 10) (.tmp 20) rfl g13 rfl L13 z32 rfl N13 z32_len h13.out.len h13.out.one ?_; intro X13 hb13 ho13)
  have U13 : Below X8.heap.size X8 X13 := (k13.alloc k13.size _).trans (ho13.below (by have := k13.size; simp; omega) (by have := k13.size; omega))
  have KK13 : Hid (Below w.heap.size w X13) := KK8.out.trans (U13.mono KK8.out.size)
  have b14 : Hid (Blk X13 g1 27 L1) := b9.out.below U13 b9.out.lt
  clear b9
  have b15 : Hid (Blk X13 g4 27 L4) := b10.out.below U13 b10.out.lt
  clear b10
  have b16 : Hid (Blk X13 g8 31 L8) := Q8.out.below U13 Q8.out.lt
  clear Q8
  have b17 : Hid (Blk X13 (g) 35 (Lib.byteCells xs)) := b11.out.below U13 b11.out.lt
  clear b11
  have b18 : Hid (Blk X13 (g + 1) 35 (Lib.byteCells ys)) := b12.out.below U13 b12.out.lt
  clear b12
  have Q13 : Hid (Blk X13 g13 31 L13) := hb13
  clear l13 k13 hg13 N13 hb13 ho13 U13 KK8
  go_upto_region 7 with fail
  refine wp_region_any (by kernel_rfl) ?_
  change wpAny _ _ _ _ _ _ _ (World.drew _)
  refine wpAny_of_held (S := fun w' => w'.rangeAt g1 0 L1 ∧ w'.rangeAt g4 0 L4 ∧ w'.rangeAt g8 0 L8 ∧ w'.rangeAt g13 0 L13) _ _ _ _ ?_
  have k19 : Hid (Below X13.heap.size X13 X13.drew) := below_draws X13 1
  refine wpAnyH_take_at (i := 0) (v := .agg L1.toArray) rfl rfl (by kernel_rfl) (by kernel_rfl) (by kernel_rfl) (fun _ _ _ h => h) (yieldsIf_load_mid (by rfl) 27 (.tmp 7) rfl g1 0 rfl L1 _ (fun w h => h.1) Try.underlying27 rfl (by rw [F.len h1.out]; kernel_rfl)) ⟨((b14.out.below k19.out b14.out.lt).range 0 _ [] (by simp)), ((b15.out.below k19.out b15.out.lt).range 0 _ [] (by simp)), ((b16.out.below k19.out b16.out.lt).range 0 _ [] (by simp)), ((Q13.out.below k19.out Q13.out.lt).range 0 _ [] (by simp))⟩ ?_
  simp only [List.setIfInBounds_toArray, List.set_cons_zero, List.set_cons_succ]
  refine wpAnyH_take_at (i := 1) (v := .agg L4.toArray) rfl rfl (by kernel_rfl) (by kernel_rfl) (by kernel_rfl) (fun _ _ _ h => h) (yieldsIf_load_mid (by rfl) 27 (.tmp 8) rfl g4 0 rfl L4 _ (fun w h => h.2.1) Try.underlying27 rfl (by rw [F.len h4.out]; kernel_rfl)) ⟨((b14.out.below k19.out b14.out.lt).range 0 _ [] (by simp)), ((b15.out.below k19.out b15.out.lt).range 0 _ [] (by simp)), ((b16.out.below k19.out b16.out.lt).range 0 _ [] (by simp)), ((Q13.out.below k19.out Q13.out.lt).range 0 _ [] (by simp))⟩ ?_
  simp only [List.setIfInBounds_toArray, List.set_cons_zero, List.set_cons_succ]
  refine wpAnyH_take_at (i := 3) (v := .agg L8.toArray) rfl rfl (by kernel_rfl) (by kernel_rfl) (by kernel_rfl) (fun _ _ _ h => h) (yieldsIf_load_mid (by rfl) 31 (.tmp 9) rfl g8 0 rfl L8 _ (fun w h => h.2.2.1) Try.underlying31 rfl (by rw [h8.out.len]; kernel_rfl)) ⟨((b14.out.below k19.out b14.out.lt).range 0 _ [] (by simp)), ((b15.out.below k19.out b15.out.lt).range 0 _ [] (by simp)), ((b16.out.below k19.out b16.out.lt).range 0 _ [] (by simp)), ((Q13.out.below k19.out Q13.out.lt).range 0 _ [] (by simp))⟩ ?_
  simp only [List.setIfInBounds_toArray, List.set_cons_zero, List.set_cons_succ]
  refine wpAnyH_take_at (i := 4) (v := .agg L13.toArray) rfl rfl (by kernel_rfl) (by kernel_rfl) (by kernel_rfl) (fun _ _ _ h => h) (yieldsIf_load_mid (by rfl) 31 (.tmp 10) rfl g13 0 rfl L13 _ (fun w h => h.2.2.2) Try.underlying31 rfl (by rw [h13.out.len]; kernel_rfl)) ⟨((b14.out.below k19.out b14.out.lt).range 0 _ [] (by simp)), ((b15.out.below k19.out b15.out.lt).range 0 _ [] (by simp)), ((b16.out.below k19.out b16.out.lt).range 0 _ [] (by simp)), ((Q13.out.below k19.out Q13.out.lt).range 0 _ [] (by simp))⟩ ?_
  simp only [List.setIfInBounds_toArray, List.set_cons_zero, List.set_cons_succ]
  obtain ⟨r20, hr20⟩ : ∃ r, Hid ((a + b) % M.Q = r) := ⟨(a + b) % M.Q, rfl⟩
  refine wpAnyH_ready (rs := [2]) (by kernel_rfl) (by simp) ?_
  refine AllReadyH.cons rfl (fun KC hK => ?_) AllReadyH.nil
  go_simp
  refine (F.add_at _ h1 h4 hr20).mono ?_
  rintro e v21 ⟨L21, rfl, l21, zc21⟩
  have hl21 := Lib.hid l21
  have k21 : Hid (Below X13.heap.size X13 v21) := k19.out.trans (zc21.mono k19.out.size)
  refine hK.out _ _ ⟨((b14.out.below k21.out b14.out.lt).range 0 _ [] (by simp)), ((b15.out.below k21.out b15.out.lt).range 0 _ [] (by simp)), ((b16.out.below k21.out b16.out.lt).range 0 _ [] (by simp)), ((Q13.out.below k21.out Q13.out.lt).range 0 _ [] (by simp))⟩ (fun _ => ?_)
  clear hK KC l21 zc21 k19
  refine wpAnyH_ready (rs := [5]) (by kernel_rfl) (by simp) ?_
  refine AllReadyH.cons rfl (fun KC hK => ?_) AllReadyH.nil
  go_simp
  refine (radd_at _ h8 h13 hr20).mono ?_
  rintro e v22 ⟨L22, rfl, l22, zc22⟩
  have hl22 := Lib.hid l22
  have k22 : Hid (Below X13.heap.size X13 v22) := k21.out.trans (zc22.mono k21.out.size)
  refine hK.out _ _ ⟨((b14.out.below k22.out b14.out.lt).range 0 _ [] (by simp)), ((b15.out.below k22.out b15.out.lt).range 0 _ [] (by simp)), ((b16.out.below k22.out b16.out.lt).range 0 _ [] (by simp)), ((Q13.out.below k22.out Q13.out.lt).range 0 _ [] (by simp))⟩ (fun _ => ?_)
  clear hK KC l22 zc22 k21
  refine wpAnyH_ready (rs := [6]) (by kernel_rfl) (by simp) ?_
  refine AllReadyH.cons rfl (fun KC hK => ?_) AllReadyH.nil
  go_simp
  refine (same_yes F L21 L22 r20 _ hl21.out hl22.out).mono ?_
  rintro e v23 ⟨rfl, zc23⟩
  have k23 : Hid (Below X13.heap.size X13 v23) := k22.out.trans (zc23.mono k22.out.size)
  refine hK.out _ _ ⟨((b14.out.below k23.out b14.out.lt).range 0 _ [] (by simp)), ((b15.out.below k23.out b15.out.lt).range 0 _ [] (by simp)), ((b16.out.below k23.out b16.out.lt).range 0 _ [] (by simp)), ((Q13.out.below k23.out Q13.out.lt).range 0 _ [] (by simp))⟩ (fun _ => ?_)
  clear hK KC zc23 k22
  refine wpAnyH_take_at (i := 7) (v := .bool true) rfl rfl (by kernel_rfl) (by kernel_rfl) (by kernel_rfl) (fun _ _ _ h => h) (Or.inl ⟨by rfl, fun w hS => by go_simp⟩) ⟨((b14.out.below k23.out b14.out.lt).range 0 _ [] (by simp)), ((b15.out.below k23.out b15.out.lt).range 0 _ [] (by simp)), ((b16.out.below k23.out b16.out.lt).range 0 _ [] (by simp)), ((Q13.out.below k23.out Q13.out.lt).range 0 _ [] (by simp))⟩ ?_
  simp only [List.setIfInBounds_toArray, List.set_cons_zero, List.set_cons_succ]
  refine wpAnyH_take_at (i := 8) (v := .agg L1.toArray) rfl rfl (by kernel_rfl) (by kernel_rfl) (by kernel_rfl) (fun _ _ _ h => h) (yieldsIf_load_mid (by rfl) 27 (.tmp 7) rfl g1 0 rfl L1 _ (fun w h => h.1) Try.underlying27 rfl (by rw [F.len h1.out]; kernel_rfl)) ⟨((b14.out.below k23.out b14.out.lt).range 0 _ [] (by simp)), ((b15.out.below k23.out b15.out.lt).range 0 _ [] (by simp)), ((b16.out.below k23.out b16.out.lt).range 0 _ [] (by simp)), ((Q13.out.below k23.out Q13.out.lt).range 0 _ [] (by simp))⟩ ?_
  simp only [List.setIfInBounds_toArray, List.set_cons_zero, List.set_cons_succ]
  refine wpAnyH_take_at (i := 9) (v := .agg L4.toArray) rfl rfl (by kernel_rfl) (by kernel_rfl) (by kernel_rfl) (fun _ _ _ h => h) (yieldsIf_load_mid (by rfl) 27 (.tmp 8) rfl g4 0 rfl L4 _ (fun w h => h.2.1) Try.underlying27 rfl (by rw [F.len h4.out]; kernel_rfl)) ⟨((b14.out.below k23.out b14.out.lt).range 0 _ [] (by simp)), ((b15.out.below k23.out b15.out.lt).range 0 _ [] (by simp)), ((b16.out.below k23.out b16.out.lt).range 0 _ [] (by simp)), ((Q13.out.below k23.out Q13.out.lt).range 0 _ [] (by simp))⟩ ?_
  simp only [List.setIfInBounds_toArray, List.set_cons_zero, List.set_cons_succ]
  refine wpAnyH_take_at (i := 11) (v := .agg L8.toArray) rfl rfl (by kernel_rfl) (by kernel_rfl) (by kernel_rfl) (fun _ _ _ h => h) (yieldsIf_load_mid (by rfl) 31 (.tmp 9) rfl g8 0 rfl L8 _ (fun w h => h.2.2.1) Try.underlying31 rfl (by rw [h8.out.len]; kernel_rfl)) ⟨((b14.out.below k23.out b14.out.lt).range 0 _ [] (by simp)), ((b15.out.below k23.out b15.out.lt).range 0 _ [] (by simp)), ((b16.out.below k23.out b16.out.lt).range 0 _ [] (by simp)), ((Q13.out.below k23.out Q13.out.lt).range 0 _ [] (by simp))⟩ ?_
  simp only [List.setIfInBounds_toArray, List.set_cons_zero, List.set_cons_succ]
  refine wpAnyH_take_at (i := 12) (v := .agg L13.toArray) rfl rfl (by kernel_rfl) (by kernel_rfl) (by kernel_rfl) (fun _ _ _ h => h) (yieldsIf_load_mid (by rfl) 31 (.tmp 10) rfl g13 0 rfl L13 _ (fun w h => h.2.2.2) Try.underlying31 rfl (by rw [h13.out.len]; kernel_rfl)) ⟨((b14.out.below k23.out b14.out.lt).range 0 _ [] (by simp)), ((b15.out.below k23.out b15.out.lt).range 0 _ [] (by simp)), ((b16.out.below k23.out b16.out.lt).range 0 _ [] (by simp)), ((Q13.out.below k23.out Q13.out.lt).range 0 _ [] (by simp))⟩ ?_
  simp only [List.setIfInBounds_toArray, List.set_cons_zero, List.set_cons_succ]
  obtain ⟨r24, hr24⟩ : ∃ r, Hid ((a + (M.Q - b)) % M.Q = r) := ⟨(a + (M.Q - b)) % M.Q, rfl⟩
  refine wpAnyH_ready (rs := [10]) (by kernel_rfl) (by simp) ?_
  refine AllReadyH.cons rfl (fun KC hK => ?_) AllReadyH.nil
  go_simp
  refine (F.sub_at _ h1 h4 hr24).mono ?_
  rintro e v25 ⟨L25, rfl, l25, zc25⟩
  have hl25 := Lib.hid l25
  have k25 : Hid (Below X13.heap.size X13 v25) := k23.out.trans (zc25.mono k23.out.size)
  refine hK.out _ _ ⟨((b14.out.below k25.out b14.out.lt).range 0 _ [] (by simp)), ((b15.out.below k25.out b15.out.lt).range 0 _ [] (by simp)), ((b16.out.below k25.out b16.out.lt).range 0 _ [] (by simp)), ((Q13.out.below k25.out Q13.out.lt).range 0 _ [] (by simp))⟩ (fun _ => ?_)
  clear hK KC l25 zc25 k23
  refine wpAnyH_ready (rs := [13]) (by kernel_rfl) (by simp) ?_
  refine AllReadyH.cons rfl (fun KC hK => ?_) AllReadyH.nil
  go_simp
  refine (rsub_at _ h8 h13 ltb hr24).mono ?_
  rintro e v26 ⟨L26, rfl, l26, zc26⟩
  have hl26 := Lib.hid l26
  have k26 : Hid (Below X13.heap.size X13 v26) := k25.out.trans (zc26.mono k25.out.size)
  refine hK.out _ _ ⟨((b14.out.below k26.out b14.out.lt).range 0 _ [] (by simp)), ((b15.out.below k26.out b15.out.lt).range 0 _ [] (by simp)), ((b16.out.below k26.out b16.out.lt).range 0 _ [] (by simp)), ((Q13.out.below k26.out Q13.out.lt).range 0 _ [] (by simp))⟩ (fun _ => ?_)
  clear hK KC l26 zc26 k25
  refine wpAnyH_ready (rs := [14]) (by kernel_rfl) (by simp) ?_
  refine AllReadyH.cons rfl (fun KC hK => ?_) AllReadyH.nil
  go_simp
  refine (same_yes F L25 L26 r24 _ hl25.out hl26.out).mono ?_
  rintro e v27 ⟨rfl, zc27⟩
  have k27 : Hid (Below X13.heap.size X13 v27) := k26.out.trans (zc27.mono k26.out.size)
  refine hK.out _ _ ⟨((b14.out.below k27.out b14.out.lt).range 0 _ [] (by simp)), ((b15.out.below k27.out b15.out.lt).range 0 _ [] (by simp)), ((b16.out.below k27.out b16.out.lt).range 0 _ [] (by simp)), ((Q13.out.below k27.out Q13.out.lt).range 0 _ [] (by simp))⟩ (fun _ => ?_)
  clear hK KC zc27 k26
  refine wpAnyH_take_at (i := 15) (v := .bool true) rfl rfl (by kernel_rfl) (by kernel_rfl) (by kernel_rfl) (fun _ _ _ h => h) (Or.inl ⟨by rfl, fun w hS => by go_simp⟩) ⟨((b14.out.below k27.out b14.out.lt).range 0 _ [] (by simp)), ((b15.out.below k27.out b15.out.lt).range 0 _ [] (by simp)), ((b16.out.below k27.out b16.out.lt).range 0 _ [] (by simp)), ((Q13.out.below k27.out Q13.out.lt).range 0 _ [] (by simp))⟩ ?_
  simp only [List.setIfInBounds_toArray, List.set_cons_zero, List.set_cons_succ]
  refine wpAnyH_take_at (i := 16) (v := .bool true) rfl rfl (by kernel_rfl) (by kernel_rfl) (by kernel_rfl) (fun _ _ _ h => h) (Or.inl ⟨by rfl, fun w hS => by go_simp⟩) ⟨((b14.out.below k27.out b14.out.lt).range 0 _ [] (by simp)), ((b15.out.below k27.out b15.out.lt).range 0 _ [] (by simp)), ((b16.out.below k27.out b16.out.lt).range 0 _ [] (by simp)), ((Q13.out.below k27.out Q13.out.lt).range 0 _ [] (by simp))⟩ ?_
  simp only [List.setIfInBounds_toArray, List.set_cons_zero, List.set_cons_succ]
  refine wpAnyH_take_at (i := 17) (v := .agg L1.toArray) rfl rfl (by kernel_rfl) (by kernel_rfl) (by kernel_rfl) (fun _ _ _ h => h) (yieldsIf_load_mid (by rfl) 27 (.tmp 7) rfl g1 0 rfl L1 _ (fun w h => h.1) Try.underlying27 rfl (by rw [F.len h1.out]; kernel_rfl)) ⟨((b14.out.below k27.out b14.out.lt).range 0 _ [] (by simp)), ((b15.out.below k27.out b15.out.lt).range 0 _ [] (by simp)), ((b16.out.below k27.out b16.out.lt).range 0 _ [] (by simp)), ((Q13.out.below k27.out Q13.out.lt).range 0 _ [] (by simp))⟩ ?_
  simp only [List.setIfInBounds_toArray, List.set_cons_zero, List.set_cons_succ]
  refine wpAnyH_take_at (i := 18) (v := .agg L4.toArray) rfl rfl (by kernel_rfl) (by kernel_rfl) (by kernel_rfl) (fun _ _ _ h => h) (yieldsIf_load_mid (by rfl) 27 (.tmp 8) rfl g4 0 rfl L4 _ (fun w h => h.2.1) Try.underlying27 rfl (by rw [F.len h4.out]; kernel_rfl)) ⟨((b14.out.below k27.out b14.out.lt).range 0 _ [] (by simp)), ((b15.out.below k27.out b15.out.lt).range 0 _ [] (by simp)), ((b16.out.below k27.out b16.out.lt).range 0 _ [] (by simp)), ((Q13.out.below k27.out Q13.out.lt).range 0 _ [] (by simp))⟩ ?_
  simp only [List.setIfInBounds_toArray, List.set_cons_zero, List.set_cons_succ]
  refine wpAnyH_take_at (i := 20) (v := .agg L8.toArray) rfl rfl (by kernel_rfl) (by kernel_rfl) (by kernel_rfl) (fun _ _ _ h => h) (yieldsIf_load_mid (by rfl) 31 (.tmp 9) rfl g8 0 rfl L8 _ (fun w h => h.2.2.1) Try.underlying31 rfl (by rw [h8.out.len]; kernel_rfl)) ⟨((b14.out.below k27.out b14.out.lt).range 0 _ [] (by simp)), ((b15.out.below k27.out b15.out.lt).range 0 _ [] (by simp)), ((b16.out.below k27.out b16.out.lt).range 0 _ [] (by simp)), ((Q13.out.below k27.out Q13.out.lt).range 0 _ [] (by simp))⟩ ?_
  simp only [List.setIfInBounds_toArray, List.set_cons_zero, List.set_cons_succ]
  refine wpAnyH_take_at (i := 21) (v := .agg L13.toArray) rfl rfl (by kernel_rfl) (by kernel_rfl) (by kernel_rfl) (fun _ _ _ h => h) (yieldsIf_load_mid (by rfl) 31 (.tmp 10) rfl g13 0 rfl L13 _ (fun w h => h.2.2.2) Try.underlying31 rfl (by rw [h13.out.len]; kernel_rfl)) ⟨((b14.out.below k27.out b14.out.lt).range 0 _ [] (by simp)), ((b15.out.below k27.out b15.out.lt).range 0 _ [] (by simp)), ((b16.out.below k27.out b16.out.lt).range 0 _ [] (by simp)), ((Q13.out.below k27.out Q13.out.lt).range 0 _ [] (by simp))⟩ ?_
  simp only [List.setIfInBounds_toArray, List.set_cons_zero, List.set_cons_succ]
  obtain ⟨r28, hr28⟩ : ∃ r, Hid (a * b % M.Q = r) := ⟨a * b % M.Q, rfl⟩
  refine wpAnyH_ready (rs := [19]) (by kernel_rfl) (by simp) ?_
  refine AllReadyH.cons rfl (fun KC hK => ?_) AllReadyH.nil
  go_simp
  refine (F.mul_at _ h1 h4 hr28).mono ?_
  rintro e v29 ⟨L29, rfl, l29, zc29⟩
  have hl29 := Lib.hid l29
  have k29 : Hid (Below X13.heap.size X13 v29) := k27.out.trans (zc29.mono k27.out.size)
  refine hK.out _ _ ⟨((b14.out.below k29.out b14.out.lt).range 0 _ [] (by simp)), ((b15.out.below k29.out b15.out.lt).range 0 _ [] (by simp)), ((b16.out.below k29.out b16.out.lt).range 0 _ [] (by simp)), ((Q13.out.below k29.out Q13.out.lt).range 0 _ [] (by simp))⟩ (fun _ => ?_)
  clear hK KC l29 zc29 k27
  refine wpAnyH_ready (rs := [22]) (by kernel_rfl) (by simp) ?_
  refine AllReadyH.cons rfl (fun KC hK => ?_) AllReadyH.nil
  go_simp
  refine (rmul_at _ h8 h13 hr28).mono ?_
  rintro e v30 ⟨L30, rfl, l30, zc30⟩
  have hl30 := Lib.hid l30
  have k30 : Hid (Below X13.heap.size X13 v30) := k29.out.trans (zc30.mono k29.out.size)
  refine hK.out _ _ ⟨((b14.out.below k30.out b14.out.lt).range 0 _ [] (by simp)), ((b15.out.below k30.out b15.out.lt).range 0 _ [] (by simp)), ((b16.out.below k30.out b16.out.lt).range 0 _ [] (by simp)), ((Q13.out.below k30.out Q13.out.lt).range 0 _ [] (by simp))⟩ (fun _ => ?_)
  clear hK KC l30 zc30 k29
  refine wpAnyH_ready (rs := [23]) (by kernel_rfl) (by simp) ?_
  refine AllReadyH.cons rfl (fun KC hK => ?_) AllReadyH.nil
  go_simp
  refine (same_yes F L29 L30 r28 _ hl29.out hl30.out).mono ?_
  rintro e v31 ⟨rfl, zc31⟩
  have k31 : Hid (Below X13.heap.size X13 v31) := k30.out.trans (zc31.mono k30.out.size)
  refine hK.out _ _ ⟨((b14.out.below k31.out b14.out.lt).range 0 _ [] (by simp)), ((b15.out.below k31.out b15.out.lt).range 0 _ [] (by simp)), ((b16.out.below k31.out b16.out.lt).range 0 _ [] (by simp)), ((Q13.out.below k31.out Q13.out.lt).range 0 _ [] (by simp))⟩ (fun _ => ?_)
  clear hK KC zc31 k30
  refine wpAnyH_take_at (i := 24) (v := .bool true) rfl rfl (by kernel_rfl) (by kernel_rfl) (by kernel_rfl) (fun _ _ _ h => h) (Or.inl ⟨by rfl, fun w hS => by go_simp⟩) ⟨((b14.out.below k31.out b14.out.lt).range 0 _ [] (by simp)), ((b15.out.below k31.out b15.out.lt).range 0 _ [] (by simp)), ((b16.out.below k31.out b16.out.lt).range 0 _ [] (by simp)), ((Q13.out.below k31.out Q13.out.lt).range 0 _ [] (by simp))⟩ ?_
  simp only [List.setIfInBounds_toArray, List.set_cons_zero, List.set_cons_succ]
  refine wpAnyH_take_at (i := 25) (v := .bool true) rfl rfl (by kernel_rfl) (by kernel_rfl) (by kernel_rfl) (fun _ _ _ h => h) (Or.inl ⟨by rfl, fun w hS => by go_simp⟩) ⟨((b14.out.below k31.out b14.out.lt).range 0 _ [] (by simp)), ((b15.out.below k31.out b15.out.lt).range 0 _ [] (by simp)), ((b16.out.below k31.out b16.out.lt).range 0 _ [] (by simp)), ((Q13.out.below k31.out Q13.out.lt).range 0 _ [] (by simp))⟩ ?_
  simp only [List.setIfInBounds_toArray, List.set_cons_zero, List.set_cons_succ]
  refine wpAnyH_take_at (i := 26) (v := .agg L1.toArray) rfl rfl (by kernel_rfl) (by kernel_rfl) (by kernel_rfl) (fun _ _ _ h => h) (yieldsIf_load_mid (by rfl) 27 (.tmp 7) rfl g1 0 rfl L1 _ (fun w h => h.1) Try.underlying27 rfl (by rw [F.len h1.out]; kernel_rfl)) ⟨((b14.out.below k31.out b14.out.lt).range 0 _ [] (by simp)), ((b15.out.below k31.out b15.out.lt).range 0 _ [] (by simp)), ((b16.out.below k31.out b16.out.lt).range 0 _ [] (by simp)), ((Q13.out.below k31.out Q13.out.lt).range 0 _ [] (by simp))⟩ ?_
  simp only [List.setIfInBounds_toArray, List.set_cons_zero, List.set_cons_succ]
  refine wpAnyH_take_at (i := 28) (v := .agg L8.toArray) rfl rfl (by kernel_rfl) (by kernel_rfl) (by kernel_rfl) (fun _ _ _ h => h) (yieldsIf_load_mid (by rfl) 31 (.tmp 9) rfl g8 0 rfl L8 _ (fun w h => h.2.2.1) Try.underlying31 rfl (by rw [h8.out.len]; kernel_rfl)) ⟨((b14.out.below k31.out b14.out.lt).range 0 _ [] (by simp)), ((b15.out.below k31.out b15.out.lt).range 0 _ [] (by simp)), ((b16.out.below k31.out b16.out.lt).range 0 _ [] (by simp)), ((Q13.out.below k31.out Q13.out.lt).range 0 _ [] (by simp))⟩ ?_
  simp only [List.setIfInBounds_toArray, List.set_cons_zero, List.set_cons_succ]
  refine wpAnyH_take_at (i := 29) (v := .agg L8.toArray) rfl rfl (by kernel_rfl) (by kernel_rfl) (by kernel_rfl) (fun _ _ _ h => h) (yieldsIf_load_mid (by rfl) 31 (.tmp 9) rfl g8 0 rfl L8 _ (fun w h => h.2.2.1) Try.underlying31 rfl (by rw [h8.out.len]; kernel_rfl)) ⟨((b14.out.below k31.out b14.out.lt).range 0 _ [] (by simp)), ((b15.out.below k31.out b15.out.lt).range 0 _ [] (by simp)), ((b16.out.below k31.out b16.out.lt).range 0 _ [] (by simp)), ((Q13.out.below k31.out Q13.out.lt).range 0 _ [] (by simp))⟩ ?_
  simp only [List.setIfInBounds_toArray, List.set_cons_zero, List.set_cons_succ]
  obtain ⟨r32, hr32⟩ : ∃ r, Hid (a * a % M.Q = r) := ⟨a * a % M.Q, rfl⟩
  refine wpAnyH_ready (rs := [27]) (by kernel_rfl) (by simp) ?_
  refine AllReadyH.cons rfl (fun KC hK => ?_) AllReadyH.nil
  go_simp
  refine (F.square_at _ h1 hr32).mono ?_
  rintro e v33 ⟨L33, rfl, l33, zc33⟩
  have hl33 := Lib.hid l33
  have k33 : Hid (Below X13.heap.size X13 v33) := k31.out.trans (zc33.mono k31.out.size)
  refine hK.out _ _ ⟨((b14.out.below k33.out b14.out.lt).range 0 _ [] (by simp)), ((b15.out.below k33.out b15.out.lt).range 0 _ [] (by simp)), ((b16.out.below k33.out b16.out.lt).range 0 _ [] (by simp)), ((Q13.out.below k33.out Q13.out.lt).range 0 _ [] (by simp))⟩ (fun _ => ?_)
  clear hK KC l33 zc33 k31
  refine wpAnyH_ready (rs := [30]) (by kernel_rfl) (by simp) ?_
  refine AllReadyH.cons rfl (fun KC hK => ?_) AllReadyH.nil
  go_simp
  refine (rmul_at _ h8 h8 hr32).mono ?_
  rintro e v34 ⟨L34, rfl, l34, zc34⟩
  have hl34 := Lib.hid l34
  have k34 : Hid (Below X13.heap.size X13 v34) := k33.out.trans (zc34.mono k33.out.size)
  refine hK.out _ _ ⟨((b14.out.below k34.out b14.out.lt).range 0 _ [] (by simp)), ((b15.out.below k34.out b15.out.lt).range 0 _ [] (by simp)), ((b16.out.below k34.out b16.out.lt).range 0 _ [] (by simp)), ((Q13.out.below k34.out Q13.out.lt).range 0 _ [] (by simp))⟩ (fun _ => ?_)
  clear hK KC l34 zc34 k33
  refine wpAnyH_ready (rs := [31]) (by kernel_rfl) (by simp) ?_
  refine AllReadyH.cons rfl (fun KC hK => ?_) AllReadyH.nil
  go_simp
  refine (same_yes F L33 L34 r32 _ hl33.out hl34.out).mono ?_
  rintro e v35 ⟨rfl, zc35⟩
  have k35 : Hid (Below X13.heap.size X13 v35) := k34.out.trans (zc35.mono k34.out.size)
  refine hK.out _ _ ⟨((b14.out.below k35.out b14.out.lt).range 0 _ [] (by simp)), ((b15.out.below k35.out b15.out.lt).range 0 _ [] (by simp)), ((b16.out.below k35.out b16.out.lt).range 0 _ [] (by simp)), ((Q13.out.below k35.out Q13.out.lt).range 0 _ [] (by simp))⟩ (fun _ => ?_)
  clear hK KC zc35 k34
  refine wpAnyH_take_at (i := 32) (v := .bool true) rfl rfl (by kernel_rfl) (by kernel_rfl) (by kernel_rfl) (fun _ _ _ h => h) (Or.inl ⟨by rfl, fun w hS => by go_simp⟩) ⟨((b14.out.below k35.out b14.out.lt).range 0 _ [] (by simp)), ((b15.out.below k35.out b15.out.lt).range 0 _ [] (by simp)), ((b16.out.below k35.out b16.out.lt).range 0 _ [] (by simp)), ((Q13.out.below k35.out Q13.out.lt).range 0 _ [] (by simp))⟩ ?_
  simp only [List.setIfInBounds_toArray, List.set_cons_zero, List.set_cons_succ]
  refine wpAnyH_take_at (i := 33) (v := .bool true) rfl rfl (by kernel_rfl) (by kernel_rfl) (by kernel_rfl) (fun _ _ _ h => h) (Or.inl ⟨by rfl, fun w hS => by go_simp⟩) ⟨((b14.out.below k35.out b14.out.lt).range 0 _ [] (by simp)), ((b15.out.below k35.out b15.out.lt).range 0 _ [] (by simp)), ((b16.out.below k35.out b16.out.lt).range 0 _ [] (by simp)), ((Q13.out.below k35.out Q13.out.lt).range 0 _ [] (by simp))⟩ ?_
  simp only [List.setIfInBounds_toArray, List.set_cons_zero, List.set_cons_succ]
  refine wpAnyH_take_at (i := 34) (v := .agg L1.toArray) rfl rfl (by kernel_rfl) (by kernel_rfl) (by kernel_rfl) (fun _ _ _ h => h) (yieldsIf_load_mid (by rfl) 27 (.tmp 7) rfl g1 0 rfl L1 _ (fun w h => h.1) Try.underlying27 rfl (by rw [F.len h1.out]; kernel_rfl)) ⟨((b14.out.below k35.out b14.out.lt).range 0 _ [] (by simp)), ((b15.out.below k35.out b15.out.lt).range 0 _ [] (by simp)), ((b16.out.below k35.out b16.out.lt).range 0 _ [] (by simp)), ((Q13.out.below k35.out Q13.out.lt).range 0 _ [] (by simp))⟩ ?_
  simp only [List.setIfInBounds_toArray, List.set_cons_zero, List.set_cons_succ]
  refine wpAnyH_take_at (i := 35) (v := .int .u32 (n : Int)) rfl rfl (by kernel_rfl) (by kernel_rfl) (by kernel_rfl) (fun _ _ _ h => h) (Or.inl ⟨by rfl, fun w hS => by go_simp⟩) ⟨((b14.out.below k35.out b14.out.lt).range 0 _ [] (by simp)), ((b15.out.below k35.out b15.out.lt).range 0 _ [] (by simp)), ((b16.out.below k35.out b16.out.lt).range 0 _ [] (by simp)), ((Q13.out.below k35.out Q13.out.lt).range 0 _ [] (by simp))⟩ ?_
  simp only [List.setIfInBounds_toArray, List.set_cons_zero, List.set_cons_succ]
  refine wpAnyH_take_at (i := 37) (v := .agg L8.toArray) rfl rfl (by kernel_rfl) (by kernel_rfl) (by kernel_rfl) (fun _ _ _ h => h) (yieldsIf_load_mid (by rfl) 31 (.tmp 9) rfl g8 0 rfl L8 _ (fun w h => h.2.2.1) Try.underlying31 rfl (by rw [h8.out.len]; kernel_rfl)) ⟨((b14.out.below k35.out b14.out.lt).range 0 _ [] (by simp)), ((b15.out.below k35.out b15.out.lt).range 0 _ [] (by simp)), ((b16.out.below k35.out b16.out.lt).range 0 _ [] (by simp)), ((Q13.out.below k35.out Q13.out.lt).range 0 _ [] (by simp))⟩ ?_
  simp only [List.setIfInBounds_toArray, List.set_cons_zero, List.set_cons_succ]
  refine wpAnyH_take_at (i := 38) (v := .int .u32 (n : Int)) rfl rfl (by kernel_rfl) (by kernel_rfl) (by kernel_rfl) (fun _ _ _ h => h) (Or.inl ⟨by rfl, fun w hS => by go_simp⟩) ⟨((b14.out.below k35.out b14.out.lt).range 0 _ [] (by simp)), ((b15.out.below k35.out b15.out.lt).range 0 _ [] (by simp)), ((b16.out.below k35.out b16.out.lt).range 0 _ [] (by simp)), ((Q13.out.below k35.out Q13.out.lt).range 0 _ [] (by simp))⟩ ?_
  simp only [List.setIfInBounds_toArray, List.set_cons_zero, List.set_cons_succ]
  obtain ⟨r36, hr36⟩ : ∃ r, Hid (a * n % M.Q = r) := ⟨a * n % M.Q, rfl⟩
  refine wpAnyH_ready (rs := [36]) (by kernel_rfl) (by simp) ?_
  refine AllReadyH.cons rfl (fun KC hK => ?_) AllReadyH.nil
  go_simp
  refine (F.times_at _ h1 HN hr36).mono ?_
  rintro e v37 ⟨L37, rfl, l37, zc37⟩
  have hl37 := Lib.hid l37
  have k37 : Hid (Below X13.heap.size X13 v37) := k35.out.trans (zc37.mono k35.out.size)
  refine hK.out _ _ ⟨((b14.out.below k37.out b14.out.lt).range 0 _ [] (by simp)), ((b15.out.below k37.out b15.out.lt).range 0 _ [] (by simp)), ((b16.out.below k37.out b16.out.lt).range 0 _ [] (by simp)), ((Q13.out.below k37.out Q13.out.lt).range 0 _ [] (by simp))⟩ (fun _ => ?_)
  clear hK KC l37 zc37 k35
  refine wpAnyH_ready (rs := [39]) (by kernel_rfl) (by simp) ?_
  refine AllReadyH.cons rfl (fun KC hK => ?_) AllReadyH.nil
  go_simp
  refine (rsmall_at _ HN).mono ?_
  rintro e v38 ⟨L38, rfl, l38, zc38⟩
  have hl38 := Lib.hid l38
  have k38 : Hid (Below X13.heap.size X13 v38) := k37.out.trans (zc38.mono k37.out.size)
  refine hK.out _ _ ⟨((b14.out.below k38.out b14.out.lt).range 0 _ [] (by simp)), ((b15.out.below k38.out b15.out.lt).range 0 _ [] (by simp)), ((b16.out.below k38.out b16.out.lt).range 0 _ [] (by simp)), ((Q13.out.below k38.out Q13.out.lt).range 0 _ [] (by simp))⟩ (fun _ => ?_)
  clear hK KC l38 zc38 k37
  refine wpAnyH_ready (rs := [40]) (by kernel_rfl) (by simp) ?_
  refine AllReadyH.cons rfl (fun KC hK => ?_) AllReadyH.nil
  go_simp
  refine (rmul_at _ h8 hl38 hr36).mono ?_
  rintro e v39 ⟨L39, rfl, l39, zc39⟩
  have hl39 := Lib.hid l39
  have k39 : Hid (Below X13.heap.size X13 v39) := k38.out.trans (zc39.mono k38.out.size)
  refine hK.out _ _ ⟨((b14.out.below k39.out b14.out.lt).range 0 _ [] (by simp)), ((b15.out.below k39.out b15.out.lt).range 0 _ [] (by simp)), ((b16.out.below k39.out b16.out.lt).range 0 _ [] (by simp)), ((Q13.out.below k39.out Q13.out.lt).range 0 _ [] (by simp))⟩ (fun _ => ?_)
  clear hK KC l39 zc39 k38
  refine wpAnyH_ready (rs := [41]) (by kernel_rfl) (by simp) ?_
  refine AllReadyH.cons rfl (fun KC hK => ?_) AllReadyH.nil
  go_simp
  refine (same_yes F L37 L39 r36 _ hl37.out hl39.out).mono ?_
  rintro e v40 ⟨rfl, zc40⟩
  have k40 : Hid (Below X13.heap.size X13 v40) := k39.out.trans (zc40.mono k39.out.size)
  refine hK.out _ _ ⟨((b14.out.below k40.out b14.out.lt).range 0 _ [] (by simp)), ((b15.out.below k40.out b15.out.lt).range 0 _ [] (by simp)), ((b16.out.below k40.out b16.out.lt).range 0 _ [] (by simp)), ((Q13.out.below k40.out Q13.out.lt).range 0 _ [] (by simp))⟩ (fun _ => ?_)
  clear hK KC zc40 k39
  refine wpAnyH_take_at (i := 42) (v := .bool true) rfl rfl (by kernel_rfl) (by kernel_rfl) (by kernel_rfl) (fun _ _ _ h => h) (Or.inl ⟨by rfl, fun w hS => by go_simp⟩) ⟨((b14.out.below k40.out b14.out.lt).range 0 _ [] (by simp)), ((b15.out.below k40.out b15.out.lt).range 0 _ [] (by simp)), ((b16.out.below k40.out b16.out.lt).range 0 _ [] (by simp)), ((Q13.out.below k40.out Q13.out.lt).range 0 _ [] (by simp))⟩ ?_
  simp only [List.setIfInBounds_toArray, List.set_cons_zero, List.set_cons_succ]
  refine wpAnyH_take_at (i := 43) (v := .bool true) rfl rfl (by kernel_rfl) (by kernel_rfl) (by kernel_rfl) (fun _ _ _ h => h) (Or.inl ⟨by rfl, fun w hS => by go_simp⟩) ⟨((b14.out.below k40.out b14.out.lt).range 0 _ [] (by simp)), ((b15.out.below k40.out b15.out.lt).range 0 _ [] (by simp)), ((b16.out.below k40.out b16.out.lt).range 0 _ [] (by simp)), ((Q13.out.below k40.out Q13.out.lt).range 0 _ [] (by simp))⟩ ?_
  simp only [List.setIfInBounds_toArray, List.set_cons_zero, List.set_cons_succ]
  refine wpAnyH_done (by kernel_rfl) ?_ _
  have KK41 : Hid (Below w.heap.size w v40) := KK13.out.trans (k40.out.mono KK13.out.size)
  have b42 : Hid (Blk v40 g1 27 L1) := b14.out.below k40.out b14.out.lt
  have b43 : Hid (Blk v40 g4 27 L4) := b15.out.below k40.out b15.out.lt
  have b44 : Hid (Blk v40 g8 31 L8) := b16.out.below k40.out b16.out.lt
  have b45 : Hid (Blk v40 g13 31 L13) := Q13.out.below k40.out Q13.out.lt
  go_wp2
  go_ret
  exact ⟨rfl, KK41.out⟩

end Go.Proofs.Ytmgbcollcfeolaa
