/-
  THE WALK OF orloplaw07.FieldSquares, under FieldOk: it returns true, and writes nothing that was there. Conditions: FieldOk (proved of the code elsewhere). (Written by gen_fwalk.py.)
-/
import Derived.Test.YtmgbcollcfeolaaFieldFace
import Derived.Test.YtmgbcollcfeolaaFieldLaw
namespace Go.Proofs.Ytmgbcollcfeolaa
open Go.RowKit
set_option linter.unusedVariables false

set_option maxRecDepth 100000 in
set_option maxHeartbeats 16000000 in
theorem fieldSquares_walk_of {Fe : List Value → Nat → Prop} (F : FieldOk Fe) (w : World) (xs : List UInt8) (lx : xs.length = 32) (ys : List UInt8) (ly : ys.length = 32) : Calls Try.prog 8 #[.agg (Lib.byteCells xs).toArray, .agg (Lib.byteCells ys).toArray] w fun e w' => e = .returned (.bool true) ∧ Below w.heap.size w w' := by
  obtain ⟨a, ha⟩ : ∃ r, Hid (M.told xs % M.Q = r) := ⟨M.told xs % M.Q, rfl⟩
  have lta : Hid (a < M.Q) := by rw [← ha.out]; exact Nat.mod_lt _ M.Q_pos
  obtain ⟨b, hb⟩ : ∃ r, Hid (M.told ys % M.Q = r) := ⟨M.told ys % M.Q, rfl⟩
  have ltb : Hid (b < M.Q) := by rw [← hb.out]; exact Nat.mod_lt _ M.Q_pos
  have hz : Hid (M.told ([] : List UInt8) % M.Q = 0) := M.told_none
  obtain ⟨zs, hzs⟩ : ∃ z, Hid (List.replicate 32 (0 : UInt8) = z) := ⟨_, rfl⟩
  have hzb : Hid (M.le 0 32 = zs) := by rw [← hzs.out]; exact M.le_zero32
  obtain ⟨ZC, hZC⟩ := make_run 32 (by decide)
  have hmk : ∀ w : World, (Instr.makeSlice 22 (.int .i64 32) (.int .i64 32)).run Try.prog w = .ok (.slice (some ⟨w.heap.size, 0, none⟩) 32 32) (w.alloc (.cells ZC 5)) := fun w => (hZC w).1
  have HMK : Hid (∀ w : World, Own (w.alloc (.cells ZC 5)) w.heap.size (.slice (some ⟨w.heap.size, 0, none⟩) 32 32) (List.replicate 32 0)) := fun w => (hZC w).2
  clear hZC
  obtain ⟨g, hg⟩ : ∃ g, g = w.heap.size := ⟨_, rfl⟩
  obtain ⟨W, hW⟩ : ∃ W, Hid (W = ((w.alloc (.cells (Lib.byteCells xs).toArray 35)).alloc (.cells (Lib.byteCells ys).toArray 35))) := ⟨_, rfl⟩
  have B0 : Hid (Blk W (g) 35 (Lib.byteCells xs)) := by rw [hW.out, hg]; exact (Blk.newAt _ _ _ _ _ (by simp) rfl).alloc _
  have B1 : Hid (Blk W (g + 1) 35 (Lib.byteCells ys)) := by rw [hW.out, hg]; exact Blk.newAt _ _ _ _ _ (by simp) rfl
  have K0 : Hid (Below w.heap.size w W) := by rw [hW.out]; exact (((Below.refl _ _).alloc (Nat.le_refl _) _).alloc (by simp) _)
  have hsl0 := slice32_all (g)
  have hsl1 := slice32_all (g + 1)
  go_enter Try.func8, Try.ntmps8
  go_upto_region 1 with fail
  rw [← hW.out, ← hg]
  clear hW hg
  go_wp2_with fail
  refine (fieldAwake_any F W).mono ?_
  rintro e wA ⟨rfl, kA⟩
  have C0 : Hid (Blk wA (g) 35 (Lib.byteCells xs)) := B0.out.below kA B0.out.lt
  have C1 : Hid (Blk wA (g + 1) 35 (Lib.byteCells ys)) := B1.out.below kA B1.out.lt
  have KA : Hid (Below w.heap.size w wA) := K0.out.trans (kA.mono K0.out.size)
  clear kA K0 B0 B1
  go_wp2_with fail
  refine (F.from_at _ (blk_all C0.out lx) ha).mono ?_
  rintro e w1 ⟨L1, rfl, l1, k1⟩
  have h1 := Lib.hid l1
  obtain ⟨g1, hg1⟩ : ∃ v, v = w1.heap.size := ⟨_, rfl⟩
  have N1 : Blk (w1.alloc (.cells z5.toArray 27)) g1 27 z5 := Blk.newAt _ _ _ _ _ hg1 rfl
  go_upto_region 4 with (rw [← z5_arr, ← hg1]; refine wpList_store_el rfl rfl (.tmp 5) (.tmp 13) rfl g1 rfl L1 z5 rfl N1 z5_len (F.len h1.out) (F.one h1.out) ?_; intro X1 hb1 ho1)
  have U1 : Below wA.heap.size wA X1 := (k1.alloc k1.size _).trans (ho1.below (by have := k1.size; simp; omega) (by have := k1.size; omega))
  have KK1 : Hid (Below w.heap.size w X1) := KA.out.trans (U1.mono KA.out.size)
  have b2 : Hid (Blk X1 (g) 35 (Lib.byteCells xs)) := C0.out.below U1 C0.out.lt
  clear C0
  have b3 : Hid (Blk X1 (g + 1) 35 (Lib.byteCells ys)) := C1.out.below U1 C1.out.lt
  clear C1
  have Q1 : Hid (Blk X1 g1 27 L1) := hb1
  clear l1 k1 hg1 N1 hb1 ho1 U1 KA
  go_wp2_with fail
  refine (F.from_at _ (blk_all b3.out ly) hb).mono ?_
  rintro e w4 ⟨L4, rfl, l4, k4⟩
  have h4 := Lib.hid l4
  obtain ⟨g4, hg4⟩ : ∃ v, v = w4.heap.size := ⟨_, rfl⟩
  have N4 : Blk (w4.alloc (.cells z5.toArray 27)) g4 27 z5 := Blk.newAt _ _ _ _ _ hg4 rfl
  go_upto_region 5 with (rw [← z5_arr, ← hg4]; refine wpList_store_el rfl rfl (.tmp 6) (.tmp 15) rfl g4 rfl L4 z5 rfl N4 z5_len (F.len h4.out) (F.one h4.out) ?_; intro X4 hb4 ho4)
  have U4 : Below X1.heap.size X1 X4 := (k4.alloc k4.size _).trans (ho4.below (by have := k4.size; simp; omega) (by have := k4.size; omega))
  have KK4 : Hid (Below w.heap.size w X4) := KK1.out.trans (U4.mono KK1.out.size)
  have b5 : Hid (Blk X4 g1 27 L1) := Q1.out.below U4 Q1.out.lt
  clear Q1
  have b6 : Hid (Blk X4 (g) 35 (Lib.byteCells xs)) := b2.out.below U4 b2.out.lt
  clear b2
  have b7 : Hid (Blk X4 (g + 1) 35 (Lib.byteCells ys)) := b3.out.below U4 b3.out.lt
  clear b3
  have Q4 : Hid (Blk X4 g4 27 L4) := hb4
  clear l4 k4 hg4 N4 hb4 ho4 U4 KK1
  go_wp2_with fail
  refine (F.from_at _ (IsB.nil _) hz).mono ?_
  rintro e w8 ⟨L8, rfl, l8, k8⟩
  have h8 := Lib.hid l8
  obtain ⟨g8, hg8⟩ : ∃ v, v = w8.heap.size := ⟨_, rfl⟩
  have N8 : Blk (w8.alloc (.cells z5.toArray 27)) g8 27 z5 := Blk.newAt _ _ _ _ _ hg8 rfl
  go_upto_region 6 with (rw [← z5_arr, ← hg8]; refine wpList_store_el rfl rfl (.tmp 7) (.tmp 16) rfl g8 rfl L8 z5 rfl N8 z5_len (F.len h8.out) (F.one h8.out) ?_; intro X8 hb8 ho8)
  have U8 : Below X4.heap.size X4 X8 := (k8.alloc k8.size _).trans (ho8.below (by have := k8.size; simp; omega) (by have := k8.size; omega))
  have KK8 : Hid (Below w.heap.size w X8) := KK4.out.trans (U8.mono KK4.out.size)
  have b9 : Hid (Blk X8 g1 27 L1) := b5.out.below U8 b5.out.lt
  clear b5
  have b10 : Hid (Blk X8 g4 27 L4) := Q4.out.below U8 Q4.out.lt
  clear Q4
  have b11 : Hid (Blk X8 (g) 35 (Lib.byteCells xs)) := b6.out.below U8 b6.out.lt
  clear b6
  have b12 : Hid (Blk X8 (g + 1) 35 (Lib.byteCells ys)) := b7.out.below U8 b7.out.lt
  clear b7
  have Q8 : Hid (Blk X8 g8 27 L8) := hb8
  clear l8 k8 hg8 N8 hb8 ho8 U8 KK4
  obtain ⟨r13, hr13⟩ : ∃ r, Hid ((a + b) % M.Q = r) := ⟨(a + b) % M.Q, rfl⟩
  obtain ⟨r14, hr14⟩ : ∃ r, Hid ((a + (M.Q - b)) % M.Q = r) := ⟨(a + (M.Q - b)) % M.Q, rfl⟩
  obtain ⟨r15, hr15⟩ : ∃ r, Hid (r13 * r14 % M.Q = r) := ⟨r13 * r14 % M.Q, rfl⟩
  obtain ⟨r16, hr16⟩ : ∃ r, Hid (a * a % M.Q = r) := ⟨a * a % M.Q, rfl⟩
  obtain ⟨r17, hr17⟩ : ∃ r, Hid (b * b % M.Q = r) := ⟨b * b % M.Q, rfl⟩
  obtain ⟨r18, hr18⟩ : ∃ r, Hid (a * 3 % M.Q = r) := ⟨a * 3 % M.Q, rfl⟩
  obtain ⟨r19, hr19⟩ : ∃ r, Hid ((a + a) % M.Q = r) := ⟨(a + a) % M.Q, rfl⟩
  obtain ⟨r20, hr20⟩ : ∃ r, Hid ((0 + (M.Q - a)) % M.Q = r) := ⟨(0 + (M.Q - a)) % M.Q, rfl⟩
  go_upto_region 6 with fail
  refine wp_region_any (by kernel_rfl) ?_
  change wpAny _ _ _ _ _ _ _ (World.drew _)
  refine wpAny_of_held (S := fun w' => w'.rangeAt g1 0 L1 ∧ w'.rangeAt g4 0 L4) _ _ _ _ ?_
  have k21 : Hid (Below X8.heap.size X8 X8.drew) := below_draws X8 1
  refine wpAnyH_take_at (i := 0) (v := .agg L1.toArray) rfl rfl (by kernel_rfl) (by kernel_rfl) (by kernel_rfl) (fun _ _ _ h => h) (yieldsIf_load_mid (by rfl) 27 (.tmp 5) rfl g1 0 rfl L1 _ (fun w h => h.1) Try.underlying27 rfl (by rw [F.len h1.out]; kernel_rfl)) ⟨((b9.out.below k21.out b9.out.lt).range 0 _ [] (by simp)), ((b10.out.below k21.out b10.out.lt).range 0 _ [] (by simp))⟩ ?_
  simp only [List.setIfInBounds_toArray, List.set_cons_zero, List.set_cons_succ]
  refine wpAnyH_take_at (i := 1) (v := .agg L4.toArray) rfl rfl (by kernel_rfl) (by kernel_rfl) (by kernel_rfl) (fun _ _ _ h => h) (yieldsIf_load_mid (by rfl) 27 (.tmp 6) rfl g4 0 rfl L4 _ (fun w h => h.2) Try.underlying27 rfl (by rw [F.len h4.out]; kernel_rfl)) ⟨((b9.out.below k21.out b9.out.lt).range 0 _ [] (by simp)), ((b10.out.below k21.out b10.out.lt).range 0 _ [] (by simp))⟩ ?_
  simp only [List.setIfInBounds_toArray, List.set_cons_zero, List.set_cons_succ]
  refine wpAnyH_take_at (i := 3) (v := .agg L1.toArray) rfl rfl (by kernel_rfl) (by kernel_rfl) (by kernel_rfl) (fun _ _ _ h => h) (yieldsIf_load_mid (by rfl) 27 (.tmp 5) rfl g1 0 rfl L1 _ (fun w h => h.1) Try.underlying27 rfl (by rw [F.len h1.out]; kernel_rfl)) ⟨((b9.out.below k21.out b9.out.lt).range 0 _ [] (by simp)), ((b10.out.below k21.out b10.out.lt).range 0 _ [] (by simp))⟩ ?_
  simp only [List.setIfInBounds_toArray, List.set_cons_zero, List.set_cons_succ]
  refine wpAnyH_take_at (i := 4) (v := .agg L4.toArray) rfl rfl (by kernel_rfl) (by kernel_rfl) (by kernel_rfl) (fun _ _ _ h => h) (yieldsIf_load_mid (by rfl) 27 (.tmp 6) rfl g4 0 rfl L4 _ (fun w h => h.2) Try.underlying27 rfl (by rw [F.len h4.out]; kernel_rfl)) ⟨((b9.out.below k21.out b9.out.lt).range 0 _ [] (by simp)), ((b10.out.below k21.out b10.out.lt).range 0 _ [] (by simp))⟩ ?_
  simp only [List.setIfInBounds_toArray, List.set_cons_zero, List.set_cons_succ]
  refine wpAnyH_ready (rs := [2]) (by kernel_rfl) (by simp) ?_
  refine AllReadyH.cons rfl (fun KC hK => ?_) AllReadyH.nil
  go_simp
  refine (F.add_at _ h1 h4 hr13).mono ?_
  rintro e v22 ⟨L22, rfl, l22, zc22⟩
  have hl22 := Lib.hid l22
  have k22 : Hid (Below X8.heap.size X8 v22) := k21.out.trans (zc22.mono k21.out.size)
  refine hK.out _ _ ⟨((b9.out.below k22.out b9.out.lt).range 0 _ [] (by simp)), ((b10.out.below k22.out b10.out.lt).range 0 _ [] (by simp))⟩ (fun _ => ?_)
  clear hK KC l22 zc22 k21
  refine wpAnyH_ready (rs := [5]) (by kernel_rfl) (by simp) ?_
  refine AllReadyH.cons rfl (fun KC hK => ?_) AllReadyH.nil
  go_simp
  refine (F.sub_at _ h1 h4 hr14).mono ?_
  rintro e v23 ⟨L23, rfl, l23, zc23⟩
  have hl23 := Lib.hid l23
  have k23 : Hid (Below X8.heap.size X8 v23) := k22.out.trans (zc23.mono k22.out.size)
  refine hK.out _ _ ⟨((b9.out.below k23.out b9.out.lt).range 0 _ [] (by simp)), ((b10.out.below k23.out b10.out.lt).range 0 _ [] (by simp))⟩ (fun _ => ?_)
  clear hK KC l23 zc23 k22
  refine wpAnyH_ready (rs := [6]) (by kernel_rfl) (by simp) ?_
  refine AllReadyH.cons rfl (fun KC hK => ?_) AllReadyH.nil
  go_simp
  refine (F.mul_at _ hl22 hl23 hr15).mono ?_
  rintro e v24 ⟨L24, rfl, l24, zc24⟩
  have hl24 := Lib.hid l24
  have k24 : Hid (Below X8.heap.size X8 v24) := k23.out.trans (zc24.mono k23.out.size)
  refine hK.out _ _ ⟨((b9.out.below k24.out b9.out.lt).range 0 _ [] (by simp)), ((b10.out.below k24.out b10.out.lt).range 0 _ [] (by simp))⟩ (fun _ => ?_)
  clear hK KC l24 zc24 k23
  obtain ⟨y25, hy25⟩ : ∃ y, Hid (M.le r15 32 = y) := ⟨M.le r15 32, rfl⟩
  refine wpAnyH_ready (rs := [7]) (by kernel_rfl) (by simp) ?_
  refine AllReadyH.cons rfl (fun KC hK => ?_) AllReadyH.nil
  go_simp
  refine (F.bytes_at _ hl24 hy25).mono ?_
  rintro e v26 ⟨s26, rfl, o26, zc26⟩
  have hi26 := Lib.hid o26.isB
  have k26 : Hid (Below X8.heap.size X8 v26) := k24.out.trans (zc26.mono k24.out.size)
  refine hK.out _ _ ⟨((b9.out.below k26.out b9.out.lt).range 0 _ [] (by simp)), ((b10.out.below k26.out b10.out.lt).range 0 _ [] (by simp))⟩ (fun _ => ?_)
  clear hK KC o26 zc26 k24
  refine wpAnyH_take_at (i := 8) (v := s26) rfl rfl (by kernel_rfl) (by kernel_rfl) (by kernel_rfl) (fun _ _ _ h => h) (Or.inl ⟨by rfl, fun w hS => by go_simp⟩) ⟨((b9.out.below k26.out b9.out.lt).range 0 _ [] (by simp)), ((b10.out.below k26.out b10.out.lt).range 0 _ [] (by simp))⟩ ?_
  simp only [List.setIfInBounds_toArray, List.set_cons_zero, List.set_cons_succ]
  refine wpAnyH_done (by kernel_rfl) ?_ _
  have KK27 : Hid (Below w.heap.size w v26) := KK8.out.trans (k26.out.mono KK8.out.size)
  have b28 : Hid (Blk v26 g1 27 L1) := b9.out.below k26.out b9.out.lt
  have b29 : Hid (Blk v26 g4 27 L4) := b10.out.below k26.out b10.out.lt
  have b30 : Hid (Blk v26 g8 27 L8) := Q8.out.below k26.out Q8.out.lt
  go_upto_region 7 with fail
  refine wp_region_any (by kernel_rfl) ?_
  change wpAny _ _ _ _ _ _ _ (World.drew _)
  refine wpAny_of_held (S := fun w' => w'.rangeAt g1 0 L1 ∧ w'.rangeAt g4 0 L4) _ _ _ _ ?_
  have k31 : Hid (Below v26.heap.size v26 v26.drew) := below_draws v26 1
  have hq32 : Hid (IsB v26.drew s26 y25) := hi26.out.below k31.out
  clear hi26
  refine wpAnyH_take_at (i := 0) (v := .agg L1.toArray) rfl rfl (by kernel_rfl) (by kernel_rfl) (by kernel_rfl) (fun _ _ _ h => h) (yieldsIf_load_mid (by rfl) 27 (.tmp 5) rfl g1 0 rfl L1 _ (fun w h => h.1) Try.underlying27 rfl (by rw [F.len h1.out]; kernel_rfl)) ⟨((b28.out.below k31.out b28.out.lt).range 0 _ [] (by simp)), ((b29.out.below k31.out b29.out.lt).range 0 _ [] (by simp))⟩ ?_
  simp only [List.setIfInBounds_toArray, List.set_cons_zero, List.set_cons_succ]
  refine wpAnyH_take_at (i := 2) (v := .agg L4.toArray) rfl rfl (by kernel_rfl) (by kernel_rfl) (by kernel_rfl) (fun _ _ _ h => h) (yieldsIf_load_mid (by rfl) 27 (.tmp 6) rfl g4 0 rfl L4 _ (fun w h => h.2) Try.underlying27 rfl (by rw [F.len h4.out]; kernel_rfl)) ⟨((b28.out.below k31.out b28.out.lt).range 0 _ [] (by simp)), ((b29.out.below k31.out b29.out.lt).range 0 _ [] (by simp))⟩ ?_
  simp only [List.setIfInBounds_toArray, List.set_cons_zero, List.set_cons_succ]
  refine wpAnyH_ready (rs := [1]) (by kernel_rfl) (by simp) ?_
  refine AllReadyH.cons rfl (fun KC hK => ?_) AllReadyH.nil
  go_simp
  refine (F.square_at _ h1 hr16).mono ?_
  rintro e v33 ⟨L33, rfl, l33, zc33⟩
  have hl33 := Lib.hid l33
  have k33 : Hid (Below v26.heap.size v26 v33) := k31.out.trans (zc33.mono k31.out.size)
  have hq34 : Hid (IsB v33 s26 y25) := hq32.out.below zc33
  clear hq32
  refine hK.out _ _ ⟨((b28.out.below k33.out b28.out.lt).range 0 _ [] (by simp)), ((b29.out.below k33.out b29.out.lt).range 0 _ [] (by simp))⟩ (fun _ => ?_)
  clear hK KC l33 zc33 k31
  refine wpAnyH_ready (rs := [3]) (by kernel_rfl) (by simp) ?_
  refine AllReadyH.cons rfl (fun KC hK => ?_) AllReadyH.nil
  go_simp
  refine (F.square_at _ h4 hr17).mono ?_
  rintro e v35 ⟨L35, rfl, l35, zc35⟩
  have hl35 := Lib.hid l35
  have k35 : Hid (Below v26.heap.size v26 v35) := k33.out.trans (zc35.mono k33.out.size)
  have hq36 : Hid (IsB v35 s26 y25) := hq34.out.below zc35
  clear hq34
  refine hK.out _ _ ⟨((b28.out.below k35.out b28.out.lt).range 0 _ [] (by simp)), ((b29.out.below k35.out b29.out.lt).range 0 _ [] (by simp))⟩ (fun _ => ?_)
  clear hK KC l35 zc35 k33
  have hr37 : Hid ((r16 + (M.Q - r17)) % M.Q = r15) := by rw [Hid, ← hr15.out, ← hr13.out, ← hr14.out, ← hr16.out, ← hr17.out]; exact M.squares ltb.out
  refine wpAnyH_ready (rs := [4]) (by kernel_rfl) (by simp) ?_
  refine AllReadyH.cons rfl (fun KC hK => ?_) AllReadyH.nil
  go_simp
  refine (F.sub_at _ hl33 hl35 hr37).mono ?_
  rintro e v38 ⟨L38, rfl, l38, zc38⟩
  have hl38 := Lib.hid l38
  have k38 : Hid (Below v26.heap.size v26 v38) := k35.out.trans (zc38.mono k35.out.size)
  have hq39 : Hid (IsB v38 s26 y25) := hq36.out.below zc38
  clear hq36
  refine hK.out _ _ ⟨((b28.out.below k38.out b28.out.lt).range 0 _ [] (by simp)), ((b29.out.below k38.out b29.out.lt).range 0 _ [] (by simp))⟩ (fun _ => ?_)
  clear hK KC l38 zc38 k35
  refine wpAnyH_ready (rs := [5]) (by kernel_rfl) (by simp) ?_
  refine AllReadyH.cons rfl (fun KC hK => ?_) AllReadyH.nil
  go_simp
  refine (F.bytes_at _ hl38 hy25).mono ?_
  rintro e v40 ⟨s40, rfl, o40, zc40⟩
  have hi40 := Lib.hid o40.isB
  have k40 : Hid (Below v26.heap.size v26 v40) := k38.out.trans (zc40.mono k38.out.size)
  have hq41 : Hid (IsB v40 s26 y25) := hq39.out.below zc40
  clear hq39
  refine hK.out _ _ ⟨((b28.out.below k40.out b28.out.lt).range 0 _ [] (by simp)), ((b29.out.below k40.out b29.out.lt).range 0 _ [] (by simp))⟩ (fun _ => ?_)
  clear hK KC o40 zc40 k38
  refine wpAnyH_take_at (i := 6) (v := s40) rfl rfl (by kernel_rfl) (by kernel_rfl) (by kernel_rfl) (fun _ _ _ h => h) (Or.inl ⟨by rfl, fun w hS => by go_simp⟩) ⟨((b28.out.below k40.out b28.out.lt).range 0 _ [] (by simp)), ((b29.out.below k40.out b29.out.lt).range 0 _ [] (by simp))⟩ ?_
  simp only [List.setIfInBounds_toArray, List.set_cons_zero, List.set_cons_succ]
  refine wpAnyH_done (by kernel_rfl) ?_ _
  have KK42 : Hid (Below w.heap.size w v40) := KK27.out.trans (k40.out.mono KK27.out.size)
  have b43 : Hid (Blk v40 g1 27 L1) := b28.out.below k40.out b28.out.lt
  have b44 : Hid (Blk v40 g4 27 L4) := b29.out.below k40.out b29.out.lt
  have b45 : Hid (Blk v40 g8 27 L8) := b30.out.below k40.out b30.out.lt
  go_upto_region 8 with fail
  refine wp_region_any (by kernel_rfl) ?_
  change wpAny _ _ _ _ _ _ _ (World.drew _)
  refine wpAny_of_held (S := fun w' => w'.rangeAt g1 0 L1 ∧ w'.rangeAt g8 0 L8) _ _ _ _ ?_
  have k46 : Hid (Below v40.heap.size v40 v40.drew) := below_draws v40 1
  have hq47 : Hid (IsB v40.drew s26 y25) := hq41.out.below k46.out
  clear hq41
  have hq48 : Hid (IsB v40.drew s40 y25) := hi40.out.below k46.out
  clear hi40
  refine wpAnyH_take_at (i := 0) (v := s26) rfl rfl (by kernel_rfl) (by kernel_rfl) (by kernel_rfl) (fun _ _ _ h => h) (Or.inl ⟨by rfl, fun w hS => by go_simp⟩) ⟨((b43.out.below k46.out b43.out.lt).range 0 _ [] (by simp)), ((b45.out.below k46.out b45.out.lt).range 0 _ [] (by simp))⟩ ?_
  simp only [List.setIfInBounds_toArray, List.set_cons_zero, List.set_cons_succ]
  refine wpAnyH_take_at (i := 1) (v := s40) rfl rfl (by kernel_rfl) (by kernel_rfl) (by kernel_rfl) (fun _ _ _ h => h) (Or.inl ⟨by rfl, fun w hS => by go_simp⟩) ⟨((b43.out.below k46.out b43.out.lt).range 0 _ [] (by simp)), ((b45.out.below k46.out b45.out.lt).range 0 _ [] (by simp))⟩ ?_
  simp only [List.setIfInBounds_toArray, List.set_cons_zero, List.set_cons_succ]
  refine wpAnyH_ready (rs := [2]) (by kernel_rfl) (by simp) ?_
  refine AllReadyH.cons rfl (fun KC hK => ?_) AllReadyH.nil
  go_simp
  refine (equal_at _ hq47.out hq48.out).mono ?_
  rintro e v49 ⟨rfl, zc49⟩
  have k49 : Hid (Below v40.heap.size v40 v49) := k46.out.trans (zc49.mono k46.out.size)
  refine hK.out _ _ ⟨((b43.out.below k49.out b43.out.lt).range 0 _ [] (by simp)), ((b45.out.below k49.out b45.out.lt).range 0 _ [] (by simp))⟩ (fun _ => ?_)
  clear hK KC zc49 k46
  refine wpAnyH_take_at (i := 3) (v := .bool true) rfl rfl (by kernel_rfl) (by kernel_rfl) (by kernel_rfl) (fun _ _ _ h => h) (Or.inl ⟨by rfl, fun w hS => by go_simp⟩) ⟨((b43.out.below k49.out b43.out.lt).range 0 _ [] (by simp)), ((b45.out.below k49.out b45.out.lt).range 0 _ [] (by simp))⟩ ?_
  simp only [List.setIfInBounds_toArray, List.set_cons_zero, List.set_cons_succ]
  refine wpAnyH_take_at (i := 4) (v := .agg L1.toArray) rfl rfl (by kernel_rfl) (by kernel_rfl) (by kernel_rfl) (fun _ _ _ h => h) (yieldsIf_load_mid (by rfl) 27 (.tmp 5) rfl g1 0 rfl L1 _ (fun w h => h.1) Try.underlying27 rfl (by rw [F.len h1.out]; kernel_rfl)) ⟨((b43.out.below k49.out b43.out.lt).range 0 _ [] (by simp)), ((b45.out.below k49.out b45.out.lt).range 0 _ [] (by simp))⟩ ?_
  simp only [List.setIfInBounds_toArray, List.set_cons_zero, List.set_cons_succ]
  refine wpAnyH_take_at (i := 7) (v := .agg L1.toArray) rfl rfl (by kernel_rfl) (by kernel_rfl) (by kernel_rfl) (fun _ _ _ h => h) (yieldsIf_load_mid (by rfl) 27 (.tmp 5) rfl g1 0 rfl L1 _ (fun w h => h.1) Try.underlying27 rfl (by rw [F.len h1.out]; kernel_rfl)) ⟨((b43.out.below k49.out b43.out.lt).range 0 _ [] (by simp)), ((b45.out.below k49.out b45.out.lt).range 0 _ [] (by simp))⟩ ?_
  simp only [List.setIfInBounds_toArray, List.set_cons_zero, List.set_cons_succ]
  refine wpAnyH_take_at (i := 8) (v := .agg L1.toArray) rfl rfl (by kernel_rfl) (by kernel_rfl) (by kernel_rfl) (fun _ _ _ h => h) (yieldsIf_load_mid (by rfl) 27 (.tmp 5) rfl g1 0 rfl L1 _ (fun w h => h.1) Try.underlying27 rfl (by rw [F.len h1.out]; kernel_rfl)) ⟨((b43.out.below k49.out b43.out.lt).range 0 _ [] (by simp)), ((b45.out.below k49.out b45.out.lt).range 0 _ [] (by simp))⟩ ?_
  simp only [List.setIfInBounds_toArray, List.set_cons_zero, List.set_cons_succ]
  refine wpAnyH_take_at (i := 10) (v := .agg L1.toArray) rfl rfl (by kernel_rfl) (by kernel_rfl) (by kernel_rfl) (fun _ _ _ h => h) (yieldsIf_load_mid (by rfl) 27 (.tmp 5) rfl g1 0 rfl L1 _ (fun w h => h.1) Try.underlying27 rfl (by rw [F.len h1.out]; kernel_rfl)) ⟨((b43.out.below k49.out b43.out.lt).range 0 _ [] (by simp)), ((b45.out.below k49.out b45.out.lt).range 0 _ [] (by simp))⟩ ?_
  simp only [List.setIfInBounds_toArray, List.set_cons_zero, List.set_cons_succ]
  have hn50 : Hid (((3 : Nat)) < 4294967296) := by rw [Hid]; decide
  refine wpAnyH_ready (rs := [5]) (by kernel_rfl) (by simp) ?_
  refine AllReadyH.cons rfl (fun KC hK => ?_) AllReadyH.nil
  go_simp
  refine (F.times_at _ h1 hn50 hr18).mono ?_
  rintro e v51 ⟨L51, rfl, l51, zc51⟩
  have hl51 := Lib.hid l51
  have k51 : Hid (Below v40.heap.size v40 v51) := k49.out.trans (zc51.mono k49.out.size)
  refine hK.out _ _ ⟨((b43.out.below k51.out b43.out.lt).range 0 _ [] (by simp)), ((b45.out.below k51.out b45.out.lt).range 0 _ [] (by simp))⟩ (fun _ => ?_)
  clear hK KC l51 zc51 k49
  obtain ⟨y52, hy52⟩ : ∃ y, Hid (M.le r18 32 = y) := ⟨M.le r18 32, rfl⟩
  refine wpAnyH_ready (rs := [6]) (by kernel_rfl) (by simp) ?_
  refine AllReadyH.cons rfl (fun KC hK => ?_) AllReadyH.nil
  go_simp
  refine (F.bytes_at _ hl51 hy52).mono ?_
  rintro e v53 ⟨s53, rfl, o53, zc53⟩
  have hi53 := Lib.hid o53.isB
  have k53 : Hid (Below v40.heap.size v40 v53) := k51.out.trans (zc53.mono k51.out.size)
  refine hK.out _ _ ⟨((b43.out.below k53.out b43.out.lt).range 0 _ [] (by simp)), ((b45.out.below k53.out b45.out.lt).range 0 _ [] (by simp))⟩ (fun _ => ?_)
  clear hK KC o53 zc53 k51
  refine wpAnyH_ready (rs := [9]) (by kernel_rfl) (by simp) ?_
  refine AllReadyH.cons rfl (fun KC hK => ?_) AllReadyH.nil
  go_simp
  refine (F.add_at _ h1 h1 hr19).mono ?_
  rintro e v54 ⟨L54, rfl, l54, zc54⟩
  have hl54 := Lib.hid l54
  have k54 : Hid (Below v40.heap.size v40 v54) := k53.out.trans (zc54.mono k53.out.size)
  have hq55 : Hid (IsB v54 s53 y52) := hi53.out.below zc54
  clear hi53
  refine hK.out _ _ ⟨((b43.out.below k54.out b43.out.lt).range 0 _ [] (by simp)), ((b45.out.below k54.out b45.out.lt).range 0 _ [] (by simp))⟩ (fun _ => ?_)
  clear hK KC l54 zc54 k53
  have hr56 : Hid ((r19 + a) % M.Q = r18) := by rw [Hid, ← hr18.out, ← hr19.out]; exact M.thrice a
  refine wpAnyH_ready (rs := [11]) (by kernel_rfl) (by simp) ?_
  refine AllReadyH.cons rfl (fun KC hK => ?_) AllReadyH.nil
  go_simp
  refine (F.add_at _ hl54 h1 hr56).mono ?_
  rintro e v57 ⟨L57, rfl, l57, zc57⟩
  have hl57 := Lib.hid l57
  have k57 : Hid (Below v40.heap.size v40 v57) := k54.out.trans (zc57.mono k54.out.size)
  have hq58 : Hid (IsB v57 s53 y52) := hq55.out.below zc57
  clear hq55
  refine hK.out _ _ ⟨((b43.out.below k57.out b43.out.lt).range 0 _ [] (by simp)), ((b45.out.below k57.out b45.out.lt).range 0 _ [] (by simp))⟩ (fun _ => ?_)
  clear hK KC l57 zc57 k54
  refine wpAnyH_ready (rs := [12]) (by kernel_rfl) (by simp) ?_
  refine AllReadyH.cons rfl (fun KC hK => ?_) AllReadyH.nil
  go_simp
  refine (F.bytes_at _ hl57 hy52).mono ?_
  rintro e v59 ⟨s59, rfl, o59, zc59⟩
  have hi59 := Lib.hid o59.isB
  have k59 : Hid (Below v40.heap.size v40 v59) := k57.out.trans (zc59.mono k57.out.size)
  have hq60 : Hid (IsB v59 s53 y52) := hq58.out.below zc59
  clear hq58
  refine hK.out _ _ ⟨((b43.out.below k59.out b43.out.lt).range 0 _ [] (by simp)), ((b45.out.below k59.out b45.out.lt).range 0 _ [] (by simp))⟩ (fun _ => ?_)
  clear hK KC o59 zc59 k57
  refine wpAnyH_ready (rs := [13]) (by kernel_rfl) (by simp) ?_
  refine AllReadyH.cons rfl (fun KC hK => ?_) AllReadyH.nil
  go_simp
  refine (equal_at _ hq60.out hi59.out).mono ?_
  rintro e v61 ⟨rfl, zc61⟩
  have k61 : Hid (Below v40.heap.size v40 v61) := k59.out.trans (zc61.mono k59.out.size)
  refine hK.out _ _ ⟨((b43.out.below k61.out b43.out.lt).range 0 _ [] (by simp)), ((b45.out.below k61.out b45.out.lt).range 0 _ [] (by simp))⟩ (fun _ => ?_)
  clear hK KC zc61 k59
  refine wpAnyH_take_at (i := 14) (v := .bool true) rfl rfl (by kernel_rfl) (by kernel_rfl) (by kernel_rfl) (fun _ _ _ h => h) (Or.inl ⟨by rfl, fun w hS => by go_simp⟩) ⟨((b43.out.below k61.out b43.out.lt).range 0 _ [] (by simp)), ((b45.out.below k61.out b45.out.lt).range 0 _ [] (by simp))⟩ ?_
  simp only [List.setIfInBounds_toArray, List.set_cons_zero, List.set_cons_succ]
  refine wpAnyH_take_at (i := 15) (v := .bool true) rfl rfl (by kernel_rfl) (by kernel_rfl) (by kernel_rfl) (fun _ _ _ h => h) (Or.inl ⟨by rfl, fun w hS => by go_simp⟩) ⟨((b43.out.below k61.out b43.out.lt).range 0 _ [] (by simp)), ((b45.out.below k61.out b45.out.lt).range 0 _ [] (by simp))⟩ ?_
  simp only [List.setIfInBounds_toArray, List.set_cons_zero, List.set_cons_succ]
  refine wpAnyH_take_at (i := 16) (v := .agg L8.toArray) rfl rfl (by kernel_rfl) (by kernel_rfl) (by kernel_rfl) (fun _ _ _ h => h) (yieldsIf_load_mid (by rfl) 27 (.tmp 7) rfl g8 0 rfl L8 _ (fun w h => h.2) Try.underlying27 rfl (by rw [F.len h8.out]; kernel_rfl)) ⟨((b43.out.below k61.out b43.out.lt).range 0 _ [] (by simp)), ((b45.out.below k61.out b45.out.lt).range 0 _ [] (by simp))⟩ ?_
  simp only [List.setIfInBounds_toArray, List.set_cons_zero, List.set_cons_succ]
  refine wpAnyH_take_at (i := 17) (v := .agg L8.toArray) rfl rfl (by kernel_rfl) (by kernel_rfl) (by kernel_rfl) (fun _ _ _ h => h) (yieldsIf_load_mid (by rfl) 27 (.tmp 7) rfl g8 0 rfl L8 _ (fun w h => h.2) Try.underlying27 rfl (by rw [F.len h8.out]; kernel_rfl)) ⟨((b43.out.below k61.out b43.out.lt).range 0 _ [] (by simp)), ((b45.out.below k61.out b45.out.lt).range 0 _ [] (by simp))⟩ ?_
  simp only [List.setIfInBounds_toArray, List.set_cons_zero, List.set_cons_succ]
  refine wpAnyH_take_at (i := 18) (v := .agg L1.toArray) rfl rfl (by kernel_rfl) (by kernel_rfl) (by kernel_rfl) (fun _ _ _ h => h) (yieldsIf_load_mid (by rfl) 27 (.tmp 5) rfl g1 0 rfl L1 _ (fun w h => h.1) Try.underlying27 rfl (by rw [F.len h1.out]; kernel_rfl)) ⟨((b43.out.below k61.out b43.out.lt).range 0 _ [] (by simp)), ((b45.out.below k61.out b45.out.lt).range 0 _ [] (by simp))⟩ ?_
  simp only [List.setIfInBounds_toArray, List.set_cons_zero, List.set_cons_succ]
  refine wpAnyH_take_at (i := 22) (v := .agg L1.toArray) rfl rfl (by kernel_rfl) (by kernel_rfl) (by kernel_rfl) (fun _ _ _ h => h) (yieldsIf_load_mid (by rfl) 27 (.tmp 5) rfl g1 0 rfl L1 _ (fun w h => h.1) Try.underlying27 rfl (by rw [F.len h1.out]; kernel_rfl)) ⟨((b43.out.below k61.out b43.out.lt).range 0 _ [] (by simp)), ((b45.out.below k61.out b45.out.lt).range 0 _ [] (by simp))⟩ ?_
  simp only [List.setIfInBounds_toArray, List.set_cons_zero, List.set_cons_succ]
  refine wpAnyH_ready (rs := [19]) (by kernel_rfl) (by simp) ?_
  refine AllReadyH.cons rfl (fun KC hK => ?_) AllReadyH.nil
  go_simp
  refine (F.sub_at _ h8 h1 hr20).mono ?_
  rintro e v62 ⟨L62, rfl, l62, zc62⟩
  have hl62 := Lib.hid l62
  have k62 : Hid (Below v40.heap.size v40 v62) := k61.out.trans (zc62.mono k61.out.size)
  refine hK.out _ _ ⟨((b43.out.below k62.out b43.out.lt).range 0 _ [] (by simp)), ((b45.out.below k62.out b45.out.lt).range 0 _ [] (by simp))⟩ (fun _ => ?_)
  clear hK KC l62 zc62 k61
  have hr63 : Hid ((0 + (M.Q - r20)) % M.Q = a) := by rw [Hid, ← hr20.out]; exact M.neg_neg lta.out
  refine wpAnyH_ready (rs := [20]) (by kernel_rfl) (by simp) ?_
  refine AllReadyH.cons rfl (fun KC hK => ?_) AllReadyH.nil
  go_simp
  refine (F.sub_at _ h8 hl62 hr63).mono ?_
  rintro e v64 ⟨L64, rfl, l64, zc64⟩
  have hl64 := Lib.hid l64
  have k64 : Hid (Below v40.heap.size v40 v64) := k62.out.trans (zc64.mono k62.out.size)
  refine hK.out _ _ ⟨((b43.out.below k64.out b43.out.lt).range 0 _ [] (by simp)), ((b45.out.below k64.out b45.out.lt).range 0 _ [] (by simp))⟩ (fun _ => ?_)
  clear hK KC l64 zc64 k62
  obtain ⟨y65, hy65⟩ : ∃ y, Hid (M.le a 32 = y) := ⟨M.le a 32, rfl⟩
  refine wpAnyH_ready (rs := [21]) (by kernel_rfl) (by simp) ?_
  refine AllReadyH.cons rfl (fun KC hK => ?_) AllReadyH.nil
  go_simp
  refine (F.bytes_at _ hl64 hy65).mono ?_
  rintro e v66 ⟨s66, rfl, o66, zc66⟩
  have hi66 := Lib.hid o66.isB
  have k66 : Hid (Below v40.heap.size v40 v66) := k64.out.trans (zc66.mono k64.out.size)
  refine hK.out _ _ ⟨((b43.out.below k66.out b43.out.lt).range 0 _ [] (by simp)), ((b45.out.below k66.out b45.out.lt).range 0 _ [] (by simp))⟩ (fun _ => ?_)
  clear hK KC o66 zc66 k64
  refine wpAnyH_ready (rs := [23]) (by kernel_rfl) (by simp) ?_
  refine AllReadyH.cons rfl (fun KC hK => ?_) AllReadyH.nil
  go_simp
  refine (F.bytes_at _ h1 hy65).mono ?_
  rintro e v67 ⟨s67, rfl, o67, zc67⟩
  have hi67 := Lib.hid o67.isB
  have k67 : Hid (Below v40.heap.size v40 v67) := k66.out.trans (zc67.mono k66.out.size)
  have hq68 : Hid (IsB v67 s66 y65) := hi66.out.below zc67
  clear hi66
  refine hK.out _ _ ⟨((b43.out.below k67.out b43.out.lt).range 0 _ [] (by simp)), ((b45.out.below k67.out b45.out.lt).range 0 _ [] (by simp))⟩ (fun _ => ?_)
  clear hK KC o67 zc67 k66
  refine wpAnyH_ready (rs := [24]) (by kernel_rfl) (by simp) ?_
  refine AllReadyH.cons rfl (fun KC hK => ?_) AllReadyH.nil
  go_simp
  refine (equal_at _ hq68.out hi67.out).mono ?_
  rintro e v69 ⟨rfl, zc69⟩
  have k69 : Hid (Below v40.heap.size v40 v69) := k67.out.trans (zc69.mono k67.out.size)
  refine hK.out _ _ ⟨((b43.out.below k69.out b43.out.lt).range 0 _ [] (by simp)), ((b45.out.below k69.out b45.out.lt).range 0 _ [] (by simp))⟩ (fun _ => ?_)
  clear hK KC zc69 k67
  refine wpAnyH_take_at (i := 25) (v := .bool true) rfl rfl (by kernel_rfl) (by kernel_rfl) (by kernel_rfl) (fun _ _ _ h => h) (Or.inl ⟨by rfl, fun w hS => by go_simp⟩) ⟨((b43.out.below k69.out b43.out.lt).range 0 _ [] (by simp)), ((b45.out.below k69.out b45.out.lt).range 0 _ [] (by simp))⟩ ?_
  simp only [List.setIfInBounds_toArray, List.set_cons_zero, List.set_cons_succ]
  refine wpAnyH_take_at (i := 26) (v := .bool true) rfl rfl (by kernel_rfl) (by kernel_rfl) (by kernel_rfl) (fun _ _ _ h => h) (Or.inl ⟨by rfl, fun w hS => by go_simp⟩) ⟨((b43.out.below k69.out b43.out.lt).range 0 _ [] (by simp)), ((b45.out.below k69.out b45.out.lt).range 0 _ [] (by simp))⟩ ?_
  simp only [List.setIfInBounds_toArray, List.set_cons_zero, List.set_cons_succ]
  refine wpAnyH_take_at (i := 27) (v := .agg L1.toArray) rfl rfl (by kernel_rfl) (by kernel_rfl) (by kernel_rfl) (fun _ _ _ h => h) (yieldsIf_load_mid (by rfl) 27 (.tmp 5) rfl g1 0 rfl L1 _ (fun w h => h.1) Try.underlying27 rfl (by rw [F.len h1.out]; kernel_rfl)) ⟨((b43.out.below k69.out b43.out.lt).range 0 _ [] (by simp)), ((b45.out.below k69.out b45.out.lt).range 0 _ [] (by simp))⟩ ?_
  simp only [List.setIfInBounds_toArray, List.set_cons_zero, List.set_cons_succ]
  refine wpAnyH_take_at (i := 28) (v := .agg L1.toArray) rfl rfl (by kernel_rfl) (by kernel_rfl) (by kernel_rfl) (fun _ _ _ h => h) (yieldsIf_load_mid (by rfl) 27 (.tmp 5) rfl g1 0 rfl L1 _ (fun w h => h.1) Try.underlying27 rfl (by rw [F.len h1.out]; kernel_rfl)) ⟨((b43.out.below k69.out b43.out.lt).range 0 _ [] (by simp)), ((b45.out.below k69.out b45.out.lt).range 0 _ [] (by simp))⟩ ?_
  simp only [List.setIfInBounds_toArray, List.set_cons_zero, List.set_cons_succ]
  refine wpAnyH_ready (rs := [29, 31]) (by kernel_rfl) (by simp) ?_
  refine AllReadyH.cons rfl (fun KC hK => ?_) (AllReadyH.cons rfl (fun KC hK => ?_) AllReadyH.nil)
  · skip
    have hr70 : Hid ((a + (M.Q - a)) % M.Q = 0) := by exact M.sub_self lta.out
    go_simp
    refine (F.sub_at _ h1 h1 hr70).mono ?_
    rintro e v71 ⟨L71, rfl, l71, zc71⟩
    have hl71 := Lib.hid l71
    have k71 : Hid (Below v40.heap.size v40 v71) := k69.out.trans (zc71.mono k69.out.size)
    refine hK.out _ _ ⟨((b43.out.below k71.out b43.out.lt).range 0 _ [] (by simp)), ((b45.out.below k71.out b45.out.lt).range 0 _ [] (by simp))⟩ (fun _ => ?_)
    clear hK KC l71 zc71 k69
    refine wpAnyH_ready (rs := [30, 31]) (by kernel_rfl) (by simp) ?_
    refine AllReadyH.cons rfl (fun KC hK => ?_) (AllReadyH.cons rfl (fun KC hK => ?_) AllReadyH.nil)
    · skip
      go_simp
      refine (F.bytes_at _ hl71 hzb).mono ?_
      rintro e v72 ⟨s72, rfl, o72, zc72⟩
      have hi72 := Lib.hid o72.isB
      have k72 : Hid (Below v40.heap.size v40 v72) := k71.out.trans (zc72.mono k71.out.size)
      refine hK.out _ _ ⟨((b43.out.below k72.out b43.out.lt).range 0 _ [] (by simp)), ((b45.out.below k72.out b45.out.lt).range 0 _ [] (by simp))⟩ (fun _ => ?_)
      clear hK KC o72 zc72 k71
      refine wpAnyH_ready (rs := [31]) (by kernel_rfl) (by simp) ?_
      refine AllReadyH.cons rfl (fun KC hK => ?_) AllReadyH.nil
      go_simp
      have o73 : Own (v72.alloc (.cells ZC 5)) v72.heap.size (.slice (some ⟨v72.heap.size, 0, none⟩) 32 32) (List.replicate 32 0) := HMK.out v72
      have zc73 : Below v72.heap.size v72 (v72.alloc (.cells ZC 5)) := (Below.refl v72.heap.size v72).alloc (Nat.le_refl _) _
      obtain ⟨v73, hv73⟩ : ∃ v, v = (v72.alloc (.cells ZC 5)) := ⟨_, rfl⟩
      rw [← hv73] at o73 zc73 ⊢
      obtain ⟨s73, hs73⟩ : ∃ s, s = Value.slice (some ⟨v72.heap.size, 0, none⟩) 32 32 := ⟨_, rfl⟩
      rw [← hs73] at o73 ⊢
      have hi73 : Hid (IsB v73 s73 zs) := by rw [← hzs.out]; exact o73.isB
      have k73 : Hid (Below v40.heap.size v40 v73) := k72.out.trans (zc73.mono k72.out.size)
      have hq74 : Hid (IsB v73 s72 zs) := hi72.out.below zc73
      clear hi72
      refine hK.out _ _ ⟨((b43.out.below k73.out b43.out.lt).range 0 _ [] (by simp)), ((b45.out.below k73.out b45.out.lt).range 0 _ [] (by simp))⟩ (fun _ => ?_)
      clear hK KC o73 zc73 hv73 hs73 k72
      refine wpAnyH_ready (rs := [32]) (by kernel_rfl) (by simp) ?_
      refine AllReadyH.cons rfl (fun KC hK => ?_) AllReadyH.nil
      go_simp
      refine (equal_at _ hq74.out hi73.out).mono ?_
      rintro e v75 ⟨rfl, zc75⟩
      have k75 : Hid (Below v40.heap.size v40 v75) := k73.out.trans (zc75.mono k73.out.size)
      refine hK.out _ _ ⟨((b43.out.below k75.out b43.out.lt).range 0 _ [] (by simp)), ((b45.out.below k75.out b45.out.lt).range 0 _ [] (by simp))⟩ (fun _ => ?_)
      clear hK KC zc75 k73
      refine wpAnyH_take_at (i := 33) (v := .bool true) rfl rfl (by kernel_rfl) (by kernel_rfl) (by kernel_rfl) (fun _ _ _ h => h) (Or.inl ⟨by rfl, fun w hS => by go_simp⟩) ⟨((b43.out.below k75.out b43.out.lt).range 0 _ [] (by simp)), ((b45.out.below k75.out b45.out.lt).range 0 _ [] (by simp))⟩ ?_
      simp only [List.setIfInBounds_toArray, List.set_cons_zero, List.set_cons_succ]
      refine wpAnyH_take_at (i := 34) (v := .bool true) rfl rfl (by kernel_rfl) (by kernel_rfl) (by kernel_rfl) (fun _ _ _ h => h) (Or.inl ⟨by rfl, fun w hS => by go_simp⟩) ⟨((b43.out.below k75.out b43.out.lt).range 0 _ [] (by simp)), ((b45.out.below k75.out b45.out.lt).range 0 _ [] (by simp))⟩ ?_
      simp only [List.setIfInBounds_toArray, List.set_cons_zero, List.set_cons_succ]
      refine wpAnyH_done (by kernel_rfl) ?_ _
      have KK76 : Hid (Below w.heap.size w v75) := KK42.out.trans (k75.out.mono KK42.out.size)
      have b77 : Hid (Blk v75 g1 27 L1) := b43.out.below k75.out b43.out.lt
      have b78 : Hid (Blk v75 g4 27 L4) := b44.out.below k75.out b44.out.lt
      have b79 : Hid (Blk v75 g8 27 L8) := b45.out.below k75.out b45.out.lt
      go_wp2
      go_ret
      exact ⟨rfl, KK76.out⟩
    · skip
      go_simp
      have o80 : Own (v71.alloc (.cells ZC 5)) v71.heap.size (.slice (some ⟨v71.heap.size, 0, none⟩) 32 32) (List.replicate 32 0) := HMK.out v71
      have zc80 : Below v71.heap.size v71 (v71.alloc (.cells ZC 5)) := (Below.refl v71.heap.size v71).alloc (Nat.le_refl _) _
      obtain ⟨v80, hv80⟩ : ∃ v, v = (v71.alloc (.cells ZC 5)) := ⟨_, rfl⟩
      rw [← hv80] at o80 zc80 ⊢
      obtain ⟨s80, hs80⟩ : ∃ s, s = Value.slice (some ⟨v71.heap.size, 0, none⟩) 32 32 := ⟨_, rfl⟩
      rw [← hs80] at o80 ⊢
      have hi80 : Hid (IsB v80 s80 zs) := by rw [← hzs.out]; exact o80.isB
      have k80 : Hid (Below v40.heap.size v40 v80) := k71.out.trans (zc80.mono k71.out.size)
      refine hK.out _ _ ⟨((b43.out.below k80.out b43.out.lt).range 0 _ [] (by simp)), ((b45.out.below k80.out b45.out.lt).range 0 _ [] (by simp))⟩ (fun _ => ?_)
      clear hK KC o80 zc80 hv80 hs80 k71
      refine wpAnyH_ready (rs := [30]) (by kernel_rfl) (by simp) ?_
      refine AllReadyH.cons rfl (fun KC hK => ?_) AllReadyH.nil
      go_simp
      refine (F.bytes_at _ hl71 hzb).mono ?_
      rintro e v81 ⟨s81, rfl, o81, zc81⟩
      have hi81 := Lib.hid o81.isB
      have k81 : Hid (Below v40.heap.size v40 v81) := k80.out.trans (zc81.mono k80.out.size)
      have hq82 : Hid (IsB v81 s80 zs) := hi80.out.below zc81
      clear hi80
      refine hK.out _ _ ⟨((b43.out.below k81.out b43.out.lt).range 0 _ [] (by simp)), ((b45.out.below k81.out b45.out.lt).range 0 _ [] (by simp))⟩ (fun _ => ?_)
      clear hK KC o81 zc81 k80
      refine wpAnyH_ready (rs := [32]) (by kernel_rfl) (by simp) ?_
      refine AllReadyH.cons rfl (fun KC hK => ?_) AllReadyH.nil
      go_simp
      refine (equal_at _ hi81.out hq82.out).mono ?_
      rintro e v83 ⟨rfl, zc83⟩
      have k83 : Hid (Below v40.heap.size v40 v83) := k81.out.trans (zc83.mono k81.out.size)
      refine hK.out _ _ ⟨((b43.out.below k83.out b43.out.lt).range 0 _ [] (by simp)), ((b45.out.below k83.out b45.out.lt).range 0 _ [] (by simp))⟩ (fun _ => ?_)
      clear hK KC zc83 k81
      refine wpAnyH_take_at (i := 33) (v := .bool true) rfl rfl (by kernel_rfl) (by kernel_rfl) (by kernel_rfl) (fun _ _ _ h => h) (Or.inl ⟨by rfl, fun w hS => by go_simp⟩) ⟨((b43.out.below k83.out b43.out.lt).range 0 _ [] (by simp)), ((b45.out.below k83.out b45.out.lt).range 0 _ [] (by simp))⟩ ?_
      simp only [List.setIfInBounds_toArray, List.set_cons_zero, List.set_cons_succ]
      refine wpAnyH_take_at (i := 34) (v := .bool true) rfl rfl (by kernel_rfl) (by kernel_rfl) (by kernel_rfl) (fun _ _ _ h => h) (Or.inl ⟨by rfl, fun w hS => by go_simp⟩) ⟨((b43.out.below k83.out b43.out.lt).range 0 _ [] (by simp)), ((b45.out.below k83.out b45.out.lt).range 0 _ [] (by simp))⟩ ?_
      simp only [List.setIfInBounds_toArray, List.set_cons_zero, List.set_cons_succ]
      refine wpAnyH_done (by kernel_rfl) ?_ _
      have KK84 : Hid (Below w.heap.size w v83) := KK42.out.trans (k83.out.mono KK42.out.size)
      have b85 : Hid (Blk v83 g1 27 L1) := b43.out.below k83.out b43.out.lt
      have b86 : Hid (Blk v83 g4 27 L4) := b44.out.below k83.out b44.out.lt
      have b87 : Hid (Blk v83 g8 27 L8) := b45.out.below k83.out b45.out.lt
      go_wp2
      go_ret
      exact ⟨rfl, KK84.out⟩
  · skip
    go_simp
    have o88 : Own (v69.alloc (.cells ZC 5)) v69.heap.size (.slice (some ⟨v69.heap.size, 0, none⟩) 32 32) (List.replicate 32 0) := HMK.out v69
    have zc88 : Below v69.heap.size v69 (v69.alloc (.cells ZC 5)) := (Below.refl v69.heap.size v69).alloc (Nat.le_refl _) _
    obtain ⟨v88, hv88⟩ : ∃ v, v = (v69.alloc (.cells ZC 5)) := ⟨_, rfl⟩
    rw [← hv88] at o88 zc88 ⊢
    obtain ⟨s88, hs88⟩ : ∃ s, s = Value.slice (some ⟨v69.heap.size, 0, none⟩) 32 32 := ⟨_, rfl⟩
    rw [← hs88] at o88 ⊢
    have hi88 : Hid (IsB v88 s88 zs) := by rw [← hzs.out]; exact o88.isB
    have k88 : Hid (Below v40.heap.size v40 v88) := k69.out.trans (zc88.mono k69.out.size)
    refine hK.out _ _ ⟨((b43.out.below k88.out b43.out.lt).range 0 _ [] (by simp)), ((b45.out.below k88.out b45.out.lt).range 0 _ [] (by simp))⟩ (fun _ => ?_)
    clear hK KC o88 zc88 hv88 hs88 k69
    have hr89 : Hid ((a + (M.Q - a)) % M.Q = 0) := by exact M.sub_self lta.out
    refine wpAnyH_ready (rs := [29]) (by kernel_rfl) (by simp) ?_
    refine AllReadyH.cons rfl (fun KC hK => ?_) AllReadyH.nil
    go_simp
    refine (F.sub_at _ h1 h1 hr89).mono ?_
    rintro e v90 ⟨L90, rfl, l90, zc90⟩
    have hl90 := Lib.hid l90
    have k90 : Hid (Below v40.heap.size v40 v90) := k88.out.trans (zc90.mono k88.out.size)
    have hq91 : Hid (IsB v90 s88 zs) := hi88.out.below zc90
    clear hi88
    refine hK.out _ _ ⟨((b43.out.below k90.out b43.out.lt).range 0 _ [] (by simp)), ((b45.out.below k90.out b45.out.lt).range 0 _ [] (by simp))⟩ (fun _ => ?_)
    clear hK KC l90 zc90 k88
    refine wpAnyH_ready (rs := [30]) (by kernel_rfl) (by simp) ?_
    refine AllReadyH.cons rfl (fun KC hK => ?_) AllReadyH.nil
    go_simp
    refine (F.bytes_at _ hl90 hzb).mono ?_
    rintro e v92 ⟨s92, rfl, o92, zc92⟩
    have hi92 := Lib.hid o92.isB
    have k92 : Hid (Below v40.heap.size v40 v92) := k90.out.trans (zc92.mono k90.out.size)
    have hq93 : Hid (IsB v92 s88 zs) := hq91.out.below zc92
    clear hq91
    refine hK.out _ _ ⟨((b43.out.below k92.out b43.out.lt).range 0 _ [] (by simp)), ((b45.out.below k92.out b45.out.lt).range 0 _ [] (by simp))⟩ (fun _ => ?_)
    clear hK KC o92 zc92 k90
    refine wpAnyH_ready (rs := [32]) (by kernel_rfl) (by simp) ?_
    refine AllReadyH.cons rfl (fun KC hK => ?_) AllReadyH.nil
    go_simp
    refine (equal_at _ hi92.out hq93.out).mono ?_
    rintro e v94 ⟨rfl, zc94⟩
    have k94 : Hid (Below v40.heap.size v40 v94) := k92.out.trans (zc94.mono k92.out.size)
    refine hK.out _ _ ⟨((b43.out.below k94.out b43.out.lt).range 0 _ [] (by simp)), ((b45.out.below k94.out b45.out.lt).range 0 _ [] (by simp))⟩ (fun _ => ?_)
    clear hK KC zc94 k92
    refine wpAnyH_take_at (i := 33) (v := .bool true) rfl rfl (by kernel_rfl) (by kernel_rfl) (by kernel_rfl) (fun _ _ _ h => h) (Or.inl ⟨by rfl, fun w hS => by go_simp⟩) ⟨((b43.out.below k94.out b43.out.lt).range 0 _ [] (by simp)), ((b45.out.below k94.out b45.out.lt).range 0 _ [] (by simp))⟩ ?_
    simp only [List.setIfInBounds_toArray, List.set_cons_zero, List.set_cons_succ]
    refine wpAnyH_take_at (i := 34) (v := .bool true) rfl rfl (by kernel_rfl) (by kernel_rfl) (by kernel_rfl) (fun _ _ _ h => h) (Or.inl ⟨by rfl, fun w hS => by go_simp⟩) ⟨((b43.out.below k94.out b43.out.lt).range 0 _ [] (by simp)), ((b45.out.below k94.out b45.out.lt).range 0 _ [] (by simp))⟩ ?_
    simp only [List.setIfInBounds_toArray, List.set_cons_zero, List.set_cons_succ]
    refine wpAnyH_done (by kernel_rfl) ?_ _
    have KK95 : Hid (Below w.heap.size w v94) := KK42.out.trans (k94.out.mono KK42.out.size)
    have b96 : Hid (Blk v94 g1 27 L1) := b43.out.below k94.out b43.out.lt
    have b97 : Hid (Blk v94 g4 27 L4) := b44.out.below k94.out b44.out.lt
    have b98 : Hid (Blk v94 g8 27 L8) := b45.out.below k94.out b45.out.lt
    go_wp2
    go_ret
    exact ⟨rfl, KK95.out⟩

end Go.Proofs.Ytmgbcollcfeolaa
