/-
  THE WALK OF orloplaw07.FieldInverts, under FieldOk: it returns true, and writes nothing that was there. Conditions: FieldOk (proved of the code elsewhere). (Written by gen_fwalk.py.)
-/
import Derived.Test.YtmgbcollcfeolaaFieldFace
import Derived.Test.YtmgbcollcfeolaaFieldLaw
import Derived.Test.YtmgbcollcfeolaaFieldEq
namespace Go.Proofs.Ytmgbcollcfeolaa
open Go.RowKit
set_option linter.unusedVariables false

set_option maxRecDepth 100000 in
set_option maxHeartbeats 16000000 in
theorem fieldInverts_walk_of {Fe : List Value → Nat → Prop} (F : FieldOk Fe) (w : World) (xs : List UInt8) (lx : xs.length = 32) : Calls Try.prog 6 #[.agg (Lib.byteCells xs).toArray] w fun e w' => e = .returned (.bool true) ∧ Below w.heap.size w w' := by
  obtain ⟨a, ha⟩ : ∃ r, Hid (M.told xs % M.Q = r) := ⟨M.told xs % M.Q, rfl⟩
  have lta : Hid (a < M.Q) := by rw [← ha.out]; exact Nat.mod_lt _ M.Q_pos
  obtain ⟨g, hg⟩ : ∃ g, g = w.heap.size := ⟨_, rfl⟩
  obtain ⟨W, hW⟩ : ∃ W, Hid (W = (w.alloc (.cells (Lib.byteCells xs).toArray 35))) := ⟨_, rfl⟩
  have B0 : Hid (Blk W (g) 35 (Lib.byteCells xs)) := by rw [hW.out, hg]; exact Blk.newAt _ _ _ _ _ (by simp) rfl
  have K0 : Hid (Below w.heap.size w W) := by rw [hW.out]; exact ((Below.refl _ _).alloc (Nat.le_refl _) _)
  have hsl0 := slice32_all (g)
  go_enter Try.func6, Try.ntmps6
  go_upto_region 1 with fail
  rw [← hW.out, ← hg]
  clear hW hg
  go_wp2_with fail
  refine (fieldAwake_any F W).mono ?_
  rintro e wA ⟨rfl, kA⟩
  have C0 : Hid (Blk wA (g) 35 (Lib.byteCells xs)) := B0.out.below kA B0.out.lt
  have KA : Hid (Below w.heap.size w wA) := K0.out.trans (kA.mono K0.out.size)
  clear kA K0 B0
  go_wp2_with fail
  refine (F.from_at _ (blk_all C0.out lx) ha).mono ?_
  rintro e w1 ⟨L1, rfl, l1, k1⟩
  have h1 := Lib.hid l1
  obtain ⟨g1, hg1⟩ : ∃ v, v = w1.heap.size := ⟨_, rfl⟩
  have N1 : Blk (w1.alloc (.cells z5.toArray 27)) g1 27 z5 := Blk.newAt _ _ _ _ _ hg1 rfl
  go_upto_region 4 with (rw [← z5_arr, ← hg1]; refine wpList_store_el rfl rfl (.tmp 3) (.tmp 10) rfl g1 rfl L1 z5 rfl N1 z5_len (F.len h1.out) (F.one h1.out) ?_; intro X1 hb1 ho1)
  have U1 : Below wA.heap.size wA X1 := (k1.alloc k1.size _).trans (ho1.below (by have := k1.size; simp; omega) (by have := k1.size; omega))
  have KK1 : Hid (Below w.heap.size w X1) := KA.out.trans (U1.mono KA.out.size)
  have b2 : Hid (Blk X1 (g) 35 (Lib.byteCells xs)) := C0.out.below U1 C0.out.lt
  clear C0
  have Q1 : Hid (Blk X1 g1 27 L1) := hb1
  clear l1 k1 hg1 N1 hb1 ho1 U1 KA
  go_wp2_with fail
  refine (rfrom_at _ (blk_all b2.out lx) ha).mono ?_
  rintro e w3 ⟨L3, rfl, l3, k3⟩
  have h3 := Lib.hid l3
  obtain ⟨g3, hg3⟩ : ∃ v, v = w3.heap.size := ⟨_, rfl⟩
  have N3 : Blk (w3.alloc (.cells z32.toArray 31)) g3 31 z32 := Blk.newAt _ _ _ _ _ hg3 rfl
  go_upto_region 5 with (rw [← z32_arr, ← hg3]; refine wpList_store_num rfl rfl (.tmp 4) (.tmp 12) rfl g3 rfl L3 z32 rfl N3 z32_len h3.out.len h3.out.one ?_; intro X3 hb3 ho3)
  have U3 : Below X1.heap.size X1 X3 := (k3.alloc k3.size _).trans (ho3.below (by have := k3.size; simp; omega) (by have := k3.size; omega))
  have KK3 : Hid (Below w.heap.size w X3) := KK1.out.trans (U3.mono KK1.out.size)
  have b4 : Hid (Blk X3 g1 27 L1) := Q1.out.below U3 Q1.out.lt
  clear Q1
  have b5 : Hid (Blk X3 (g) 35 (Lib.byteCells xs)) := b2.out.below U3 b2.out.lt
  clear b2
  have Q3 : Hid (Blk X3 g3 31 L3) := hb3
  clear l3 k3 hg3 N3 hb3 ho3 U3 KK1
  obtain ⟨r6, hr6⟩ : ∃ r, Hid (a ^ (M.Q - 2) % M.Q = r) := ⟨a ^ (M.Q - 2) % M.Q, rfl⟩
  go_wp2_with (refine wpList_load_el rfl (.tmp 3) rfl g1 rfl L1 b4.out (F.len h1.out) ?_)
  refine (F.invert_at _ h1 hr6).mono ?_
  rintro e w7 ⟨L7, rfl, l7, k7⟩
  have h7 := Lib.hid l7
  obtain ⟨g7, hg7⟩ : ∃ v, v = w7.heap.size := ⟨_, rfl⟩
  have N7 : Blk (w7.alloc (.cells z5.toArray 27)) g7 27 z5 := Blk.newAt _ _ _ _ _ hg7 rfl
  go_upto_region 6 with (rw [← z5_arr, ← hg7]; refine wpList_store_el rfl rfl (.tmp 5) (.tmp 14) rfl g7 rfl L7 z5 rfl N7 z5_len (F.len h7.out) (F.one h7.out) ?_; intro X7 hb7 ho7)
  have U7 : Below X3.heap.size X3 X7 := (k7.alloc k7.size _).trans (ho7.below (by have := k7.size; simp; omega) (by have := k7.size; omega))
  have KK7 : Hid (Below w.heap.size w X7) := KK3.out.trans (U7.mono KK3.out.size)
  have b8 : Hid (Blk X7 g1 27 L1) := b4.out.below U7 b4.out.lt
  clear b4
  have b9 : Hid (Blk X7 g3 31 L3) := Q3.out.below U7 Q3.out.lt
  clear Q3
  have Q7 : Hid (Blk X7 g7 27 L7) := hb7
  clear l7 k7 hg7 N7 hb7 ho7 U7 KK3
  have PK := KK7
  have P3 := b8
  have P4 := b9
  have P5 := Q7
  have hone : Hid ((1 : Nat) < 4294967296) := by rw [Hid]; decide
  go_wp2_with fail
  refine (rsmall_at _ hone).mono ?_
  rintro e w10 ⟨L10, rfl, l10, k10⟩
  have h10 := Lib.hid l10
  obtain ⟨g10, hg10⟩ : ∃ v, v = w10.heap.size := ⟨_, rfl⟩
  have N10 : Blk (w10.alloc (.cells z32.toArray 31)) g10 31 z32 := Blk.newAt _ _ _ _ _ hg10 rfl
  go_upto_region 7 with (rw [← z32_arr, ← hg10]; refine wpList_store_num rfl rfl (.tmp 6) (.tmp 15) rfl g10 rfl L10 z32 rfl N10 z32_len h10.out.len h10.out.one ?_; intro X10 hb10 ho10)
  have U10 : Below X7.heap.size X7 X10 := (k10.alloc k10.size _).trans (ho10.below (by have := k10.size; simp; omega) (by have := k10.size; omega))
  have KK10 : Hid (Below w.heap.size w X10) := KK7.out.trans (U10.mono KK7.out.size)
  have b11 : Hid (Blk X10 g1 27 L1) := b8.out.below U10 b8.out.lt
  clear b8
  have b12 : Hid (Blk X10 g3 31 L3) := b9.out.below U10 b9.out.lt
  clear b9
  have b13 : Hid (Blk X10 g7 27 L7) := Q7.out.below U10 Q7.out.lt
  clear Q7
  have Q10 : Hid (Blk X10 g10 31 L10) := hb10
  have HN6 : Hid (g1 ≠ g10 ∧ g3 ≠ g10 ∧ g7 ≠ g10) := by
    have e := hg10
    have h3 := P3.out.lt
    have h4 := P4.out.lt
    have h5 := P5.out.lt
    have hk := k10.size
    exact ⟨by omega, by omega, by omega⟩
  have HG6 : Hid (w.heap.size ≤ g10) := by have := PK.out.size; have := k10.size; have := hg10; rw [Hid]; omega
  clear PK P3 P4 P5 l10 k10 hg10 N10 hb10 ho10 U10 KK7
  have N6 : Hid (g1 ≠ g10 ∧ g3 ≠ g10 ∧ g7 ≠ g10) := HN6
  have G6 : Hid (w.heap.size ≤ g10) := HG6
  by_cases h0 : a = 0
  · skip
    have H0 := Lib.hid h0
    clear h0
    go_upto_region 7 with fail
    refine wp_region_any (by kernel_rfl) ?_
    change wpAny _ _ _ _ _ _ _ (World.drew _)
    refine wpAny_of_held (S := fun w' => w'.rangeAt g3 0 L3) _ _ _ _ ?_
    have k14 : Hid (Below X10.heap.size X10 X10.drew) := below_draws X10 1
    refine wpAnyH_take_at (i := 0) (v := .agg L3.toArray) rfl rfl (by kernel_rfl) (by kernel_rfl) (by kernel_rfl) (fun _ _ _ h => h) (yieldsIf_load_mid (by rfl) 31 (.tmp 4) rfl g3 0 rfl L3 _ (fun w h => h) Try.underlying31 rfl (by rw [h3.out.len]; kernel_rfl)) ((b12.out.below k14.out b12.out.lt).range 0 _ [] (by simp)) ?_
    simp only [List.setIfInBounds_toArray, List.set_cons_zero, List.set_cons_succ]
    have hn15 : Hid (((0 : Nat)) < 4294967296) := by rw [Hid]; decide
    refine wpAnyH_ready (rs := [1]) (by kernel_rfl) (by simp) ?_
    refine AllReadyH.cons rfl (fun KC hK => ?_) AllReadyH.nil
    go_simp
    refine (rsmall_at _ hn15).mono ?_
    rintro e v16 ⟨L16, rfl, l16, zc16⟩
    have hl16 := Lib.hid l16
    have k16 : Hid (Below X10.heap.size X10 v16) := k14.out.trans (zc16.mono k14.out.size)
    refine hK.out _ _ ((b12.out.below k16.out b12.out.lt).range 0 _ [] (by simp)) (fun _ => ?_)
    clear hK KC l16 zc16 k14
    have heq : ∀ w, (binOp .eql 31 (.agg L3.toArray) (.agg L16.toArray)).run Try.prog w = .ok (.bool true) w := fun w => by rw [run_eq_num h3.out hl16.out w, decide_eq_true H0.out]
    refine wpAnyH_take_at (i := 2) (v := .bool true) rfl rfl (by kernel_rfl) (by kernel_rfl) (by kernel_rfl) (fun _ _ _ h => h) (Or.inl ⟨by rfl, fun w hS => by go_simp⟩) ((b12.out.below k16.out b12.out.lt).range 0 _ [] (by simp)) ?_
    simp only [List.setIfInBounds_toArray, List.set_cons_zero, List.set_cons_succ]
    refine wpAnyH_done (by kernel_rfl) ?_ _
    have KK17 : Hid (Below w.heap.size w v16) := KK10.out.trans (k16.out.mono KK10.out.size)
    have b18 : Hid (Blk v16 g1 27 L1) := b11.out.below k16.out b11.out.lt
    have b19 : Hid (Blk v16 g3 31 L3) := b12.out.below k16.out b12.out.lt
    have b20 : Hid (Blk v16 g7 27 L7) := b13.out.below k16.out b13.out.lt
    have b21 : Hid (Blk v16 g10 31 L10) := Q10.out.below k16.out Q10.out.lt
    clear heq
    go_upto_region 9 with (first | (refine wpList_load_num rfl (.tmp 4) rfl g3 rfl L3 b19.out h3.out.len ?_) | (refine wpList_store_num rfl rfl (.tmp 6) (.tmp 19) rfl g10 rfl L3 L10 rfl b21.out h10.out.len h3.out.len h3.out.one ?_; intro Y hY oY))
    have KY : Hid (Below w.heap.size w Y) := KK17.out.trans (oY.below KK17.out.size G6.out)
    have b23 : Hid (Blk Y g1 27 L1) := b18.out.grown oY (by have := N6.out; intro e; injection e with e; omega)
    have b24 : Hid (Blk Y g3 31 L3) := b19.out.grown oY (by have := N6.out; intro e; injection e with e; omega)
    have b25 : Hid (Blk Y g7 27 L7) := b20.out.grown oY (by have := N6.out; intro e; injection e with e; omega)
    have bY : Hid (Blk Y g10 31 L3) := hY
    go_upto_region 9 with fail
    refine wp_region_any (by kernel_rfl) ?_
    change wpAny _ _ _ _ _ _ _ (World.drew _)
    refine wpAny_of_held (S := fun w' => w'.rangeAt g7 0 L7 ∧ w'.rangeAt g3 0 L3 ∧ w'.rangeAt g1 0 L1 ∧ w'.rangeAt g10 0 L3) _ _ _ _ ?_
    have k26 : Hid (Below Y.heap.size Y Y.drew) := below_draws Y 1
    refine wpAnyH_take_at (i := 0) (v := .agg L7.toArray) rfl rfl (by kernel_rfl) (by kernel_rfl) (by kernel_rfl) (fun _ _ _ h => h) (yieldsIf_load_mid (by rfl) 27 (.tmp 5) rfl g7 0 rfl L7 _ (fun w h => h.1) Try.underlying27 rfl (by rw [F.len h7.out]; kernel_rfl)) ⟨((b25.out.below k26.out b25.out.lt).range 0 _ [] (by simp)), ((b24.out.below k26.out b24.out.lt).range 0 _ [] (by simp)), ((b23.out.below k26.out b23.out.lt).range 0 _ [] (by simp)), ((bY.out.below k26.out bY.out.lt).range 0 _ [] (by simp))⟩ ?_
    simp only [List.setIfInBounds_toArray, List.set_cons_zero, List.set_cons_succ]
    refine wpAnyH_take_at (i := 1) (v := .agg L3.toArray) rfl rfl (by kernel_rfl) (by kernel_rfl) (by kernel_rfl) (fun _ _ _ h => h) (yieldsIf_load_mid (by rfl) 31 (.tmp 4) rfl g3 0 rfl L3 _ (fun w h => h.2.1) Try.underlying31 rfl (by rw [h3.out.len]; kernel_rfl)) ⟨((b25.out.below k26.out b25.out.lt).range 0 _ [] (by simp)), ((b24.out.below k26.out b24.out.lt).range 0 _ [] (by simp)), ((b23.out.below k26.out b23.out.lt).range 0 _ [] (by simp)), ((bY.out.below k26.out bY.out.lt).range 0 _ [] (by simp))⟩ ?_
    simp only [List.setIfInBounds_toArray, List.set_cons_zero, List.set_cons_succ]
    refine wpAnyH_ready (rs := [2]) (by kernel_rfl) (by simp) ?_
    refine AllReadyH.cons rfl (fun KC hK => ?_) AllReadyH.nil
    go_simp
    refine (rinvert_at _ h3 hr6).mono ?_
    rintro e v27 ⟨L27, rfl, l27, zc27⟩
    have hl27 := Lib.hid l27
    have k27 : Hid (Below Y.heap.size Y v27) := k26.out.trans (zc27.mono k26.out.size)
    refine hK.out _ _ ⟨((b25.out.below k27.out b25.out.lt).range 0 _ [] (by simp)), ((b24.out.below k27.out b24.out.lt).range 0 _ [] (by simp)), ((b23.out.below k27.out b23.out.lt).range 0 _ [] (by simp)), ((bY.out.below k27.out bY.out.lt).range 0 _ [] (by simp))⟩ (fun _ => ?_)
    clear hK KC l27 zc27 k26
    refine wpAnyH_ready (rs := [3]) (by kernel_rfl) (by simp) ?_
    refine AllReadyH.cons rfl (fun KC hK => ?_) AllReadyH.nil
    go_simp
    refine (same_yes F L7 L27 r6 _ h7.out hl27.out).mono ?_
    rintro e v28 ⟨rfl, zc28⟩
    have k28 : Hid (Below Y.heap.size Y v28) := k27.out.trans (zc28.mono k27.out.size)
    refine hK.out _ _ ⟨((b25.out.below k28.out b25.out.lt).range 0 _ [] (by simp)), ((b24.out.below k28.out b24.out.lt).range 0 _ [] (by simp)), ((b23.out.below k28.out b23.out.lt).range 0 _ [] (by simp)), ((bY.out.below k28.out bY.out.lt).range 0 _ [] (by simp))⟩ (fun _ => ?_)
    clear hK KC zc28 k27
    refine wpAnyH_take_at (i := 4) (v := .bool true) rfl rfl (by kernel_rfl) (by kernel_rfl) (by kernel_rfl) (fun _ _ _ h => h) (Or.inl ⟨by rfl, fun w hS => by go_simp⟩) ⟨((b25.out.below k28.out b25.out.lt).range 0 _ [] (by simp)), ((b24.out.below k28.out b24.out.lt).range 0 _ [] (by simp)), ((b23.out.below k28.out b23.out.lt).range 0 _ [] (by simp)), ((bY.out.below k28.out bY.out.lt).range 0 _ [] (by simp))⟩ ?_
    simp only [List.setIfInBounds_toArray, List.set_cons_zero, List.set_cons_succ]
    refine wpAnyH_take_at (i := 5) (v := .agg L1.toArray) rfl rfl (by kernel_rfl) (by kernel_rfl) (by kernel_rfl) (fun _ _ _ h => h) (yieldsIf_load_mid (by rfl) 27 (.tmp 3) rfl g1 0 rfl L1 _ (fun w h => h.2.2.1) Try.underlying27 rfl (by rw [F.len h1.out]; kernel_rfl)) ⟨((b25.out.below k28.out b25.out.lt).range 0 _ [] (by simp)), ((b24.out.below k28.out b24.out.lt).range 0 _ [] (by simp)), ((b23.out.below k28.out b23.out.lt).range 0 _ [] (by simp)), ((bY.out.below k28.out bY.out.lt).range 0 _ [] (by simp))⟩ ?_
    simp only [List.setIfInBounds_toArray, List.set_cons_zero, List.set_cons_succ]
    refine wpAnyH_take_at (i := 6) (v := .agg L7.toArray) rfl rfl (by kernel_rfl) (by kernel_rfl) (by kernel_rfl) (fun _ _ _ h => h) (yieldsIf_load_mid (by rfl) 27 (.tmp 5) rfl g7 0 rfl L7 _ (fun w h => h.1) Try.underlying27 rfl (by rw [F.len h7.out]; kernel_rfl)) ⟨((b25.out.below k28.out b25.out.lt).range 0 _ [] (by simp)), ((b24.out.below k28.out b24.out.lt).range 0 _ [] (by simp)), ((b23.out.below k28.out b23.out.lt).range 0 _ [] (by simp)), ((bY.out.below k28.out bY.out.lt).range 0 _ [] (by simp))⟩ ?_
    simp only [List.setIfInBounds_toArray, List.set_cons_zero, List.set_cons_succ]
    refine wpAnyH_take_at (i := 8) (v := .agg L3.toArray) rfl rfl (by kernel_rfl) (by kernel_rfl) (by kernel_rfl) (fun _ _ _ h => h) (yieldsIf_load_mid (by rfl) 31 (.tmp 6) rfl g10 0 rfl L3 _ (fun w h => h.2.2.2) Try.underlying31 rfl (by rw [h3.out.len]; kernel_rfl)) ⟨((b25.out.below k28.out b25.out.lt).range 0 _ [] (by simp)), ((b24.out.below k28.out b24.out.lt).range 0 _ [] (by simp)), ((b23.out.below k28.out b23.out.lt).range 0 _ [] (by simp)), ((bY.out.below k28.out bY.out.lt).range 0 _ [] (by simp))⟩ ?_
    simp only [List.setIfInBounds_toArray, List.set_cons_zero, List.set_cons_succ]
    have hr29 : Hid (a * r6 % M.Q = a) := by rw [Hid, H0.out, Nat.zero_mul, Nat.zero_mod]
    refine wpAnyH_ready (rs := [7]) (by kernel_rfl) (by simp) ?_
    refine AllReadyH.cons rfl (fun KC hK => ?_) AllReadyH.nil
    go_simp
    refine (F.mul_at _ h1 h7 hr29).mono ?_
    rintro e v30 ⟨L30, rfl, l30, zc30⟩
    have hl30 := Lib.hid l30
    have k30 : Hid (Below Y.heap.size Y v30) := k28.out.trans (zc30.mono k28.out.size)
    refine hK.out _ _ ⟨((b25.out.below k30.out b25.out.lt).range 0 _ [] (by simp)), ((b24.out.below k30.out b24.out.lt).range 0 _ [] (by simp)), ((b23.out.below k30.out b23.out.lt).range 0 _ [] (by simp)), ((bY.out.below k30.out bY.out.lt).range 0 _ [] (by simp))⟩ (fun _ => ?_)
    clear hK KC l30 zc30 k28
    refine wpAnyH_ready (rs := [9]) (by kernel_rfl) (by simp) ?_
    refine AllReadyH.cons rfl (fun KC hK => ?_) AllReadyH.nil
    go_simp
    refine (same_yes F L30 L3 a _ hl30.out h3.out).mono ?_
    rintro e v31 ⟨rfl, zc31⟩
    have k31 : Hid (Below Y.heap.size Y v31) := k30.out.trans (zc31.mono k30.out.size)
    refine hK.out _ _ ⟨((b25.out.below k31.out b25.out.lt).range 0 _ [] (by simp)), ((b24.out.below k31.out b24.out.lt).range 0 _ [] (by simp)), ((b23.out.below k31.out b23.out.lt).range 0 _ [] (by simp)), ((bY.out.below k31.out bY.out.lt).range 0 _ [] (by simp))⟩ (fun _ => ?_)
    clear hK KC zc31 k30
    refine wpAnyH_take_at (i := 10) (v := .bool true) rfl rfl (by kernel_rfl) (by kernel_rfl) (by kernel_rfl) (fun _ _ _ h => h) (Or.inl ⟨by rfl, fun w hS => by go_simp⟩) ⟨((b25.out.below k31.out b25.out.lt).range 0 _ [] (by simp)), ((b24.out.below k31.out b24.out.lt).range 0 _ [] (by simp)), ((b23.out.below k31.out b23.out.lt).range 0 _ [] (by simp)), ((bY.out.below k31.out bY.out.lt).range 0 _ [] (by simp))⟩ ?_
    simp only [List.setIfInBounds_toArray, List.set_cons_zero, List.set_cons_succ]
    refine wpAnyH_take_at (i := 11) (v := .bool true) rfl rfl (by kernel_rfl) (by kernel_rfl) (by kernel_rfl) (fun _ _ _ h => h) (Or.inl ⟨by rfl, fun w hS => by go_simp⟩) ⟨((b25.out.below k31.out b25.out.lt).range 0 _ [] (by simp)), ((b24.out.below k31.out b24.out.lt).range 0 _ [] (by simp)), ((b23.out.below k31.out b23.out.lt).range 0 _ [] (by simp)), ((bY.out.below k31.out bY.out.lt).range 0 _ [] (by simp))⟩ ?_
    simp only [List.setIfInBounds_toArray, List.set_cons_zero, List.set_cons_succ]
    refine wpAnyH_done (by kernel_rfl) ?_ _
    have KK32 : Hid (Below w.heap.size w v31) := KY.out.trans (k31.out.mono KY.out.size)
    have b33 : Hid (Blk v31 g1 27 L1) := b23.out.below k31.out b23.out.lt
    have b34 : Hid (Blk v31 g3 31 L3) := b24.out.below k31.out b24.out.lt
    have b35 : Hid (Blk v31 g7 27 L7) := b25.out.below k31.out b25.out.lt
    have b36 : Hid (Blk v31 g10 31 L3) := bY.out.below k31.out bY.out.lt
    go_wp2
    go_ret
    exact ⟨rfl, KK32.out⟩
  · skip
    have H0 := Lib.hid h0
    clear h0
    go_upto_region 7 with fail
    refine wp_region_any (by kernel_rfl) ?_
    change wpAny _ _ _ _ _ _ _ (World.drew _)
    refine wpAny_of_held (S := fun w' => w'.rangeAt g3 0 L3) _ _ _ _ ?_
    have k37 : Hid (Below X10.heap.size X10 X10.drew) := below_draws X10 1
    refine wpAnyH_take_at (i := 0) (v := .agg L3.toArray) rfl rfl (by kernel_rfl) (by kernel_rfl) (by kernel_rfl) (fun _ _ _ h => h) (yieldsIf_load_mid (by rfl) 31 (.tmp 4) rfl g3 0 rfl L3 _ (fun w h => h) Try.underlying31 rfl (by rw [h3.out.len]; kernel_rfl)) ((b12.out.below k37.out b12.out.lt).range 0 _ [] (by simp)) ?_
    simp only [List.setIfInBounds_toArray, List.set_cons_zero, List.set_cons_succ]
    have hn38 : Hid (((0 : Nat)) < 4294967296) := by rw [Hid]; decide
    refine wpAnyH_ready (rs := [1]) (by kernel_rfl) (by simp) ?_
    refine AllReadyH.cons rfl (fun KC hK => ?_) AllReadyH.nil
    go_simp
    refine (rsmall_at _ hn38).mono ?_
    rintro e v39 ⟨L39, rfl, l39, zc39⟩
    have hl39 := Lib.hid l39
    have k39 : Hid (Below X10.heap.size X10 v39) := k37.out.trans (zc39.mono k37.out.size)
    refine hK.out _ _ ((b12.out.below k39.out b12.out.lt).range 0 _ [] (by simp)) (fun _ => ?_)
    clear hK KC l39 zc39 k37
    have heq : ∀ w, (binOp .eql 31 (.agg L3.toArray) (.agg L39.toArray)).run Try.prog w = .ok (.bool false) w := fun w => by rw [run_eq_num h3.out hl39.out w, decide_eq_false H0.out]
    refine wpAnyH_take_at (i := 2) (v := .bool false) rfl rfl (by kernel_rfl) (by kernel_rfl) (by kernel_rfl) (fun _ _ _ h => h) (Or.inl ⟨by rfl, fun w hS => by go_simp⟩) ((b12.out.below k39.out b12.out.lt).range 0 _ [] (by simp)) ?_
    simp only [List.setIfInBounds_toArray, List.set_cons_zero, List.set_cons_succ]
    refine wpAnyH_done (by kernel_rfl) ?_ _
    have KK40 : Hid (Below w.heap.size w v39) := KK10.out.trans (k39.out.mono KK10.out.size)
    have b41 : Hid (Blk v39 g1 27 L1) := b11.out.below k39.out b11.out.lt
    have b42 : Hid (Blk v39 g3 31 L3) := b12.out.below k39.out b12.out.lt
    have b43 : Hid (Blk v39 g7 27 L7) := b13.out.below k39.out b13.out.lt
    have b44 : Hid (Blk v39 g10 31 L10) := Q10.out.below k39.out Q10.out.lt
    clear heq
    go_upto_region 9 with fail
    refine wp_region_any (by kernel_rfl) ?_
    change wpAny _ _ _ _ _ _ _ (World.drew _)
    refine wpAny_of_held (S := fun w' => w'.rangeAt g7 0 L7 ∧ w'.rangeAt g3 0 L3 ∧ w'.rangeAt g1 0 L1 ∧ w'.rangeAt g10 0 L10) _ _ _ _ ?_
    have k45 : Hid (Below v39.heap.size v39 v39.drew) := below_draws v39 1
    refine wpAnyH_take_at (i := 0) (v := .agg L7.toArray) rfl rfl (by kernel_rfl) (by kernel_rfl) (by kernel_rfl) (fun _ _ _ h => h) (yieldsIf_load_mid (by rfl) 27 (.tmp 5) rfl g7 0 rfl L7 _ (fun w h => h.1) Try.underlying27 rfl (by rw [F.len h7.out]; kernel_rfl)) ⟨((b43.out.below k45.out b43.out.lt).range 0 _ [] (by simp)), ((b42.out.below k45.out b42.out.lt).range 0 _ [] (by simp)), ((b41.out.below k45.out b41.out.lt).range 0 _ [] (by simp)), ((b44.out.below k45.out b44.out.lt).range 0 _ [] (by simp))⟩ ?_
    simp only [List.setIfInBounds_toArray, List.set_cons_zero, List.set_cons_succ]
    refine wpAnyH_take_at (i := 1) (v := .agg L3.toArray) rfl rfl (by kernel_rfl) (by kernel_rfl) (by kernel_rfl) (fun _ _ _ h => h) (yieldsIf_load_mid (by rfl) 31 (.tmp 4) rfl g3 0 rfl L3 _ (fun w h => h.2.1) Try.underlying31 rfl (by rw [h3.out.len]; kernel_rfl)) ⟨((b43.out.below k45.out b43.out.lt).range 0 _ [] (by simp)), ((b42.out.below k45.out b42.out.lt).range 0 _ [] (by simp)), ((b41.out.below k45.out b41.out.lt).range 0 _ [] (by simp)), ((b44.out.below k45.out b44.out.lt).range 0 _ [] (by simp))⟩ ?_
    simp only [List.setIfInBounds_toArray, List.set_cons_zero, List.set_cons_succ]
    refine wpAnyH_ready (rs := [2]) (by kernel_rfl) (by simp) ?_
    refine AllReadyH.cons rfl (fun KC hK => ?_) AllReadyH.nil
    go_simp
    refine (rinvert_at _ h3 hr6).mono ?_
    rintro e v46 ⟨L46, rfl, l46, zc46⟩
    have hl46 := Lib.hid l46
    have k46 : Hid (Below v39.heap.size v39 v46) := k45.out.trans (zc46.mono k45.out.size)
    refine hK.out _ _ ⟨((b43.out.below k46.out b43.out.lt).range 0 _ [] (by simp)), ((b42.out.below k46.out b42.out.lt).range 0 _ [] (by simp)), ((b41.out.below k46.out b41.out.lt).range 0 _ [] (by simp)), ((b44.out.below k46.out b44.out.lt).range 0 _ [] (by simp))⟩ (fun _ => ?_)
    clear hK KC l46 zc46 k45
    refine wpAnyH_ready (rs := [3]) (by kernel_rfl) (by simp) ?_
    refine AllReadyH.cons rfl (fun KC hK => ?_) AllReadyH.nil
    go_simp
    refine (same_yes F L7 L46 r6 _ h7.out hl46.out).mono ?_
    rintro e v47 ⟨rfl, zc47⟩
    have k47 : Hid (Below v39.heap.size v39 v47) := k46.out.trans (zc47.mono k46.out.size)
    refine hK.out _ _ ⟨((b43.out.below k47.out b43.out.lt).range 0 _ [] (by simp)), ((b42.out.below k47.out b42.out.lt).range 0 _ [] (by simp)), ((b41.out.below k47.out b41.out.lt).range 0 _ [] (by simp)), ((b44.out.below k47.out b44.out.lt).range 0 _ [] (by simp))⟩ (fun _ => ?_)
    clear hK KC zc47 k46
    refine wpAnyH_take_at (i := 4) (v := .bool true) rfl rfl (by kernel_rfl) (by kernel_rfl) (by kernel_rfl) (fun _ _ _ h => h) (Or.inl ⟨by rfl, fun w hS => by go_simp⟩) ⟨((b43.out.below k47.out b43.out.lt).range 0 _ [] (by simp)), ((b42.out.below k47.out b42.out.lt).range 0 _ [] (by simp)), ((b41.out.below k47.out b41.out.lt).range 0 _ [] (by simp)), ((b44.out.below k47.out b44.out.lt).range 0 _ [] (by simp))⟩ ?_
    simp only [List.setIfInBounds_toArray, List.set_cons_zero, List.set_cons_succ]
    refine wpAnyH_take_at (i := 5) (v := .agg L1.toArray) rfl rfl (by kernel_rfl) (by kernel_rfl) (by kernel_rfl) (fun _ _ _ h => h) (yieldsIf_load_mid (by rfl) 27 (.tmp 3) rfl g1 0 rfl L1 _ (fun w h => h.2.2.1) Try.underlying27 rfl (by rw [F.len h1.out]; kernel_rfl)) ⟨((b43.out.below k47.out b43.out.lt).range 0 _ [] (by simp)), ((b42.out.below k47.out b42.out.lt).range 0 _ [] (by simp)), ((b41.out.below k47.out b41.out.lt).range 0 _ [] (by simp)), ((b44.out.below k47.out b44.out.lt).range 0 _ [] (by simp))⟩ ?_
    simp only [List.setIfInBounds_toArray, List.set_cons_zero, List.set_cons_succ]
    refine wpAnyH_take_at (i := 6) (v := .agg L7.toArray) rfl rfl (by kernel_rfl) (by kernel_rfl) (by kernel_rfl) (fun _ _ _ h => h) (yieldsIf_load_mid (by rfl) 27 (.tmp 5) rfl g7 0 rfl L7 _ (fun w h => h.1) Try.underlying27 rfl (by rw [F.len h7.out]; kernel_rfl)) ⟨((b43.out.below k47.out b43.out.lt).range 0 _ [] (by simp)), ((b42.out.below k47.out b42.out.lt).range 0 _ [] (by simp)), ((b41.out.below k47.out b41.out.lt).range 0 _ [] (by simp)), ((b44.out.below k47.out b44.out.lt).range 0 _ [] (by simp))⟩ ?_
    simp only [List.setIfInBounds_toArray, List.set_cons_zero, List.set_cons_succ]
    refine wpAnyH_take_at (i := 8) (v := .agg L10.toArray) rfl rfl (by kernel_rfl) (by kernel_rfl) (by kernel_rfl) (fun _ _ _ h => h) (yieldsIf_load_mid (by rfl) 31 (.tmp 6) rfl g10 0 rfl L10 _ (fun w h => h.2.2.2) Try.underlying31 rfl (by rw [h10.out.len]; kernel_rfl)) ⟨((b43.out.below k47.out b43.out.lt).range 0 _ [] (by simp)), ((b42.out.below k47.out b42.out.lt).range 0 _ [] (by simp)), ((b41.out.below k47.out b41.out.lt).range 0 _ [] (by simp)), ((b44.out.below k47.out b44.out.lt).range 0 _ [] (by simp))⟩ ?_
    simp only [List.setIfInBounds_toArray, List.set_cons_zero, List.set_cons_succ]
    have hr48 : Hid (a * r6 % M.Q = 1) := by rw [Hid, ← hr6.out, Nat.mul_mod_mod]; exact M.Q_inverse a (by rw [Nat.mod_eq_of_lt lta.out]; exact H0.out)
    refine wpAnyH_ready (rs := [7]) (by kernel_rfl) (by simp) ?_
    refine AllReadyH.cons rfl (fun KC hK => ?_) AllReadyH.nil
    go_simp
    refine (F.mul_at _ h1 h7 hr48).mono ?_
    rintro e v49 ⟨L49, rfl, l49, zc49⟩
    have hl49 := Lib.hid l49
    have k49 : Hid (Below v39.heap.size v39 v49) := k47.out.trans (zc49.mono k47.out.size)
    refine hK.out _ _ ⟨((b43.out.below k49.out b43.out.lt).range 0 _ [] (by simp)), ((b42.out.below k49.out b42.out.lt).range 0 _ [] (by simp)), ((b41.out.below k49.out b41.out.lt).range 0 _ [] (by simp)), ((b44.out.below k49.out b44.out.lt).range 0 _ [] (by simp))⟩ (fun _ => ?_)
    clear hK KC l49 zc49 k47
    refine wpAnyH_ready (rs := [9]) (by kernel_rfl) (by simp) ?_
    refine AllReadyH.cons rfl (fun KC hK => ?_) AllReadyH.nil
    go_simp
    refine (same_yes F L49 L10 1 _ hl49.out h10.out).mono ?_
    rintro e v50 ⟨rfl, zc50⟩
    have k50 : Hid (Below v39.heap.size v39 v50) := k49.out.trans (zc50.mono k49.out.size)
    refine hK.out _ _ ⟨((b43.out.below k50.out b43.out.lt).range 0 _ [] (by simp)), ((b42.out.below k50.out b42.out.lt).range 0 _ [] (by simp)), ((b41.out.below k50.out b41.out.lt).range 0 _ [] (by simp)), ((b44.out.below k50.out b44.out.lt).range 0 _ [] (by simp))⟩ (fun _ => ?_)
    clear hK KC zc50 k49
    refine wpAnyH_take_at (i := 10) (v := .bool true) rfl rfl (by kernel_rfl) (by kernel_rfl) (by kernel_rfl) (fun _ _ _ h => h) (Or.inl ⟨by rfl, fun w hS => by go_simp⟩) ⟨((b43.out.below k50.out b43.out.lt).range 0 _ [] (by simp)), ((b42.out.below k50.out b42.out.lt).range 0 _ [] (by simp)), ((b41.out.below k50.out b41.out.lt).range 0 _ [] (by simp)), ((b44.out.below k50.out b44.out.lt).range 0 _ [] (by simp))⟩ ?_
    simp only [List.setIfInBounds_toArray, List.set_cons_zero, List.set_cons_succ]
    refine wpAnyH_take_at (i := 11) (v := .bool true) rfl rfl (by kernel_rfl) (by kernel_rfl) (by kernel_rfl) (fun _ _ _ h => h) (Or.inl ⟨by rfl, fun w hS => by go_simp⟩) ⟨((b43.out.below k50.out b43.out.lt).range 0 _ [] (by simp)), ((b42.out.below k50.out b42.out.lt).range 0 _ [] (by simp)), ((b41.out.below k50.out b41.out.lt).range 0 _ [] (by simp)), ((b44.out.below k50.out b44.out.lt).range 0 _ [] (by simp))⟩ ?_
    simp only [List.setIfInBounds_toArray, List.set_cons_zero, List.set_cons_succ]
    refine wpAnyH_done (by kernel_rfl) ?_ _
    have KK51 : Hid (Below w.heap.size w v50) := KK40.out.trans (k50.out.mono KK40.out.size)
    have b52 : Hid (Blk v50 g1 27 L1) := b41.out.below k50.out b41.out.lt
    have b53 : Hid (Blk v50 g3 31 L3) := b42.out.below k50.out b42.out.lt
    have b54 : Hid (Blk v50 g7 27 L7) := b43.out.below k50.out b43.out.lt
    have b55 : Hid (Blk v50 g10 31 L10) := b44.out.below k50.out b44.out.lt
    go_wp2
    go_ret
    exact ⟨rfl, KK51.out⟩

end Go.Proofs.Ytmgbcollcfeolaa
