/-
  THE WALK OF orloplaw07.FieldLaws, under FieldOk: it returns true, and writes nothing that was there. Conditions: FieldOk (proved of the code elsewhere). (Written by gen_fwalk.py.)
-/
import Derived.Test.YtmgbcollcfeolaaFieldFace
import Derived.Test.YtmgbcollcfeolaaFieldLaw
namespace Go.Proofs.Ytmgbcollcfeolaa
open Go.RowKit
set_option linter.unusedVariables false

set_option maxRecDepth 100000 in
set_option maxHeartbeats 16000000 in
theorem fieldLaws_walk_of {Fe : List Value → Nat → Prop} (F : FieldOk Fe) (w : World) (bs : List UInt8) (lb : bs.length = 96) (bit : Nat) (hbit : bit < 18446744073709551616) : Calls Try.prog 7 #[.agg (Lib.byteCells bs).toArray, .int .u64 (bit : Int)] w fun e w' => e = .returned (.bool true) ∧ Below w.heap.size w w' := by
  obtain ⟨xs, hxs⟩ : ∃ x, Hid ((bs.drop 0).take 32 = x) := ⟨_, rfl⟩
  obtain ⟨a, ha⟩ : ∃ r, Hid (M.told xs % M.Q = r) := ⟨M.told xs % M.Q, rfl⟩
  have lta : Hid (a < M.Q) := by rw [← ha.out]; exact Nat.mod_lt _ M.Q_pos
  obtain ⟨ys, hys⟩ : ∃ x, Hid ((bs.drop 32).take 32 = x) := ⟨_, rfl⟩
  obtain ⟨b, hb⟩ : ∃ r, Hid (M.told ys % M.Q = r) := ⟨M.told ys % M.Q, rfl⟩
  have ltb : Hid (b < M.Q) := by rw [← hb.out]; exact Nat.mod_lt _ M.Q_pos
  obtain ⟨zs, hzs⟩ : ∃ x, Hid ((bs.drop 64).take 32 = x) := ⟨_, rfl⟩
  obtain ⟨c, hc⟩ : ∃ r, Hid (M.told zs % M.Q = r) := ⟨M.told zs % M.Q, rfl⟩
  have ltc : Hid (c < M.Q) := by rw [← hc.out]; exact Nat.mod_lt _ M.Q_pos
  have HB := Lib.hid hbit
  clear hbit
  have HL := Lib.hid lb
  clear lb
  obtain ⟨r1, hr1⟩ : ∃ r, Hid ((a + b) % M.Q = r) := ⟨(a + b) % M.Q, rfl⟩
  obtain ⟨r2, hr2⟩ : ∃ r, Hid (a * b % M.Q = r) := ⟨a * b % M.Q, rfl⟩
  obtain ⟨r3, hr3⟩ : ∃ r, Hid ((r1 + c) % M.Q = r) := ⟨(r1 + c) % M.Q, rfl⟩
  obtain ⟨r4, hr4⟩ : ∃ r, Hid ((b + c) % M.Q = r) := ⟨(b + c) % M.Q, rfl⟩
  obtain ⟨r5, hr5⟩ : ∃ r, Hid (r2 * c % M.Q = r) := ⟨r2 * c % M.Q, rfl⟩
  obtain ⟨r6, hr6⟩ : ∃ r, Hid (b * c % M.Q = r) := ⟨b * c % M.Q, rfl⟩
  obtain ⟨r7, hr7⟩ : ∃ r, Hid (a * r4 % M.Q = r) := ⟨a * r4 % M.Q, rfl⟩
  obtain ⟨r8, hr8⟩ : ∃ r, Hid (a * c % M.Q = r) := ⟨a * c % M.Q, rfl⟩
  obtain ⟨g, hg⟩ : ∃ g, g = w.heap.size := ⟨_, rfl⟩
  obtain ⟨W, hW⟩ : ∃ W, Hid (W = w.alloc (.cells (Lib.byteCells bs).toArray 51)) := ⟨_, rfl⟩
  have B0 : Hid (Blk W g 51 (Lib.byteCells bs)) := by rw [hW.out, hg]; exact Blk.newAt _ _ _ _ _ rfl rfl
  have K0 : Hid (Below w.heap.size w W) := by rw [hW.out]; exact (Below.refl _ _).alloc (Nat.le_refl _) _
  have hsl0 := slice32_at g 0
  have hsl32 := slice32_at g 32
  have hsl64 := slice32_at g 64
  go_enter Try.func7, Try.ntmps7
  go_upto_region 1 with fail
  rw [← hW.out, ← hg]
  clear hW hg
  go_wp2_with fail
  refine (fieldAwake_any F W).mono ?_
  rintro e wA ⟨rfl, kA⟩
  have C0 : Hid (Blk wA g 51 (Lib.byteCells bs)) := B0.out.below kA B0.out.lt
  have KA : Hid (Below w.heap.size w wA) := K0.out.trans (kA.mono K0.out.size)
  clear kA K0 B0
  have I0 : Hid (IsB wA (.slice (some ⟨g, 0, none⟩) 32 32) xs) := by rw [← hxs.out]; exact blk_part C0.out 0 (by rw [HL.out]; decide)
  go_wp2_with fail
  refine (F.from_at _ I0.out ha).mono ?_
  rintro e w9 ⟨L9, rfl, l9, k9⟩
  have h9 := Lib.hid l9
  obtain ⟨g9, hg9⟩ : ∃ v, v = w9.heap.size := ⟨_, rfl⟩
  have N9 : Blk (w9.alloc (.cells z5.toArray 27)) g9 27 z5 := Blk.newAt _ _ _ _ _ hg9 rfl
  go_upto_region 4 with (rw [← z5_arr, ← hg9]; refine wpList_store_el rfl rfl (.tmp 5) (.tmp 16) rfl g9 rfl L9 z5 rfl N9 z5_len (F.len h9.out) (F.one h9.out) ?_; intro X9 hb9 ho9)
  have U9 : Below wA.heap.size wA X9 := (k9.alloc k9.size _).trans (ho9.below (by have := k9.size; simp; omega) (by have := k9.size; omega))
  have KK9 : Hid (Below w.heap.size w X9) := KA.out.trans (U9.mono KA.out.size)
  have Q9 : Hid (Blk X9 g9 27 L9) := hb9
  have C1 : Hid (Blk X9 g 51 (Lib.byteCells bs)) := C0.out.below U9 C0.out.lt
  clear l9 k9 hg9 N9 hb9 ho9 U9 KA
  have I1 : Hid (IsB X9 (.slice (some ⟨g, 32, none⟩) 32 32) ys) := by rw [← hys.out]; exact blk_part C1.out 32 (by rw [HL.out]; decide)
  go_wp2_with fail
  refine (F.from_at _ I1.out hb).mono ?_
  rintro e w10 ⟨L10, rfl, l10, k10⟩
  have h10 := Lib.hid l10
  obtain ⟨g10, hg10⟩ : ∃ v, v = w10.heap.size := ⟨_, rfl⟩
  have N10 : Blk (w10.alloc (.cells z5.toArray 27)) g10 27 z5 := Blk.newAt _ _ _ _ _ hg10 rfl
  go_upto_region 5 with (rw [← z5_arr, ← hg10]; refine wpList_store_el rfl rfl (.tmp 6) (.tmp 19) rfl g10 rfl L10 z5 rfl N10 z5_len (F.len h10.out) (F.one h10.out) ?_; intro X10 hb10 ho10)
  have U10 : Below X9.heap.size X9 X10 := (k10.alloc k10.size _).trans (ho10.below (by have := k10.size; simp; omega) (by have := k10.size; omega))
  have KK10 : Hid (Below w.heap.size w X10) := KK9.out.trans (U10.mono KK9.out.size)
  have b11 : Hid (Blk X10 g9 27 L9) := Q9.out.below U10 Q9.out.lt
  clear Q9
  have Q10 : Hid (Blk X10 g10 27 L10) := hb10
  have C2 : Hid (Blk X10 g 51 (Lib.byteCells bs)) := C1.out.below U10 C1.out.lt
  clear l10 k10 hg10 N10 hb10 ho10 U10 KK9
  have I2 : Hid (IsB X10 (.slice (some ⟨g, 64, none⟩) 32 32) zs) := by rw [← hzs.out]; exact blk_part C2.out 64 (by rw [HL.out]; decide)
  go_wp2_with fail
  refine (F.from_at _ I2.out hc).mono ?_
  rintro e w12 ⟨L12, rfl, l12, k12⟩
  have h12 := Lib.hid l12
  obtain ⟨g12, hg12⟩ : ∃ v, v = w12.heap.size := ⟨_, rfl⟩
  have N12 : Blk (w12.alloc (.cells z5.toArray 27)) g12 27 z5 := Blk.newAt _ _ _ _ _ hg12 rfl
  go_upto_region 6 with (rw [← z5_arr, ← hg12]; refine wpList_store_el rfl rfl (.tmp 7) (.tmp 22) rfl g12 rfl L12 z5 rfl N12 z5_len (F.len h12.out) (F.one h12.out) ?_; intro X12 hb12 ho12)
  have U12 : Below X10.heap.size X10 X12 := (k12.alloc k12.size _).trans (ho12.below (by have := k12.size; simp; omega) (by have := k12.size; omega))
  have KK12 : Hid (Below w.heap.size w X12) := KK10.out.trans (U12.mono KK10.out.size)
  have b13 : Hid (Blk X12 g9 27 L9) := b11.out.below U12 b11.out.lt
  clear b11
  have b14 : Hid (Blk X12 g10 27 L10) := Q10.out.below U12 Q10.out.lt
  clear Q10
  have Q12 : Hid (Blk X12 g12 27 L12) := hb12
  clear l12 k12 hg12 N12 hb12 ho12 U12 KK10
  go_upto_region 6 with fail
  refine wp_region_any (by kernel_rfl) ?_
  change wpAny _ _ _ _ _ _ _ (World.drew _)
  refine wpAny_of_held (S := fun w' => w'.rangeAt g9 0 L9 ∧ w'.rangeAt g10 0 L10 ∧ w'.rangeAt g12 0 L12) _ _ _ _ ?_
  have k15 : Hid (Below X12.heap.size X12 X12.drew) := below_draws X12 1
  refine wpAnyH_take_at (i := 0) (v := .agg L9.toArray) rfl rfl (by kernel_rfl) (by kernel_rfl) (by kernel_rfl) (fun _ _ _ h => h) (yieldsIf_load_mid (by rfl) 27 (.tmp 5) rfl g9 0 rfl L9 _ (fun w h => h.1) Try.underlying27 rfl (by rw [F.len h9.out]; kernel_rfl)) ⟨((b13.out.below k15.out b13.out.lt).range 0 _ [] (by simp)), ((b14.out.below k15.out b14.out.lt).range 0 _ [] (by simp)), ((Q12.out.below k15.out Q12.out.lt).range 0 _ [] (by simp))⟩ ?_
  simp only [List.setIfInBounds_toArray, List.set_cons_zero, List.set_cons_succ]
  refine wpAnyH_take_at (i := 1) (v := .agg L10.toArray) rfl rfl (by kernel_rfl) (by kernel_rfl) (by kernel_rfl) (fun _ _ _ h => h) (yieldsIf_load_mid (by rfl) 27 (.tmp 6) rfl g10 0 rfl L10 _ (fun w h => h.2.1) Try.underlying27 rfl (by rw [F.len h10.out]; kernel_rfl)) ⟨((b13.out.below k15.out b13.out.lt).range 0 _ [] (by simp)), ((b14.out.below k15.out b14.out.lt).range 0 _ [] (by simp)), ((Q12.out.below k15.out Q12.out.lt).range 0 _ [] (by simp))⟩ ?_
  simp only [List.setIfInBounds_toArray, List.set_cons_zero, List.set_cons_succ]
  refine wpAnyH_take_at (i := 4) (v := .agg L10.toArray) rfl rfl (by kernel_rfl) (by kernel_rfl) (by kernel_rfl) (fun _ _ _ h => h) (yieldsIf_load_mid (by rfl) 27 (.tmp 6) rfl g10 0 rfl L10 _ (fun w h => h.2.1) Try.underlying27 rfl (by rw [F.len h10.out]; kernel_rfl)) ⟨((b13.out.below k15.out b13.out.lt).range 0 _ [] (by simp)), ((b14.out.below k15.out b14.out.lt).range 0 _ [] (by simp)), ((Q12.out.below k15.out Q12.out.lt).range 0 _ [] (by simp))⟩ ?_
  simp only [List.setIfInBounds_toArray, List.set_cons_zero, List.set_cons_succ]
  refine wpAnyH_take_at (i := 5) (v := .agg L9.toArray) rfl rfl (by kernel_rfl) (by kernel_rfl) (by kernel_rfl) (fun _ _ _ h => h) (yieldsIf_load_mid (by rfl) 27 (.tmp 5) rfl g9 0 rfl L9 _ (fun w h => h.1) Try.underlying27 rfl (by rw [F.len h9.out]; kernel_rfl)) ⟨((b13.out.below k15.out b13.out.lt).range 0 _ [] (by simp)), ((b14.out.below k15.out b14.out.lt).range 0 _ [] (by simp)), ((Q12.out.below k15.out Q12.out.lt).range 0 _ [] (by simp))⟩ ?_
  simp only [List.setIfInBounds_toArray, List.set_cons_zero, List.set_cons_succ]
  refine wpAnyH_ready (rs := [2]) (by kernel_rfl) (by simp) ?_
  refine AllReadyH.cons rfl (fun KC hK => ?_) AllReadyH.nil
  go_simp
  refine (F.add_at _ h9 h10 hr1).mono ?_
  rintro e v16 ⟨L16, rfl, l16, zc16⟩
  have hl16 := Lib.hid l16
  have k16 : Hid (Below X12.heap.size X12 v16) := k15.out.trans (zc16.mono k15.out.size)
  refine hK.out _ _ ⟨((b13.out.below k16.out b13.out.lt).range 0 _ [] (by simp)), ((b14.out.below k16.out b14.out.lt).range 0 _ [] (by simp)), ((Q12.out.below k16.out Q12.out.lt).range 0 _ [] (by simp))⟩ (fun _ => ?_)
  clear hK KC l16 zc16 k15
  obtain ⟨y17, hy17⟩ : ∃ y, Hid (M.le r1 32 = y) := ⟨M.le r1 32, rfl⟩
  refine wpAnyH_ready (rs := [3]) (by kernel_rfl) (by simp) ?_
  refine AllReadyH.cons rfl (fun KC hK => ?_) AllReadyH.nil
  go_simp
  refine (F.bytes_at _ hl16 hy17).mono ?_
  rintro e v18 ⟨s18, rfl, o18, zc18⟩
  have hi18 := Lib.hid o18.isB
  have k18 : Hid (Below X12.heap.size X12 v18) := k16.out.trans (zc18.mono k16.out.size)
  refine hK.out _ _ ⟨((b13.out.below k18.out b13.out.lt).range 0 _ [] (by simp)), ((b14.out.below k18.out b14.out.lt).range 0 _ [] (by simp)), ((Q12.out.below k18.out Q12.out.lt).range 0 _ [] (by simp))⟩ (fun _ => ?_)
  clear hK KC o18 zc18 k16
  have hr19 : Hid ((b + a) % M.Q = r1) := by rw [Hid, Nat.add_comm]; exact hr1.out
  refine wpAnyH_ready (rs := [6]) (by kernel_rfl) (by simp) ?_
  refine AllReadyH.cons rfl (fun KC hK => ?_) AllReadyH.nil
  go_simp
  refine (F.add_at _ h10 h9 hr19).mono ?_
  rintro e v20 ⟨L20, rfl, l20, zc20⟩
  have hl20 := Lib.hid l20
  have k20 : Hid (Below X12.heap.size X12 v20) := k18.out.trans (zc20.mono k18.out.size)
  have hq21 : Hid (IsB v20 s18 y17) := hi18.out.below zc20
  clear hi18
  refine hK.out _ _ ⟨((b13.out.below k20.out b13.out.lt).range 0 _ [] (by simp)), ((b14.out.below k20.out b14.out.lt).range 0 _ [] (by simp)), ((Q12.out.below k20.out Q12.out.lt).range 0 _ [] (by simp))⟩ (fun _ => ?_)
  clear hK KC l20 zc20 k18
  refine wpAnyH_ready (rs := [7]) (by kernel_rfl) (by simp) ?_
  refine AllReadyH.cons rfl (fun KC hK => ?_) AllReadyH.nil
  go_simp
  refine (F.bytes_at _ hl20 hy17).mono ?_
  rintro e v22 ⟨s22, rfl, o22, zc22⟩
  have hi22 := Lib.hid o22.isB
  have k22 : Hid (Below X12.heap.size X12 v22) := k20.out.trans (zc22.mono k20.out.size)
  have hq23 : Hid (IsB v22 s18 y17) := hq21.out.below zc22
  clear hq21
  refine hK.out _ _ ⟨((b13.out.below k22.out b13.out.lt).range 0 _ [] (by simp)), ((b14.out.below k22.out b14.out.lt).range 0 _ [] (by simp)), ((Q12.out.below k22.out Q12.out.lt).range 0 _ [] (by simp))⟩ (fun _ => ?_)
  clear hK KC o22 zc22 k20
  refine wpAnyH_ready (rs := [8]) (by kernel_rfl) (by simp) ?_
  refine AllReadyH.cons rfl (fun KC hK => ?_) AllReadyH.nil
  go_simp
  refine (equal_at _ hq23.out hi22.out).mono ?_
  rintro e v24 ⟨rfl, zc24⟩
  have k24 : Hid (Below X12.heap.size X12 v24) := k22.out.trans (zc24.mono k22.out.size)
  refine hK.out _ _ ⟨((b13.out.below k24.out b13.out.lt).range 0 _ [] (by simp)), ((b14.out.below k24.out b14.out.lt).range 0 _ [] (by simp)), ((Q12.out.below k24.out Q12.out.lt).range 0 _ [] (by simp))⟩ (fun _ => ?_)
  clear hK KC zc24 k22
  refine wpAnyH_take_at (i := 9) (v := .bool false) rfl rfl (by kernel_rfl) (by kernel_rfl) (by kernel_rfl) (fun _ _ _ h => h) (Or.inl ⟨by rfl, fun w hS => by go_simp⟩) ⟨((b13.out.below k24.out b13.out.lt).range 0 _ [] (by simp)), ((b14.out.below k24.out b14.out.lt).range 0 _ [] (by simp)), ((Q12.out.below k24.out Q12.out.lt).range 0 _ [] (by simp))⟩ ?_
  simp only [List.setIfInBounds_toArray, List.set_cons_zero, List.set_cons_succ]
  refine wpAnyH_take_at (i := 10) (v := .bool false) rfl rfl (by kernel_rfl) (by kernel_rfl) (by kernel_rfl) (fun _ _ _ h => h) (Or.inl ⟨by rfl, fun w hS => by go_simp⟩) ⟨((b13.out.below k24.out b13.out.lt).range 0 _ [] (by simp)), ((b14.out.below k24.out b14.out.lt).range 0 _ [] (by simp)), ((Q12.out.below k24.out Q12.out.lt).range 0 _ [] (by simp))⟩ ?_
  simp only [List.setIfInBounds_toArray, List.set_cons_zero, List.set_cons_succ]
  refine wpAnyH_take_at (i := 11) (v := .agg L9.toArray) rfl rfl (by kernel_rfl) (by kernel_rfl) (by kernel_rfl) (fun _ _ _ h => h) (yieldsIf_load_mid (by rfl) 27 (.tmp 5) rfl g9 0 rfl L9 _ (fun w h => h.1) Try.underlying27 rfl (by rw [F.len h9.out]; kernel_rfl)) ⟨((b13.out.below k24.out b13.out.lt).range 0 _ [] (by simp)), ((b14.out.below k24.out b14.out.lt).range 0 _ [] (by simp)), ((Q12.out.below k24.out Q12.out.lt).range 0 _ [] (by simp))⟩ ?_
  simp only [List.setIfInBounds_toArray, List.set_cons_zero, List.set_cons_succ]
  refine wpAnyH_take_at (i := 12) (v := .agg L10.toArray) rfl rfl (by kernel_rfl) (by kernel_rfl) (by kernel_rfl) (fun _ _ _ h => h) (yieldsIf_load_mid (by rfl) 27 (.tmp 6) rfl g10 0 rfl L10 _ (fun w h => h.2.1) Try.underlying27 rfl (by rw [F.len h10.out]; kernel_rfl)) ⟨((b13.out.below k24.out b13.out.lt).range 0 _ [] (by simp)), ((b14.out.below k24.out b14.out.lt).range 0 _ [] (by simp)), ((Q12.out.below k24.out Q12.out.lt).range 0 _ [] (by simp))⟩ ?_
  simp only [List.setIfInBounds_toArray, List.set_cons_zero, List.set_cons_succ]
  refine wpAnyH_take_at (i := 15) (v := .agg L10.toArray) rfl rfl (by kernel_rfl) (by kernel_rfl) (by kernel_rfl) (fun _ _ _ h => h) (yieldsIf_load_mid (by rfl) 27 (.tmp 6) rfl g10 0 rfl L10 _ (fun w h => h.2.1) Try.underlying27 rfl (by rw [F.len h10.out]; kernel_rfl)) ⟨((b13.out.below k24.out b13.out.lt).range 0 _ [] (by simp)), ((b14.out.below k24.out b14.out.lt).range 0 _ [] (by simp)), ((Q12.out.below k24.out Q12.out.lt).range 0 _ [] (by simp))⟩ ?_
  simp only [List.setIfInBounds_toArray, List.set_cons_zero, List.set_cons_succ]
  refine wpAnyH_take_at (i := 16) (v := .agg L9.toArray) rfl rfl (by kernel_rfl) (by kernel_rfl) (by kernel_rfl) (fun _ _ _ h => h) (yieldsIf_load_mid (by rfl) 27 (.tmp 5) rfl g9 0 rfl L9 _ (fun w h => h.1) Try.underlying27 rfl (by rw [F.len h9.out]; kernel_rfl)) ⟨((b13.out.below k24.out b13.out.lt).range 0 _ [] (by simp)), ((b14.out.below k24.out b14.out.lt).range 0 _ [] (by simp)), ((Q12.out.below k24.out Q12.out.lt).range 0 _ [] (by simp))⟩ ?_
  simp only [List.setIfInBounds_toArray, List.set_cons_zero, List.set_cons_succ]
  refine wpAnyH_ready (rs := [13]) (by kernel_rfl) (by simp) ?_
  refine AllReadyH.cons rfl (fun KC hK => ?_) AllReadyH.nil
  go_simp
  refine (F.mul_at _ h9 h10 hr2).mono ?_
  rintro e v25 ⟨L25, rfl, l25, zc25⟩
  have hl25 := Lib.hid l25
  have k25 : Hid (Below X12.heap.size X12 v25) := k24.out.trans (zc25.mono k24.out.size)
  refine hK.out _ _ ⟨((b13.out.below k25.out b13.out.lt).range 0 _ [] (by simp)), ((b14.out.below k25.out b14.out.lt).range 0 _ [] (by simp)), ((Q12.out.below k25.out Q12.out.lt).range 0 _ [] (by simp))⟩ (fun _ => ?_)
  clear hK KC l25 zc25 k24
  obtain ⟨y26, hy26⟩ : ∃ y, Hid (M.le r2 32 = y) := ⟨M.le r2 32, rfl⟩
  refine wpAnyH_ready (rs := [14]) (by kernel_rfl) (by simp) ?_
  refine AllReadyH.cons rfl (fun KC hK => ?_) AllReadyH.nil
  go_simp
  refine (F.bytes_at _ hl25 hy26).mono ?_
  rintro e v27 ⟨s27, rfl, o27, zc27⟩
  have hi27 := Lib.hid o27.isB
  have k27 : Hid (Below X12.heap.size X12 v27) := k25.out.trans (zc27.mono k25.out.size)
  refine hK.out _ _ ⟨((b13.out.below k27.out b13.out.lt).range 0 _ [] (by simp)), ((b14.out.below k27.out b14.out.lt).range 0 _ [] (by simp)), ((Q12.out.below k27.out Q12.out.lt).range 0 _ [] (by simp))⟩ (fun _ => ?_)
  clear hK KC o27 zc27 k25
  have hr28 : Hid (b * a % M.Q = r2) := by rw [Hid, Nat.mul_comm]; exact hr2.out
  refine wpAnyH_ready (rs := [17]) (by kernel_rfl) (by simp) ?_
  refine AllReadyH.cons rfl (fun KC hK => ?_) AllReadyH.nil
  go_simp
  refine (F.mul_at _ h10 h9 hr28).mono ?_
  rintro e v29 ⟨L29, rfl, l29, zc29⟩
  have hl29 := Lib.hid l29
  have k29 : Hid (Below X12.heap.size X12 v29) := k27.out.trans (zc29.mono k27.out.size)
  have hq30 : Hid (IsB v29 s27 y26) := hi27.out.below zc29
  clear hi27
  refine hK.out _ _ ⟨((b13.out.below k29.out b13.out.lt).range 0 _ [] (by simp)), ((b14.out.below k29.out b14.out.lt).range 0 _ [] (by simp)), ((Q12.out.below k29.out Q12.out.lt).range 0 _ [] (by simp))⟩ (fun _ => ?_)
  clear hK KC l29 zc29 k27
  refine wpAnyH_ready (rs := [18]) (by kernel_rfl) (by simp) ?_
  refine AllReadyH.cons rfl (fun KC hK => ?_) AllReadyH.nil
  go_simp
  refine (F.bytes_at _ hl29 hy26).mono ?_
  rintro e v31 ⟨s31, rfl, o31, zc31⟩
  have hi31 := Lib.hid o31.isB
  have k31 : Hid (Below X12.heap.size X12 v31) := k29.out.trans (zc31.mono k29.out.size)
  have hq32 : Hid (IsB v31 s27 y26) := hq30.out.below zc31
  clear hq30
  refine hK.out _ _ ⟨((b13.out.below k31.out b13.out.lt).range 0 _ [] (by simp)), ((b14.out.below k31.out b14.out.lt).range 0 _ [] (by simp)), ((Q12.out.below k31.out Q12.out.lt).range 0 _ [] (by simp))⟩ (fun _ => ?_)
  clear hK KC o31 zc31 k29
  refine wpAnyH_ready (rs := [19]) (by kernel_rfl) (by simp) ?_
  refine AllReadyH.cons rfl (fun KC hK => ?_) AllReadyH.nil
  go_simp
  refine (equal_at _ hq32.out hi31.out).mono ?_
  rintro e v33 ⟨rfl, zc33⟩
  have k33 : Hid (Below X12.heap.size X12 v33) := k31.out.trans (zc33.mono k31.out.size)
  refine hK.out _ _ ⟨((b13.out.below k33.out b13.out.lt).range 0 _ [] (by simp)), ((b14.out.below k33.out b14.out.lt).range 0 _ [] (by simp)), ((Q12.out.below k33.out Q12.out.lt).range 0 _ [] (by simp))⟩ (fun _ => ?_)
  clear hK KC zc33 k31
  refine wpAnyH_take_at (i := 20) (v := .bool false) rfl rfl (by kernel_rfl) (by kernel_rfl) (by kernel_rfl) (fun _ _ _ h => h) (Or.inl ⟨by rfl, fun w hS => by go_simp⟩) ⟨((b13.out.below k33.out b13.out.lt).range 0 _ [] (by simp)), ((b14.out.below k33.out b14.out.lt).range 0 _ [] (by simp)), ((Q12.out.below k33.out Q12.out.lt).range 0 _ [] (by simp))⟩ ?_
  simp only [List.setIfInBounds_toArray, List.set_cons_zero, List.set_cons_succ]
  refine wpAnyH_take_at (i := 21) (v := .bool false) rfl rfl (by kernel_rfl) (by kernel_rfl) (by kernel_rfl) (fun _ _ _ h => h) (Or.inl ⟨by rfl, fun w hS => by go_simp⟩) ⟨((b13.out.below k33.out b13.out.lt).range 0 _ [] (by simp)), ((b14.out.below k33.out b14.out.lt).range 0 _ [] (by simp)), ((Q12.out.below k33.out Q12.out.lt).range 0 _ [] (by simp))⟩ ?_
  simp only [List.setIfInBounds_toArray, List.set_cons_zero, List.set_cons_succ]
  refine wpAnyH_take_at (i := 22) (v := .bool false) rfl rfl (by kernel_rfl) (by kernel_rfl) (by kernel_rfl) (fun _ _ _ h => h) (Or.inl ⟨by rfl, fun w hS => by go_simp⟩) ⟨((b13.out.below k33.out b13.out.lt).range 0 _ [] (by simp)), ((b14.out.below k33.out b14.out.lt).range 0 _ [] (by simp)), ((Q12.out.below k33.out Q12.out.lt).range 0 _ [] (by simp))⟩ ?_
  simp only [List.setIfInBounds_toArray, List.set_cons_zero, List.set_cons_succ]
  refine wpAnyH_take_at (i := 23) (v := .agg L9.toArray) rfl rfl (by kernel_rfl) (by kernel_rfl) (by kernel_rfl) (fun _ _ _ h => h) (yieldsIf_load_mid (by rfl) 27 (.tmp 5) rfl g9 0 rfl L9 _ (fun w h => h.1) Try.underlying27 rfl (by rw [F.len h9.out]; kernel_rfl)) ⟨((b13.out.below k33.out b13.out.lt).range 0 _ [] (by simp)), ((b14.out.below k33.out b14.out.lt).range 0 _ [] (by simp)), ((Q12.out.below k33.out Q12.out.lt).range 0 _ [] (by simp))⟩ ?_
  simp only [List.setIfInBounds_toArray, List.set_cons_zero, List.set_cons_succ]
  refine wpAnyH_take_at (i := 24) (v := .agg L10.toArray) rfl rfl (by kernel_rfl) (by kernel_rfl) (by kernel_rfl) (fun _ _ _ h => h) (yieldsIf_load_mid (by rfl) 27 (.tmp 6) rfl g10 0 rfl L10 _ (fun w h => h.2.1) Try.underlying27 rfl (by rw [F.len h10.out]; kernel_rfl)) ⟨((b13.out.below k33.out b13.out.lt).range 0 _ [] (by simp)), ((b14.out.below k33.out b14.out.lt).range 0 _ [] (by simp)), ((Q12.out.below k33.out Q12.out.lt).range 0 _ [] (by simp))⟩ ?_
  simp only [List.setIfInBounds_toArray, List.set_cons_zero, List.set_cons_succ]
  refine wpAnyH_take_at (i := 26) (v := .agg L12.toArray) rfl rfl (by kernel_rfl) (by kernel_rfl) (by kernel_rfl) (fun _ _ _ h => h) (yieldsIf_load_mid (by rfl) 27 (.tmp 7) rfl g12 0 rfl L12 _ (fun w h => h.2.2) Try.underlying27 rfl (by rw [F.len h12.out]; kernel_rfl)) ⟨((b13.out.below k33.out b13.out.lt).range 0 _ [] (by simp)), ((b14.out.below k33.out b14.out.lt).range 0 _ [] (by simp)), ((Q12.out.below k33.out Q12.out.lt).range 0 _ [] (by simp))⟩ ?_
  simp only [List.setIfInBounds_toArray, List.set_cons_zero, List.set_cons_succ]
  refine wpAnyH_take_at (i := 29) (v := .agg L9.toArray) rfl rfl (by kernel_rfl) (by kernel_rfl) (by kernel_rfl) (fun _ _ _ h => h) (yieldsIf_load_mid (by rfl) 27 (.tmp 5) rfl g9 0 rfl L9 _ (fun w h => h.1) Try.underlying27 rfl (by rw [F.len h9.out]; kernel_rfl)) ⟨((b13.out.below k33.out b13.out.lt).range 0 _ [] (by simp)), ((b14.out.below k33.out b14.out.lt).range 0 _ [] (by simp)), ((Q12.out.below k33.out Q12.out.lt).range 0 _ [] (by simp))⟩ ?_
  simp only [List.setIfInBounds_toArray, List.set_cons_zero, List.set_cons_succ]
  refine wpAnyH_take_at (i := 30) (v := .agg L10.toArray) rfl rfl (by kernel_rfl) (by kernel_rfl) (by kernel_rfl) (fun _ _ _ h => h) (yieldsIf_load_mid (by rfl) 27 (.tmp 6) rfl g10 0 rfl L10 _ (fun w h => h.2.1) Try.underlying27 rfl (by rw [F.len h10.out]; kernel_rfl)) ⟨((b13.out.below k33.out b13.out.lt).range 0 _ [] (by simp)), ((b14.out.below k33.out b14.out.lt).range 0 _ [] (by simp)), ((Q12.out.below k33.out Q12.out.lt).range 0 _ [] (by simp))⟩ ?_
  simp only [List.setIfInBounds_toArray, List.set_cons_zero, List.set_cons_succ]
  refine wpAnyH_take_at (i := 31) (v := .agg L12.toArray) rfl rfl (by kernel_rfl) (by kernel_rfl) (by kernel_rfl) (fun _ _ _ h => h) (yieldsIf_load_mid (by rfl) 27 (.tmp 7) rfl g12 0 rfl L12 _ (fun w h => h.2.2) Try.underlying27 rfl (by rw [F.len h12.out]; kernel_rfl)) ⟨((b13.out.below k33.out b13.out.lt).range 0 _ [] (by simp)), ((b14.out.below k33.out b14.out.lt).range 0 _ [] (by simp)), ((Q12.out.below k33.out Q12.out.lt).range 0 _ [] (by simp))⟩ ?_
  simp only [List.setIfInBounds_toArray, List.set_cons_zero, List.set_cons_succ]
  refine wpAnyH_ready (rs := [25]) (by kernel_rfl) (by simp) ?_
  refine AllReadyH.cons rfl (fun KC hK => ?_) AllReadyH.nil
  go_simp
  refine (F.add_at _ h9 h10 hr1).mono ?_
  rintro e v34 ⟨L34, rfl, l34, zc34⟩
  have hl34 := Lib.hid l34
  have k34 : Hid (Below X12.heap.size X12 v34) := k33.out.trans (zc34.mono k33.out.size)
  refine hK.out _ _ ⟨((b13.out.below k34.out b13.out.lt).range 0 _ [] (by simp)), ((b14.out.below k34.out b14.out.lt).range 0 _ [] (by simp)), ((Q12.out.below k34.out Q12.out.lt).range 0 _ [] (by simp))⟩ (fun _ => ?_)
  clear hK KC l34 zc34 k33
  refine wpAnyH_ready (rs := [27]) (by kernel_rfl) (by simp) ?_
  refine AllReadyH.cons rfl (fun KC hK => ?_) AllReadyH.nil
  go_simp
  refine (F.add_at _ hl34 h12 hr3).mono ?_
  rintro e v35 ⟨L35, rfl, l35, zc35⟩
  have hl35 := Lib.hid l35
  have k35 : Hid (Below X12.heap.size X12 v35) := k34.out.trans (zc35.mono k34.out.size)
  refine hK.out _ _ ⟨((b13.out.below k35.out b13.out.lt).range 0 _ [] (by simp)), ((b14.out.below k35.out b14.out.lt).range 0 _ [] (by simp)), ((Q12.out.below k35.out Q12.out.lt).range 0 _ [] (by simp))⟩ (fun _ => ?_)
  clear hK KC l35 zc35 k34
  obtain ⟨y36, hy36⟩ : ∃ y, Hid (M.le r3 32 = y) := ⟨M.le r3 32, rfl⟩
  refine wpAnyH_ready (rs := [28]) (by kernel_rfl) (by simp) ?_
  refine AllReadyH.cons rfl (fun KC hK => ?_) AllReadyH.nil
  go_simp
  refine (F.bytes_at _ hl35 hy36).mono ?_
  rintro e v37 ⟨s37, rfl, o37, zc37⟩
  have hi37 := Lib.hid o37.isB
  have k37 : Hid (Below X12.heap.size X12 v37) := k35.out.trans (zc37.mono k35.out.size)
  refine hK.out _ _ ⟨((b13.out.below k37.out b13.out.lt).range 0 _ [] (by simp)), ((b14.out.below k37.out b14.out.lt).range 0 _ [] (by simp)), ((Q12.out.below k37.out Q12.out.lt).range 0 _ [] (by simp))⟩ (fun _ => ?_)
  clear hK KC o37 zc37 k35
  refine wpAnyH_ready (rs := [32]) (by kernel_rfl) (by simp) ?_
  refine AllReadyH.cons rfl (fun KC hK => ?_) AllReadyH.nil
  go_simp
  refine (F.add_at _ h10 h12 hr4).mono ?_
  rintro e v38 ⟨L38, rfl, l38, zc38⟩
  have hl38 := Lib.hid l38
  have k38 : Hid (Below X12.heap.size X12 v38) := k37.out.trans (zc38.mono k37.out.size)
  have hq39 : Hid (IsB v38 s37 y36) := hi37.out.below zc38
  clear hi37
  refine hK.out _ _ ⟨((b13.out.below k38.out b13.out.lt).range 0 _ [] (by simp)), ((b14.out.below k38.out b14.out.lt).range 0 _ [] (by simp)), ((Q12.out.below k38.out Q12.out.lt).range 0 _ [] (by simp))⟩ (fun _ => ?_)
  clear hK KC l38 zc38 k37
  have hr40 : Hid ((a + r4) % M.Q = r3) := by rw [Hid, ← hr4.out, ← hr3.out, ← hr1.out]; exact M.add_assocQ a b c
  refine wpAnyH_ready (rs := [33]) (by kernel_rfl) (by simp) ?_
  refine AllReadyH.cons rfl (fun KC hK => ?_) AllReadyH.nil
  go_simp
  refine (F.add_at _ h9 hl38 hr40).mono ?_
  rintro e v41 ⟨L41, rfl, l41, zc41⟩
  have hl41 := Lib.hid l41
  have k41 : Hid (Below X12.heap.size X12 v41) := k38.out.trans (zc41.mono k38.out.size)
  have hq42 : Hid (IsB v41 s37 y36) := hq39.out.below zc41
  clear hq39
  refine hK.out _ _ ⟨((b13.out.below k41.out b13.out.lt).range 0 _ [] (by simp)), ((b14.out.below k41.out b14.out.lt).range 0 _ [] (by simp)), ((Q12.out.below k41.out Q12.out.lt).range 0 _ [] (by simp))⟩ (fun _ => ?_)
  clear hK KC l41 zc41 k38
  refine wpAnyH_ready (rs := [34]) (by kernel_rfl) (by simp) ?_
  refine AllReadyH.cons rfl (fun KC hK => ?_) AllReadyH.nil
  go_simp
  refine (F.bytes_at _ hl41 hy36).mono ?_
  rintro e v43 ⟨s43, rfl, o43, zc43⟩
  have hi43 := Lib.hid o43.isB
  have k43 : Hid (Below X12.heap.size X12 v43) := k41.out.trans (zc43.mono k41.out.size)
  have hq44 : Hid (IsB v43 s37 y36) := hq42.out.below zc43
  clear hq42
  refine hK.out _ _ ⟨((b13.out.below k43.out b13.out.lt).range 0 _ [] (by simp)), ((b14.out.below k43.out b14.out.lt).range 0 _ [] (by simp)), ((Q12.out.below k43.out Q12.out.lt).range 0 _ [] (by simp))⟩ (fun _ => ?_)
  clear hK KC o43 zc43 k41
  refine wpAnyH_ready (rs := [35]) (by kernel_rfl) (by simp) ?_
  refine AllReadyH.cons rfl (fun KC hK => ?_) AllReadyH.nil
  go_simp
  refine (equal_at _ hq44.out hi43.out).mono ?_
  rintro e v45 ⟨rfl, zc45⟩
  have k45 : Hid (Below X12.heap.size X12 v45) := k43.out.trans (zc45.mono k43.out.size)
  refine hK.out _ _ ⟨((b13.out.below k45.out b13.out.lt).range 0 _ [] (by simp)), ((b14.out.below k45.out b14.out.lt).range 0 _ [] (by simp)), ((Q12.out.below k45.out Q12.out.lt).range 0 _ [] (by simp))⟩ (fun _ => ?_)
  clear hK KC zc45 k43
  refine wpAnyH_take_at (i := 36) (v := .bool false) rfl rfl (by kernel_rfl) (by kernel_rfl) (by kernel_rfl) (fun _ _ _ h => h) (Or.inl ⟨by rfl, fun w hS => by go_simp⟩) ⟨((b13.out.below k45.out b13.out.lt).range 0 _ [] (by simp)), ((b14.out.below k45.out b14.out.lt).range 0 _ [] (by simp)), ((Q12.out.below k45.out Q12.out.lt).range 0 _ [] (by simp))⟩ ?_
  simp only [List.setIfInBounds_toArray, List.set_cons_zero, List.set_cons_succ]
  refine wpAnyH_take_at (i := 37) (v := .bool false) rfl rfl (by kernel_rfl) (by kernel_rfl) (by kernel_rfl) (fun _ _ _ h => h) (Or.inl ⟨by rfl, fun w hS => by go_simp⟩) ⟨((b13.out.below k45.out b13.out.lt).range 0 _ [] (by simp)), ((b14.out.below k45.out b14.out.lt).range 0 _ [] (by simp)), ((Q12.out.below k45.out Q12.out.lt).range 0 _ [] (by simp))⟩ ?_
  simp only [List.setIfInBounds_toArray, List.set_cons_zero, List.set_cons_succ]
  refine wpAnyH_take_at (i := 38) (v := .bool false) rfl rfl (by kernel_rfl) (by kernel_rfl) (by kernel_rfl) (fun _ _ _ h => h) (Or.inl ⟨by rfl, fun w hS => by go_simp⟩) ⟨((b13.out.below k45.out b13.out.lt).range 0 _ [] (by simp)), ((b14.out.below k45.out b14.out.lt).range 0 _ [] (by simp)), ((Q12.out.below k45.out Q12.out.lt).range 0 _ [] (by simp))⟩ ?_
  simp only [List.setIfInBounds_toArray, List.set_cons_zero, List.set_cons_succ]
  refine wpAnyH_take_at (i := 39) (v := .agg L9.toArray) rfl rfl (by kernel_rfl) (by kernel_rfl) (by kernel_rfl) (fun _ _ _ h => h) (yieldsIf_load_mid (by rfl) 27 (.tmp 5) rfl g9 0 rfl L9 _ (fun w h => h.1) Try.underlying27 rfl (by rw [F.len h9.out]; kernel_rfl)) ⟨((b13.out.below k45.out b13.out.lt).range 0 _ [] (by simp)), ((b14.out.below k45.out b14.out.lt).range 0 _ [] (by simp)), ((Q12.out.below k45.out Q12.out.lt).range 0 _ [] (by simp))⟩ ?_
  simp only [List.setIfInBounds_toArray, List.set_cons_zero, List.set_cons_succ]
  refine wpAnyH_take_at (i := 40) (v := .agg L10.toArray) rfl rfl (by kernel_rfl) (by kernel_rfl) (by kernel_rfl) (fun _ _ _ h => h) (yieldsIf_load_mid (by rfl) 27 (.tmp 6) rfl g10 0 rfl L10 _ (fun w h => h.2.1) Try.underlying27 rfl (by rw [F.len h10.out]; kernel_rfl)) ⟨((b13.out.below k45.out b13.out.lt).range 0 _ [] (by simp)), ((b14.out.below k45.out b14.out.lt).range 0 _ [] (by simp)), ((Q12.out.below k45.out Q12.out.lt).range 0 _ [] (by simp))⟩ ?_
  simp only [List.setIfInBounds_toArray, List.set_cons_zero, List.set_cons_succ]
  refine wpAnyH_take_at (i := 42) (v := .agg L12.toArray) rfl rfl (by kernel_rfl) (by kernel_rfl) (by kernel_rfl) (fun _ _ _ h => h) (yieldsIf_load_mid (by rfl) 27 (.tmp 7) rfl g12 0 rfl L12 _ (fun w h => h.2.2) Try.underlying27 rfl (by rw [F.len h12.out]; kernel_rfl)) ⟨((b13.out.below k45.out b13.out.lt).range 0 _ [] (by simp)), ((b14.out.below k45.out b14.out.lt).range 0 _ [] (by simp)), ((Q12.out.below k45.out Q12.out.lt).range 0 _ [] (by simp))⟩ ?_
  simp only [List.setIfInBounds_toArray, List.set_cons_zero, List.set_cons_succ]
  refine wpAnyH_take_at (i := 45) (v := .agg L9.toArray) rfl rfl (by kernel_rfl) (by kernel_rfl) (by kernel_rfl) (fun _ _ _ h => h) (yieldsIf_load_mid (by rfl) 27 (.tmp 5) rfl g9 0 rfl L9 _ (fun w h => h.1) Try.underlying27 rfl (by rw [F.len h9.out]; kernel_rfl)) ⟨((b13.out.below k45.out b13.out.lt).range 0 _ [] (by simp)), ((b14.out.below k45.out b14.out.lt).range 0 _ [] (by simp)), ((Q12.out.below k45.out Q12.out.lt).range 0 _ [] (by simp))⟩ ?_
  simp only [List.setIfInBounds_toArray, List.set_cons_zero, List.set_cons_succ]
  refine wpAnyH_take_at (i := 46) (v := .agg L10.toArray) rfl rfl (by kernel_rfl) (by kernel_rfl) (by kernel_rfl) (fun _ _ _ h => h) (yieldsIf_load_mid (by rfl) 27 (.tmp 6) rfl g10 0 rfl L10 _ (fun w h => h.2.1) Try.underlying27 rfl (by rw [F.len h10.out]; kernel_rfl)) ⟨((b13.out.below k45.out b13.out.lt).range 0 _ [] (by simp)), ((b14.out.below k45.out b14.out.lt).range 0 _ [] (by simp)), ((Q12.out.below k45.out Q12.out.lt).range 0 _ [] (by simp))⟩ ?_
  simp only [List.setIfInBounds_toArray, List.set_cons_zero, List.set_cons_succ]
  refine wpAnyH_take_at (i := 47) (v := .agg L12.toArray) rfl rfl (by kernel_rfl) (by kernel_rfl) (by kernel_rfl) (fun _ _ _ h => h) (yieldsIf_load_mid (by rfl) 27 (.tmp 7) rfl g12 0 rfl L12 _ (fun w h => h.2.2) Try.underlying27 rfl (by rw [F.len h12.out]; kernel_rfl)) ⟨((b13.out.below k45.out b13.out.lt).range 0 _ [] (by simp)), ((b14.out.below k45.out b14.out.lt).range 0 _ [] (by simp)), ((Q12.out.below k45.out Q12.out.lt).range 0 _ [] (by simp))⟩ ?_
  simp only [List.setIfInBounds_toArray, List.set_cons_zero, List.set_cons_succ]
  refine wpAnyH_ready (rs := [41]) (by kernel_rfl) (by simp) ?_
  refine AllReadyH.cons rfl (fun KC hK => ?_) AllReadyH.nil
  go_simp
  refine (F.mul_at _ h9 h10 hr2).mono ?_
  rintro e v46 ⟨L46, rfl, l46, zc46⟩
  have hl46 := Lib.hid l46
  have k46 : Hid (Below X12.heap.size X12 v46) := k45.out.trans (zc46.mono k45.out.size)
  refine hK.out _ _ ⟨((b13.out.below k46.out b13.out.lt).range 0 _ [] (by simp)), ((b14.out.below k46.out b14.out.lt).range 0 _ [] (by simp)), ((Q12.out.below k46.out Q12.out.lt).range 0 _ [] (by simp))⟩ (fun _ => ?_)
  clear hK KC l46 zc46 k45
  refine wpAnyH_ready (rs := [43]) (by kernel_rfl) (by simp) ?_
  refine AllReadyH.cons rfl (fun KC hK => ?_) AllReadyH.nil
  go_simp
  refine (F.mul_at _ hl46 h12 hr5).mono ?_
  rintro e v47 ⟨L47, rfl, l47, zc47⟩
  have hl47 := Lib.hid l47
  have k47 : Hid (Below X12.heap.size X12 v47) := k46.out.trans (zc47.mono k46.out.size)
  refine hK.out _ _ ⟨((b13.out.below k47.out b13.out.lt).range 0 _ [] (by simp)), ((b14.out.below k47.out b14.out.lt).range 0 _ [] (by simp)), ((Q12.out.below k47.out Q12.out.lt).range 0 _ [] (by simp))⟩ (fun _ => ?_)
  clear hK KC l47 zc47 k46
  obtain ⟨y48, hy48⟩ : ∃ y, Hid (M.le r5 32 = y) := ⟨M.le r5 32, rfl⟩
  refine wpAnyH_ready (rs := [44]) (by kernel_rfl) (by simp) ?_
  refine AllReadyH.cons rfl (fun KC hK => ?_) AllReadyH.nil
  go_simp
  refine (F.bytes_at _ hl47 hy48).mono ?_
  rintro e v49 ⟨s49, rfl, o49, zc49⟩
  have hi49 := Lib.hid o49.isB
  have k49 : Hid (Below X12.heap.size X12 v49) := k47.out.trans (zc49.mono k47.out.size)
  refine hK.out _ _ ⟨((b13.out.below k49.out b13.out.lt).range 0 _ [] (by simp)), ((b14.out.below k49.out b14.out.lt).range 0 _ [] (by simp)), ((Q12.out.below k49.out Q12.out.lt).range 0 _ [] (by simp))⟩ (fun _ => ?_)
  clear hK KC o49 zc49 k47
  refine wpAnyH_ready (rs := [48]) (by kernel_rfl) (by simp) ?_
  refine AllReadyH.cons rfl (fun KC hK => ?_) AllReadyH.nil
  go_simp
  refine (F.mul_at _ h10 h12 hr6).mono ?_
  rintro e v50 ⟨L50, rfl, l50, zc50⟩
  have hl50 := Lib.hid l50
  have k50 : Hid (Below X12.heap.size X12 v50) := k49.out.trans (zc50.mono k49.out.size)
  have hq51 : Hid (IsB v50 s49 y48) := hi49.out.below zc50
  clear hi49
  refine hK.out _ _ ⟨((b13.out.below k50.out b13.out.lt).range 0 _ [] (by simp)), ((b14.out.below k50.out b14.out.lt).range 0 _ [] (by simp)), ((Q12.out.below k50.out Q12.out.lt).range 0 _ [] (by simp))⟩ (fun _ => ?_)
  clear hK KC l50 zc50 k49
  have hr52 : Hid (a * r6 % M.Q = r5) := by rw [Hid, ← hr6.out, ← hr5.out, ← hr2.out]; exact M.mul_assocQ a b c
  refine wpAnyH_ready (rs := [49]) (by kernel_rfl) (by simp) ?_
  refine AllReadyH.cons rfl (fun KC hK => ?_) AllReadyH.nil
  go_simp
  refine (F.mul_at _ h9 hl50 hr52).mono ?_
  rintro e v53 ⟨L53, rfl, l53, zc53⟩
  have hl53 := Lib.hid l53
  have k53 : Hid (Below X12.heap.size X12 v53) := k50.out.trans (zc53.mono k50.out.size)
  have hq54 : Hid (IsB v53 s49 y48) := hq51.out.below zc53
  clear hq51
  refine hK.out _ _ ⟨((b13.out.below k53.out b13.out.lt).range 0 _ [] (by simp)), ((b14.out.below k53.out b14.out.lt).range 0 _ [] (by simp)), ((Q12.out.below k53.out Q12.out.lt).range 0 _ [] (by simp))⟩ (fun _ => ?_)
  clear hK KC l53 zc53 k50
  refine wpAnyH_ready (rs := [50]) (by kernel_rfl) (by simp) ?_
  refine AllReadyH.cons rfl (fun KC hK => ?_) AllReadyH.nil
  go_simp
  refine (F.bytes_at _ hl53 hy48).mono ?_
  rintro e v55 ⟨s55, rfl, o55, zc55⟩
  have hi55 := Lib.hid o55.isB
  have k55 : Hid (Below X12.heap.size X12 v55) := k53.out.trans (zc55.mono k53.out.size)
  have hq56 : Hid (IsB v55 s49 y48) := hq54.out.below zc55
  clear hq54
  refine hK.out _ _ ⟨((b13.out.below k55.out b13.out.lt).range 0 _ [] (by simp)), ((b14.out.below k55.out b14.out.lt).range 0 _ [] (by simp)), ((Q12.out.below k55.out Q12.out.lt).range 0 _ [] (by simp))⟩ (fun _ => ?_)
  clear hK KC o55 zc55 k53
  refine wpAnyH_ready (rs := [51]) (by kernel_rfl) (by simp) ?_
  refine AllReadyH.cons rfl (fun KC hK => ?_) AllReadyH.nil
  go_simp
  refine (equal_at _ hq56.out hi55.out).mono ?_
  rintro e v57 ⟨rfl, zc57⟩
  have k57 : Hid (Below X12.heap.size X12 v57) := k55.out.trans (zc57.mono k55.out.size)
  refine hK.out _ _ ⟨((b13.out.below k57.out b13.out.lt).range 0 _ [] (by simp)), ((b14.out.below k57.out b14.out.lt).range 0 _ [] (by simp)), ((Q12.out.below k57.out Q12.out.lt).range 0 _ [] (by simp))⟩ (fun _ => ?_)
  clear hK KC zc57 k55
  refine wpAnyH_take_at (i := 52) (v := .bool false) rfl rfl (by kernel_rfl) (by kernel_rfl) (by kernel_rfl) (fun _ _ _ h => h) (Or.inl ⟨by rfl, fun w hS => by go_simp⟩) ⟨((b13.out.below k57.out b13.out.lt).range 0 _ [] (by simp)), ((b14.out.below k57.out b14.out.lt).range 0 _ [] (by simp)), ((Q12.out.below k57.out Q12.out.lt).range 0 _ [] (by simp))⟩ ?_
  simp only [List.setIfInBounds_toArray, List.set_cons_zero, List.set_cons_succ]
  refine wpAnyH_take_at (i := 53) (v := .bool false) rfl rfl (by kernel_rfl) (by kernel_rfl) (by kernel_rfl) (fun _ _ _ h => h) (Or.inl ⟨by rfl, fun w hS => by go_simp⟩) ⟨((b13.out.below k57.out b13.out.lt).range 0 _ [] (by simp)), ((b14.out.below k57.out b14.out.lt).range 0 _ [] (by simp)), ((Q12.out.below k57.out Q12.out.lt).range 0 _ [] (by simp))⟩ ?_
  simp only [List.setIfInBounds_toArray, List.set_cons_zero, List.set_cons_succ]
  refine wpAnyH_done (by kernel_rfl) ?_ _
  have KK58 : Hid (Below w.heap.size w v57) := KK12.out.trans (k57.out.mono KK12.out.size)
  have b59 : Hid (Blk v57 g9 27 L9) := b13.out.below k57.out b13.out.lt
  have b60 : Hid (Blk v57 g10 27 L10) := b14.out.below k57.out b14.out.lt
  have b61 : Hid (Blk v57 g12 27 L12) := Q12.out.below k57.out Q12.out.lt
  go_upto_region 8 with fail
  refine wp_region_any (by kernel_rfl) ?_
  change wpAny _ _ _ _ _ _ _ (World.drew _)
  refine wpAny_of_held (S := fun w' => w'.rangeAt g9 0 L9 ∧ w'.rangeAt g10 0 L10 ∧ w'.rangeAt g12 0 L12) _ _ _ _ ?_
  have k62 : Hid (Below v57.heap.size v57 v57.drew) := below_draws v57 1
  refine wpAnyH_take_at (i := 0) (v := .agg L9.toArray) rfl rfl (by kernel_rfl) (by kernel_rfl) (by kernel_rfl) (fun _ _ _ h => h) (yieldsIf_load_mid (by rfl) 27 (.tmp 5) rfl g9 0 rfl L9 _ (fun w h => h.1) Try.underlying27 rfl (by rw [F.len h9.out]; kernel_rfl)) ⟨((b59.out.below k62.out b59.out.lt).range 0 _ [] (by simp)), ((b60.out.below k62.out b60.out.lt).range 0 _ [] (by simp)), ((b61.out.below k62.out b61.out.lt).range 0 _ [] (by simp))⟩ ?_
  simp only [List.setIfInBounds_toArray, List.set_cons_zero, List.set_cons_succ]
  refine wpAnyH_take_at (i := 1) (v := .agg L10.toArray) rfl rfl (by kernel_rfl) (by kernel_rfl) (by kernel_rfl) (fun _ _ _ h => h) (yieldsIf_load_mid (by rfl) 27 (.tmp 6) rfl g10 0 rfl L10 _ (fun w h => h.2.1) Try.underlying27 rfl (by rw [F.len h10.out]; kernel_rfl)) ⟨((b59.out.below k62.out b59.out.lt).range 0 _ [] (by simp)), ((b60.out.below k62.out b60.out.lt).range 0 _ [] (by simp)), ((b61.out.below k62.out b61.out.lt).range 0 _ [] (by simp))⟩ ?_
  simp only [List.setIfInBounds_toArray, List.set_cons_zero, List.set_cons_succ]
  refine wpAnyH_take_at (i := 2) (v := .agg L12.toArray) rfl rfl (by kernel_rfl) (by kernel_rfl) (by kernel_rfl) (fun _ _ _ h => h) (yieldsIf_load_mid (by rfl) 27 (.tmp 7) rfl g12 0 rfl L12 _ (fun w h => h.2.2) Try.underlying27 rfl (by rw [F.len h12.out]; kernel_rfl)) ⟨((b59.out.below k62.out b59.out.lt).range 0 _ [] (by simp)), ((b60.out.below k62.out b60.out.lt).range 0 _ [] (by simp)), ((b61.out.below k62.out b61.out.lt).range 0 _ [] (by simp))⟩ ?_
  simp only [List.setIfInBounds_toArray, List.set_cons_zero, List.set_cons_succ]
  refine wpAnyH_take_at (i := 6) (v := .agg L9.toArray) rfl rfl (by kernel_rfl) (by kernel_rfl) (by kernel_rfl) (fun _ _ _ h => h) (yieldsIf_load_mid (by rfl) 27 (.tmp 5) rfl g9 0 rfl L9 _ (fun w h => h.1) Try.underlying27 rfl (by rw [F.len h9.out]; kernel_rfl)) ⟨((b59.out.below k62.out b59.out.lt).range 0 _ [] (by simp)), ((b60.out.below k62.out b60.out.lt).range 0 _ [] (by simp)), ((b61.out.below k62.out b61.out.lt).range 0 _ [] (by simp))⟩ ?_
  simp only [List.setIfInBounds_toArray, List.set_cons_zero, List.set_cons_succ]
  refine wpAnyH_take_at (i := 7) (v := .agg L10.toArray) rfl rfl (by kernel_rfl) (by kernel_rfl) (by kernel_rfl) (fun _ _ _ h => h) (yieldsIf_load_mid (by rfl) 27 (.tmp 6) rfl g10 0 rfl L10 _ (fun w h => h.2.1) Try.underlying27 rfl (by rw [F.len h10.out]; kernel_rfl)) ⟨((b59.out.below k62.out b59.out.lt).range 0 _ [] (by simp)), ((b60.out.below k62.out b60.out.lt).range 0 _ [] (by simp)), ((b61.out.below k62.out b61.out.lt).range 0 _ [] (by simp))⟩ ?_
  simp only [List.setIfInBounds_toArray, List.set_cons_zero, List.set_cons_succ]
  refine wpAnyH_take_at (i := 9) (v := .agg L9.toArray) rfl rfl (by kernel_rfl) (by kernel_rfl) (by kernel_rfl) (fun _ _ _ h => h) (yieldsIf_load_mid (by rfl) 27 (.tmp 5) rfl g9 0 rfl L9 _ (fun w h => h.1) Try.underlying27 rfl (by rw [F.len h9.out]; kernel_rfl)) ⟨((b59.out.below k62.out b59.out.lt).range 0 _ [] (by simp)), ((b60.out.below k62.out b60.out.lt).range 0 _ [] (by simp)), ((b61.out.below k62.out b61.out.lt).range 0 _ [] (by simp))⟩ ?_
  simp only [List.setIfInBounds_toArray, List.set_cons_zero, List.set_cons_succ]
  refine wpAnyH_take_at (i := 10) (v := .agg L12.toArray) rfl rfl (by kernel_rfl) (by kernel_rfl) (by kernel_rfl) (fun _ _ _ h => h) (yieldsIf_load_mid (by rfl) 27 (.tmp 7) rfl g12 0 rfl L12 _ (fun w h => h.2.2) Try.underlying27 rfl (by rw [F.len h12.out]; kernel_rfl)) ⟨((b59.out.below k62.out b59.out.lt).range 0 _ [] (by simp)), ((b60.out.below k62.out b60.out.lt).range 0 _ [] (by simp)), ((b61.out.below k62.out b61.out.lt).range 0 _ [] (by simp))⟩ ?_
  simp only [List.setIfInBounds_toArray, List.set_cons_zero, List.set_cons_succ]
  refine wpAnyH_ready (rs := [3]) (by kernel_rfl) (by simp) ?_
  refine AllReadyH.cons rfl (fun KC hK => ?_) AllReadyH.nil
  go_simp
  refine (F.add_at _ h10 h12 hr4).mono ?_
  rintro e v63 ⟨L63, rfl, l63, zc63⟩
  have hl63 := Lib.hid l63
  have k63 : Hid (Below v57.heap.size v57 v63) := k62.out.trans (zc63.mono k62.out.size)
  refine hK.out _ _ ⟨((b59.out.below k63.out b59.out.lt).range 0 _ [] (by simp)), ((b60.out.below k63.out b60.out.lt).range 0 _ [] (by simp)), ((b61.out.below k63.out b61.out.lt).range 0 _ [] (by simp))⟩ (fun _ => ?_)
  clear hK KC l63 zc63 k62
  refine wpAnyH_ready (rs := [4]) (by kernel_rfl) (by simp) ?_
  refine AllReadyH.cons rfl (fun KC hK => ?_) AllReadyH.nil
  go_simp
  refine (F.mul_at _ h9 hl63 hr7).mono ?_
  rintro e v64 ⟨L64, rfl, l64, zc64⟩
  have hl64 := Lib.hid l64
  have k64 : Hid (Below v57.heap.size v57 v64) := k63.out.trans (zc64.mono k63.out.size)
  refine hK.out _ _ ⟨((b59.out.below k64.out b59.out.lt).range 0 _ [] (by simp)), ((b60.out.below k64.out b60.out.lt).range 0 _ [] (by simp)), ((b61.out.below k64.out b61.out.lt).range 0 _ [] (by simp))⟩ (fun _ => ?_)
  clear hK KC l64 zc64 k63
  obtain ⟨y65, hy65⟩ : ∃ y, Hid (M.le r7 32 = y) := ⟨M.le r7 32, rfl⟩
  refine wpAnyH_ready (rs := [5]) (by kernel_rfl) (by simp) ?_
  refine AllReadyH.cons rfl (fun KC hK => ?_) AllReadyH.nil
  go_simp
  refine (F.bytes_at _ hl64 hy65).mono ?_
  rintro e v66 ⟨s66, rfl, o66, zc66⟩
  have hi66 := Lib.hid o66.isB
  have k66 : Hid (Below v57.heap.size v57 v66) := k64.out.trans (zc66.mono k64.out.size)
  refine hK.out _ _ ⟨((b59.out.below k66.out b59.out.lt).range 0 _ [] (by simp)), ((b60.out.below k66.out b60.out.lt).range 0 _ [] (by simp)), ((b61.out.below k66.out b61.out.lt).range 0 _ [] (by simp))⟩ (fun _ => ?_)
  clear hK KC o66 zc66 k64
  refine wpAnyH_ready (rs := [8]) (by kernel_rfl) (by simp) ?_
  refine AllReadyH.cons rfl (fun KC hK => ?_) AllReadyH.nil
  go_simp
  refine (F.mul_at _ h9 h10 hr2).mono ?_
  rintro e v67 ⟨L67, rfl, l67, zc67⟩
  have hl67 := Lib.hid l67
  have k67 : Hid (Below v57.heap.size v57 v67) := k66.out.trans (zc67.mono k66.out.size)
  have hq68 : Hid (IsB v67 s66 y65) := hi66.out.below zc67
  clear hi66
  refine hK.out _ _ ⟨((b59.out.below k67.out b59.out.lt).range 0 _ [] (by simp)), ((b60.out.below k67.out b60.out.lt).range 0 _ [] (by simp)), ((b61.out.below k67.out b61.out.lt).range 0 _ [] (by simp))⟩ (fun _ => ?_)
  clear hK KC l67 zc67 k66
  refine wpAnyH_ready (rs := [11]) (by kernel_rfl) (by simp) ?_
  refine AllReadyH.cons rfl (fun KC hK => ?_) AllReadyH.nil
  go_simp
  refine (F.mul_at _ h9 h12 hr8).mono ?_
  rintro e v69 ⟨L69, rfl, l69, zc69⟩
  have hl69 := Lib.hid l69
  have k69 : Hid (Below v57.heap.size v57 v69) := k67.out.trans (zc69.mono k67.out.size)
  have hq70 : Hid (IsB v69 s66 y65) := hq68.out.below zc69
  clear hq68
  refine hK.out _ _ ⟨((b59.out.below k69.out b59.out.lt).range 0 _ [] (by simp)), ((b60.out.below k69.out b60.out.lt).range 0 _ [] (by simp)), ((b61.out.below k69.out b61.out.lt).range 0 _ [] (by simp))⟩ (fun _ => ?_)
  clear hK KC l69 zc69 k67
  have hr71 : Hid ((r2 + r8) % M.Q = r7) := by rw [Hid, ← hr8.out, ← hr2.out, ← hr7.out, ← hr4.out]; exact M.distQ a b c
  refine wpAnyH_ready (rs := [12]) (by kernel_rfl) (by simp) ?_
  refine AllReadyH.cons rfl (fun KC hK => ?_) AllReadyH.nil
  go_simp
  refine (F.add_at _ hl67 hl69 hr71).mono ?_
  rintro e v72 ⟨L72, rfl, l72, zc72⟩
  have hl72 := Lib.hid l72
  have k72 : Hid (Below v57.heap.size v57 v72) := k69.out.trans (zc72.mono k69.out.size)
  have hq73 : Hid (IsB v72 s66 y65) := hq70.out.below zc72
  clear hq70
  refine hK.out _ _ ⟨((b59.out.below k72.out b59.out.lt).range 0 _ [] (by simp)), ((b60.out.below k72.out b60.out.lt).range 0 _ [] (by simp)), ((b61.out.below k72.out b61.out.lt).range 0 _ [] (by simp))⟩ (fun _ => ?_)
  clear hK KC l72 zc72 k69
  refine wpAnyH_ready (rs := [13]) (by kernel_rfl) (by simp) ?_
  refine AllReadyH.cons rfl (fun KC hK => ?_) AllReadyH.nil
  go_simp
  refine (F.bytes_at _ hl72 hy65).mono ?_
  rintro e v74 ⟨s74, rfl, o74, zc74⟩
  have hi74 := Lib.hid o74.isB
  have k74 : Hid (Below v57.heap.size v57 v74) := k72.out.trans (zc74.mono k72.out.size)
  have hq75 : Hid (IsB v74 s66 y65) := hq73.out.below zc74
  clear hq73
  refine hK.out _ _ ⟨((b59.out.below k74.out b59.out.lt).range 0 _ [] (by simp)), ((b60.out.below k74.out b60.out.lt).range 0 _ [] (by simp)), ((b61.out.below k74.out b61.out.lt).range 0 _ [] (by simp))⟩ (fun _ => ?_)
  clear hK KC o74 zc74 k72
  refine wpAnyH_ready (rs := [14]) (by kernel_rfl) (by simp) ?_
  refine AllReadyH.cons rfl (fun KC hK => ?_) AllReadyH.nil
  go_simp
  refine (equal_at _ hq75.out hi74.out).mono ?_
  rintro e v76 ⟨rfl, zc76⟩
  have k76 : Hid (Below v57.heap.size v57 v76) := k74.out.trans (zc76.mono k74.out.size)
  refine hK.out _ _ ⟨((b59.out.below k76.out b59.out.lt).range 0 _ [] (by simp)), ((b60.out.below k76.out b60.out.lt).range 0 _ [] (by simp)), ((b61.out.below k76.out b61.out.lt).range 0 _ [] (by simp))⟩ (fun _ => ?_)
  clear hK KC zc76 k74
  refine wpAnyH_take_at (i := 15) (v := .bool false) rfl rfl (by kernel_rfl) (by kernel_rfl) (by kernel_rfl) (fun _ _ _ h => h) (Or.inl ⟨by rfl, fun w hS => by go_simp⟩) ⟨((b59.out.below k76.out b59.out.lt).range 0 _ [] (by simp)), ((b60.out.below k76.out b60.out.lt).range 0 _ [] (by simp)), ((b61.out.below k76.out b61.out.lt).range 0 _ [] (by simp))⟩ ?_
  simp only [List.setIfInBounds_toArray, List.set_cons_zero, List.set_cons_succ]
  refine wpAnyH_take_at (i := 16) (v := .bool false) rfl rfl (by kernel_rfl) (by kernel_rfl) (by kernel_rfl) (fun _ _ _ h => h) (Or.inl ⟨by rfl, fun w hS => by go_simp⟩) ⟨((b59.out.below k76.out b59.out.lt).range 0 _ [] (by simp)), ((b60.out.below k76.out b60.out.lt).range 0 _ [] (by simp)), ((b61.out.below k76.out b61.out.lt).range 0 _ [] (by simp))⟩ ?_
  simp only [List.setIfInBounds_toArray, List.set_cons_zero, List.set_cons_succ]
  refine wpAnyH_take_at (i := 17) (v := .agg L9.toArray) rfl rfl (by kernel_rfl) (by kernel_rfl) (by kernel_rfl) (fun _ _ _ h => h) (yieldsIf_load_mid (by rfl) 27 (.tmp 5) rfl g9 0 rfl L9 _ (fun w h => h.1) Try.underlying27 rfl (by rw [F.len h9.out]; kernel_rfl)) ⟨((b59.out.below k76.out b59.out.lt).range 0 _ [] (by simp)), ((b60.out.below k76.out b60.out.lt).range 0 _ [] (by simp)), ((b61.out.below k76.out b61.out.lt).range 0 _ [] (by simp))⟩ ?_
  simp only [List.setIfInBounds_toArray, List.set_cons_zero, List.set_cons_succ]
  refine wpAnyH_take_at (i := 18) (v := .agg L10.toArray) rfl rfl (by kernel_rfl) (by kernel_rfl) (by kernel_rfl) (fun _ _ _ h => h) (yieldsIf_load_mid (by rfl) 27 (.tmp 6) rfl g10 0 rfl L10 _ (fun w h => h.2.1) Try.underlying27 rfl (by rw [F.len h10.out]; kernel_rfl)) ⟨((b59.out.below k76.out b59.out.lt).range 0 _ [] (by simp)), ((b60.out.below k76.out b60.out.lt).range 0 _ [] (by simp)), ((b61.out.below k76.out b61.out.lt).range 0 _ [] (by simp))⟩ ?_
  simp only [List.setIfInBounds_toArray, List.set_cons_zero, List.set_cons_succ]
  refine wpAnyH_take_at (i := 20) (v := .agg L10.toArray) rfl rfl (by kernel_rfl) (by kernel_rfl) (by kernel_rfl) (fun _ _ _ h => h) (yieldsIf_load_mid (by rfl) 27 (.tmp 6) rfl g10 0 rfl L10 _ (fun w h => h.2.1) Try.underlying27 rfl (by rw [F.len h10.out]; kernel_rfl)) ⟨((b59.out.below k76.out b59.out.lt).range 0 _ [] (by simp)), ((b60.out.below k76.out b60.out.lt).range 0 _ [] (by simp)), ((b61.out.below k76.out b61.out.lt).range 0 _ [] (by simp))⟩ ?_
  simp only [List.setIfInBounds_toArray, List.set_cons_zero, List.set_cons_succ]
  refine wpAnyH_take_at (i := 23) (v := .agg L9.toArray) rfl rfl (by kernel_rfl) (by kernel_rfl) (by kernel_rfl) (fun _ _ _ h => h) (yieldsIf_load_mid (by rfl) 27 (.tmp 5) rfl g9 0 rfl L9 _ (fun w h => h.1) Try.underlying27 rfl (by rw [F.len h9.out]; kernel_rfl)) ⟨((b59.out.below k76.out b59.out.lt).range 0 _ [] (by simp)), ((b60.out.below k76.out b60.out.lt).range 0 _ [] (by simp)), ((b61.out.below k76.out b61.out.lt).range 0 _ [] (by simp))⟩ ?_
  simp only [List.setIfInBounds_toArray, List.set_cons_zero, List.set_cons_succ]
  refine wpAnyH_ready (rs := [19]) (by kernel_rfl) (by simp) ?_
  refine AllReadyH.cons rfl (fun KC hK => ?_) AllReadyH.nil
  go_simp
  refine (F.add_at _ h9 h10 hr1).mono ?_
  rintro e v77 ⟨L77, rfl, l77, zc77⟩
  have hl77 := Lib.hid l77
  have k77 : Hid (Below v57.heap.size v57 v77) := k76.out.trans (zc77.mono k76.out.size)
  refine hK.out _ _ ⟨((b59.out.below k77.out b59.out.lt).range 0 _ [] (by simp)), ((b60.out.below k77.out b60.out.lt).range 0 _ [] (by simp)), ((b61.out.below k77.out b61.out.lt).range 0 _ [] (by simp))⟩ (fun _ => ?_)
  clear hK KC l77 zc77 k76
  have hr78 : Hid ((r1 + (M.Q - b)) % M.Q = a) := by rw [Hid, ← hr1.out]; exact M.add_subQ lta.out ltb.out
  refine wpAnyH_ready (rs := [21]) (by kernel_rfl) (by simp) ?_
  refine AllReadyH.cons rfl (fun KC hK => ?_) AllReadyH.nil
  go_simp
  refine (F.sub_at _ hl77 h10 hr78).mono ?_
  rintro e v79 ⟨L79, rfl, l79, zc79⟩
  have hl79 := Lib.hid l79
  have k79 : Hid (Below v57.heap.size v57 v79) := k77.out.trans (zc79.mono k77.out.size)
  refine hK.out _ _ ⟨((b59.out.below k79.out b59.out.lt).range 0 _ [] (by simp)), ((b60.out.below k79.out b60.out.lt).range 0 _ [] (by simp)), ((b61.out.below k79.out b61.out.lt).range 0 _ [] (by simp))⟩ (fun _ => ?_)
  clear hK KC l79 zc79 k77
  obtain ⟨y80, hy80⟩ : ∃ y, Hid (M.le a 32 = y) := ⟨M.le a 32, rfl⟩
  refine wpAnyH_ready (rs := [22]) (by kernel_rfl) (by simp) ?_
  refine AllReadyH.cons rfl (fun KC hK => ?_) AllReadyH.nil
  go_simp
  refine (F.bytes_at _ hl79 hy80).mono ?_
  rintro e v81 ⟨s81, rfl, o81, zc81⟩
  have hi81 := Lib.hid o81.isB
  have k81 : Hid (Below v57.heap.size v57 v81) := k79.out.trans (zc81.mono k79.out.size)
  refine hK.out _ _ ⟨((b59.out.below k81.out b59.out.lt).range 0 _ [] (by simp)), ((b60.out.below k81.out b60.out.lt).range 0 _ [] (by simp)), ((b61.out.below k81.out b61.out.lt).range 0 _ [] (by simp))⟩ (fun _ => ?_)
  clear hK KC o81 zc81 k79
  refine wpAnyH_ready (rs := [24]) (by kernel_rfl) (by simp) ?_
  refine AllReadyH.cons rfl (fun KC hK => ?_) AllReadyH.nil
  go_simp
  refine (F.bytes_at _ h9 hy80).mono ?_
  rintro e v82 ⟨s82, rfl, o82, zc82⟩
  have hi82 := Lib.hid o82.isB
  have k82 : Hid (Below v57.heap.size v57 v82) := k81.out.trans (zc82.mono k81.out.size)
  have hq83 : Hid (IsB v82 s81 y80) := hi81.out.below zc82
  clear hi81
  refine hK.out _ _ ⟨((b59.out.below k82.out b59.out.lt).range 0 _ [] (by simp)), ((b60.out.below k82.out b60.out.lt).range 0 _ [] (by simp)), ((b61.out.below k82.out b61.out.lt).range 0 _ [] (by simp))⟩ (fun _ => ?_)
  clear hK KC o82 zc82 k81
  refine wpAnyH_ready (rs := [25]) (by kernel_rfl) (by simp) ?_
  refine AllReadyH.cons rfl (fun KC hK => ?_) AllReadyH.nil
  go_simp
  refine (equal_at _ hq83.out hi82.out).mono ?_
  rintro e v84 ⟨rfl, zc84⟩
  have k84 : Hid (Below v57.heap.size v57 v84) := k82.out.trans (zc84.mono k82.out.size)
  refine hK.out _ _ ⟨((b59.out.below k84.out b59.out.lt).range 0 _ [] (by simp)), ((b60.out.below k84.out b60.out.lt).range 0 _ [] (by simp)), ((b61.out.below k84.out b61.out.lt).range 0 _ [] (by simp))⟩ (fun _ => ?_)
  clear hK KC zc84 k82
  refine wpAnyH_take_at (i := 26) (v := .bool false) rfl rfl (by kernel_rfl) (by kernel_rfl) (by kernel_rfl) (fun _ _ _ h => h) (Or.inl ⟨by rfl, fun w hS => by go_simp⟩) ⟨((b59.out.below k84.out b59.out.lt).range 0 _ [] (by simp)), ((b60.out.below k84.out b60.out.lt).range 0 _ [] (by simp)), ((b61.out.below k84.out b61.out.lt).range 0 _ [] (by simp))⟩ ?_
  simp only [List.setIfInBounds_toArray, List.set_cons_zero, List.set_cons_succ]
  refine wpAnyH_take_at (i := 27) (v := .bool false) rfl rfl (by kernel_rfl) (by kernel_rfl) (by kernel_rfl) (fun _ _ _ h => h) (Or.inl ⟨by rfl, fun w hS => by go_simp⟩) ⟨((b59.out.below k84.out b59.out.lt).range 0 _ [] (by simp)), ((b60.out.below k84.out b60.out.lt).range 0 _ [] (by simp)), ((b61.out.below k84.out b61.out.lt).range 0 _ [] (by simp))⟩ ?_
  simp only [List.setIfInBounds_toArray, List.set_cons_zero, List.set_cons_succ]
  refine wpAnyH_done (by kernel_rfl) ?_ _
  have KK85 : Hid (Below w.heap.size w v84) := KK58.out.trans (k84.out.mono KK58.out.size)
  have b86 : Hid (Blk v84 g9 27 L9) := b59.out.below k84.out b59.out.lt
  have b87 : Hid (Blk v84 g10 27 L10) := b60.out.below k84.out b60.out.lt
  have b88 : Hid (Blk v84 g12 27 L12) := b61.out.below k84.out b61.out.lt
  by_cases hb1 : bit % 2 = 1
  · skip
    have H1 := Lib.hid hb1
    have hm : (bit : Int) % 2 = 1 := by omega
    have hm' : (bit : Int).tmod 2 = 1 := by rw [Int.tmod_eq_emod_of_nonneg (by omega)]; exact hm
    clear hb1
    go_wp2_with (first | (refine wpList_load_el rfl (.tmp 5) rfl g9 rfl L9 b86.out (F.len h9.out) ?_) | (refine wpList_load_el rfl (.tmp 6) rfl g10 rfl L10 b87.out (F.len h10.out) ?_))
    refine (F.swap_ bit L9 L10 a b _ HB.out h9.out h10.out).mono ?_
    rintro e w89 ⟨K89, L89, rfl, p89, q89, k89⟩
    rw [if_pos H1.out] at p89 q89
    have hp89 := Lib.hid p89
    have hq89 := Lib.hid q89
    obtain ⟨g89, hg89⟩ : ∃ v, v = w89.heap.size := ⟨_, rfl⟩
    have HN89 : Hid (g9 < g89 ∧ g10 < g89 ∧ g12 < g89 ∧ w.heap.size ≤ g89) := by
      have h1 := k89.size
      have h2 := KK85.out.size
      exact ⟨(by have := b86.out.lt; omega), (by have := b87.out.lt; omega), (by have := b88.out.lt; omega), by omega⟩
    have N89 : Blk ((w89.alloc (.cells z5.toArray 27)).alloc (.cells z5.toArray 27)) g89 27 z5 := (Blk.newAt _ _ _ _ _ hg89 rfl).alloc _
    have O89 : Blk ((w89.alloc (.cells z5.toArray 27)).alloc (.cells z5.toArray 27)) (g89 + 1) 27 z5 := Blk.newAt _ _ _ _ _ (by rw [hg89]; simp) rfl
    go_upto_region 11 with (first | (rw [← z5_arr, ← hg89]; refine wpList_store_el rfl rfl (.tmp 8) (.tmp 110) rfl g89 rfl K89 z5 rfl N89 z5_len (F.len hp89.out) (F.one hp89.out) ?_; intro X89 hb89 ho89) | (refine wpList_store_el rfl rfl (.tmp 9) (.tmp 111) rfl (g89 + 1) rfl L89 z5 rfl (O89.grown ho89 (by intro e; injection e with e; omega)) z5_len (F.len hq89.out) (F.one hq89.out) ?_; intro Y89 hc89 hd89))
    have U89 : Below v84.heap.size v84 Y89 := by
      have h1 := k89.size
      have h2 : Below v84.heap.size v84 ((w89.alloc (.cells z5.toArray 27)).alloc (.cells z5.toArray 27)) := (k89.alloc h1 _).alloc (by simp; omega) _
      have h3 : Below v84.heap.size v84 X89 := h2.trans (ho89.below h2.size (by omega))
      exact h3.trans (hd89.below h3.size (by omega))
    have KK89 : Hid (Below w.heap.size w Y89) := KK85.out.trans (U89.mono KK85.out.size)
    have b90 : Hid (Blk Y89 g9 27 L9) := b86.out.below U89 b86.out.lt
    clear b86
    have b91 : Hid (Blk Y89 g10 27 L10) := b87.out.below U89 b87.out.lt
    clear b87
    have b92 : Hid (Blk Y89 g12 27 L12) := b88.out.below U89 b88.out.lt
    clear b88
    have Q89 : Hid (Blk Y89 g89 27 K89) := (show Blk X89 g89 27 K89 from hb89).grown hd89 (by intro e; injection e with e; omega)
    have R89 : Hid (Blk Y89 (g89 + 1) 27 L89) := hc89
    clear p89 q89 k89 hg89 N89 O89 hb89 ho89 hc89 hd89 U89 KK85
    go_upto_region 13 with (first | (refine wpList_load_el rfl (.tmp 9) rfl (g89 + 1) rfl L89 R89.out (F.len hq89.out) ?_) | (refine wpList_load_el rfl (.tmp 8) rfl g89 rfl K89 Q89.out (F.len hp89.out) ?_) | (refine wpList_store_el rfl rfl (.tmp 8) (.tmp 115) rfl g89 rfl L89 K89 rfl Q89.out (F.len hp89.out) (F.len hq89.out) (F.one hq89.out) ?_; intro P8 hb8 ho8) | (refine wpList_store_el rfl rfl (.tmp 9) (.tmp 116) rfl (g89 + 1) rfl K89 L89 rfl (R89.out.grown ho8 (by intro e; injection e with e; omega)) (F.len hq89.out) (F.len hp89.out) (F.one hp89.out) ?_; intro P9 hb9 ho9))
    have V8 : Hid (Blk P9 g89 27 L89) := (show Blk P8 g89 27 L89 from hb8).grown ho9 (by intro e; injection e with e; omega)
    have V9 : Hid (Blk P9 (g89 + 1) 27 K89) := hb9
    have V5 : Hid (Blk P9 g9 27 L9) := (b90.out.grown ho8 (by have := HN89.out; intro e; injection e with e; omega)).grown ho9 (by have := HN89.out; intro e; injection e with e; omega)
    have V6 : Hid (Blk P9 g10 27 L10) := (b91.out.grown ho8 (by have := HN89.out; intro e; injection e with e; omega)).grown ho9 (by have := HN89.out; intro e; injection e with e; omega)
    have V7 : Hid (Blk P9 g12 27 L12) := (b92.out.grown ho8 (by have := HN89.out; intro e; injection e with e; omega)).grown ho9 (by have := HN89.out; intro e; injection e with e; omega)
    have KP : Hid (Below w.heap.size w P9) := by
      have h1 := KK89.out.trans (ho8.below KK89.out.size (by have := HN89.out; omega))
      exact h1.trans (ho9.below h1.size (by have := HN89.out; omega))
    clear hb8 ho8 hb9 ho9 KK89
    go_wp2_with (first | (refine wpList_load_el rfl (.tmp 8) rfl g89 rfl L89 V8.out (F.len hq89.out) ?_) | (refine wpList_load_el rfl (.tmp 9) rfl (g89 + 1) rfl K89 V9.out (F.len hp89.out) ?_))
    refine (F.swap_ 0 L89 K89 a b _ (by decide) hq89.out hp89.out).mono ?_
    rintro e w93 ⟨K93, L93, rfl, p93, q93, k93⟩
    rw [if_neg (show ¬ 0 % 2 = 1 by decide)] at p93 q93
    have hp93 := Lib.hid p93
    have hq93 := Lib.hid q93
    obtain ⟨g93, hg93⟩ : ∃ v, v = w93.heap.size := ⟨_, rfl⟩
    have HN93 : Hid (g9 < g93 ∧ g10 < g93 ∧ g12 < g93 ∧ g89 < g93 ∧ (g89 + 1) < g93 ∧ w.heap.size ≤ g93) := by
      have h1 := k93.size
      have h2 := KP.out.size
      exact ⟨(by have := V5.out.lt; omega), (by have := V6.out.lt; omega), (by have := V7.out.lt; omega), (by have := V8.out.lt; omega), (by have := V9.out.lt; omega), by omega⟩
    have N93 : Blk ((w93.alloc (.cells z5.toArray 27)).alloc (.cells z5.toArray 27)) g93 27 z5 := (Blk.newAt _ _ _ _ _ hg93 rfl).alloc _
    have O93 : Blk ((w93.alloc (.cells z5.toArray 27)).alloc (.cells z5.toArray 27)) (g93 + 1) 27 z5 := Blk.newAt _ _ _ _ _ (by rw [hg93]; simp) rfl
    go_upto_region 14 with (first | (rw [← z5_arr, ← hg93]; refine wpList_store_el rfl rfl (.tmp 10) (.tmp 121) rfl g93 rfl K93 z5 rfl N93 z5_len (F.len hp93.out) (F.one hp93.out) ?_; intro X93 hb93 ho93) | (refine wpList_store_el rfl rfl (.tmp 11) (.tmp 122) rfl (g93 + 1) rfl L93 z5 rfl (O93.grown ho93 (by intro e; injection e with e; omega)) z5_len (F.len hq93.out) (F.one hq93.out) ?_; intro Y93 hc93 hd93))
    have U93 : Below P9.heap.size P9 Y93 := by
      have h1 := k93.size
      have h2 : Below P9.heap.size P9 ((w93.alloc (.cells z5.toArray 27)).alloc (.cells z5.toArray 27)) := (k93.alloc h1 _).alloc (by simp; omega) _
      have h3 : Below P9.heap.size P9 X93 := h2.trans (ho93.below h2.size (by omega))
      exact h3.trans (hd93.below h3.size (by omega))
    have KK93 : Hid (Below w.heap.size w Y93) := KP.out.trans (U93.mono KP.out.size)
    have b94 : Hid (Blk Y93 g9 27 L9) := V5.out.below U93 V5.out.lt
    clear V5
    have b95 : Hid (Blk Y93 g10 27 L10) := V6.out.below U93 V6.out.lt
    clear V6
    have b96 : Hid (Blk Y93 g12 27 L12) := V7.out.below U93 V7.out.lt
    clear V7
    have b97 : Hid (Blk Y93 g89 27 L89) := V8.out.below U93 V8.out.lt
    clear V8
    have b98 : Hid (Blk Y93 (g89 + 1) 27 K89) := V9.out.below U93 V9.out.lt
    clear V9
    have Q93 : Hid (Blk Y93 g93 27 K93) := (show Blk X93 g93 27 K93 from hb93).grown hd93 (by intro e; injection e with e; omega)
    have R93 : Hid (Blk Y93 (g93 + 1) 27 L93) := hc93
    clear p93 q93 k93 hg93 N93 O93 hb93 ho93 hc93 hd93 U93 KP
    go_upto_region 14 with fail
    refine wp_region_any (by kernel_rfl) ?_
    change wpAny _ _ _ _ _ _ _ (World.drew _)
    refine wpAny_of_held (S := fun w' => w'.rangeAt g89 0 L89 ∧ w'.rangeAt g9 0 L9 ∧ w'.rangeAt (g89 + 1) 0 K89 ∧ w'.rangeAt g10 0 L10 ∧ w'.rangeAt g93 0 K93 ∧ w'.rangeAt (g93 + 1) 0 L93) _ _ _ _ ?_
    have k99 : Hid (Below Y93.heap.size Y93 Y93.drew) := below_draws Y93 1
    refine wpAnyH_take_at (i := 0) (v := .agg L89.toArray) rfl rfl (by kernel_rfl) (by kernel_rfl) (by kernel_rfl) (fun _ _ _ h => h) (yieldsIf_load_mid (by rfl) 27 (.tmp 8) rfl g89 0 rfl L89 _ (fun w h => h.1) Try.underlying27 rfl (by rw [F.len hq89.out]; kernel_rfl)) ⟨((b97.out.below k99.out b97.out.lt).range 0 _ [] (by simp)), ((b94.out.below k99.out b94.out.lt).range 0 _ [] (by simp)), ((b98.out.below k99.out b98.out.lt).range 0 _ [] (by simp)), ((b95.out.below k99.out b95.out.lt).range 0 _ [] (by simp)), ((Q93.out.below k99.out Q93.out.lt).range 0 _ [] (by simp)), ((R93.out.below k99.out R93.out.lt).range 0 _ [] (by simp))⟩ ?_
    simp only [List.setIfInBounds_toArray, List.set_cons_zero, List.set_cons_succ]
    refine wpAnyH_take_at (i := 2) (v := .agg L9.toArray) rfl rfl (by kernel_rfl) (by kernel_rfl) (by kernel_rfl) (fun _ _ _ h => h) (yieldsIf_load_mid (by rfl) 27 (.tmp 5) rfl g9 0 rfl L9 _ (fun w h => h.2.1) Try.underlying27 rfl (by rw [F.len h9.out]; kernel_rfl)) ⟨((b97.out.below k99.out b97.out.lt).range 0 _ [] (by simp)), ((b94.out.below k99.out b94.out.lt).range 0 _ [] (by simp)), ((b98.out.below k99.out b98.out.lt).range 0 _ [] (by simp)), ((b95.out.below k99.out b95.out.lt).range 0 _ [] (by simp)), ((Q93.out.below k99.out Q93.out.lt).range 0 _ [] (by simp)), ((R93.out.below k99.out R93.out.lt).range 0 _ [] (by simp))⟩ ?_
    simp only [List.setIfInBounds_toArray, List.set_cons_zero, List.set_cons_succ]
    refine wpAnyH_ready (rs := [1]) (by kernel_rfl) (by simp) ?_
    refine AllReadyH.cons rfl (fun KC hK => ?_) AllReadyH.nil
    go_simp
    refine (F.bytes_at _ hq89 hy80).mono ?_
    rintro e v100 ⟨s100, rfl, o100, zc100⟩
    have hi100 := Lib.hid o100.isB
    have k100 : Hid (Below Y93.heap.size Y93 v100) := k99.out.trans (zc100.mono k99.out.size)
    refine hK.out _ _ ⟨((b97.out.below k100.out b97.out.lt).range 0 _ [] (by simp)), ((b94.out.below k100.out b94.out.lt).range 0 _ [] (by simp)), ((b98.out.below k100.out b98.out.lt).range 0 _ [] (by simp)), ((b95.out.below k100.out b95.out.lt).range 0 _ [] (by simp)), ((Q93.out.below k100.out Q93.out.lt).range 0 _ [] (by simp)), ((R93.out.below k100.out R93.out.lt).range 0 _ [] (by simp))⟩ (fun _ => ?_)
    clear hK KC o100 zc100 k99
    refine wpAnyH_ready (rs := [3]) (by kernel_rfl) (by simp) ?_
    refine AllReadyH.cons rfl (fun KC hK => ?_) AllReadyH.nil
    go_simp
    refine (F.bytes_at _ h9 hy80).mono ?_
    rintro e v101 ⟨s101, rfl, o101, zc101⟩
    have hi101 := Lib.hid o101.isB
    have k101 : Hid (Below Y93.heap.size Y93 v101) := k100.out.trans (zc101.mono k100.out.size)
    have hq102 : Hid (IsB v101 s100 y80) := hi100.out.below zc101
    clear hi100
    refine hK.out _ _ ⟨((b97.out.below k101.out b97.out.lt).range 0 _ [] (by simp)), ((b94.out.below k101.out b94.out.lt).range 0 _ [] (by simp)), ((b98.out.below k101.out b98.out.lt).range 0 _ [] (by simp)), ((b95.out.below k101.out b95.out.lt).range 0 _ [] (by simp)), ((Q93.out.below k101.out Q93.out.lt).range 0 _ [] (by simp)), ((R93.out.below k101.out R93.out.lt).range 0 _ [] (by simp))⟩ (fun _ => ?_)
    clear hK KC o101 zc101 k100
    refine wpAnyH_ready (rs := [4]) (by kernel_rfl) (by simp) ?_
    refine AllReadyH.cons rfl (fun KC hK => ?_) AllReadyH.nil
    go_simp
    refine (equal_at _ hq102.out hi101.out).mono ?_
    rintro e v103 ⟨rfl, zc103⟩
    have k103 : Hid (Below Y93.heap.size Y93 v103) := k101.out.trans (zc103.mono k101.out.size)
    refine hK.out _ _ ⟨((b97.out.below k103.out b97.out.lt).range 0 _ [] (by simp)), ((b94.out.below k103.out b94.out.lt).range 0 _ [] (by simp)), ((b98.out.below k103.out b98.out.lt).range 0 _ [] (by simp)), ((b95.out.below k103.out b95.out.lt).range 0 _ [] (by simp)), ((Q93.out.below k103.out Q93.out.lt).range 0 _ [] (by simp)), ((R93.out.below k103.out R93.out.lt).range 0 _ [] (by simp))⟩ (fun _ => ?_)
    clear hK KC zc103 k101
    refine wpAnyH_take_at (i := 5) (v := .bool true) rfl rfl (by kernel_rfl) (by kernel_rfl) (by kernel_rfl) (fun _ _ _ h => h) (Or.inl ⟨by rfl, fun w hS => by go_simp⟩) ⟨((b97.out.below k103.out b97.out.lt).range 0 _ [] (by simp)), ((b94.out.below k103.out b94.out.lt).range 0 _ [] (by simp)), ((b98.out.below k103.out b98.out.lt).range 0 _ [] (by simp)), ((b95.out.below k103.out b95.out.lt).range 0 _ [] (by simp)), ((Q93.out.below k103.out Q93.out.lt).range 0 _ [] (by simp)), ((R93.out.below k103.out R93.out.lt).range 0 _ [] (by simp))⟩ ?_
    simp only [List.setIfInBounds_toArray, List.set_cons_zero, List.set_cons_succ]
    refine wpAnyH_take_at (i := 6) (v := .agg K89.toArray) rfl rfl (by kernel_rfl) (by kernel_rfl) (by kernel_rfl) (fun _ _ _ h => h) (yieldsIf_load_mid (by rfl) 27 (.tmp 9) rfl (g89 + 1) 0 rfl K89 _ (fun w h => h.2.2.1) Try.underlying27 rfl (by rw [F.len hp89.out]; kernel_rfl)) ⟨((b97.out.below k103.out b97.out.lt).range 0 _ [] (by simp)), ((b94.out.below k103.out b94.out.lt).range 0 _ [] (by simp)), ((b98.out.below k103.out b98.out.lt).range 0 _ [] (by simp)), ((b95.out.below k103.out b95.out.lt).range 0 _ [] (by simp)), ((Q93.out.below k103.out Q93.out.lt).range 0 _ [] (by simp)), ((R93.out.below k103.out R93.out.lt).range 0 _ [] (by simp))⟩ ?_
    simp only [List.setIfInBounds_toArray, List.set_cons_zero, List.set_cons_succ]
    refine wpAnyH_take_at (i := 8) (v := .agg L10.toArray) rfl rfl (by kernel_rfl) (by kernel_rfl) (by kernel_rfl) (fun _ _ _ h => h) (yieldsIf_load_mid (by rfl) 27 (.tmp 6) rfl g10 0 rfl L10 _ (fun w h => h.2.2.2.1) Try.underlying27 rfl (by rw [F.len h10.out]; kernel_rfl)) ⟨((b97.out.below k103.out b97.out.lt).range 0 _ [] (by simp)), ((b94.out.below k103.out b94.out.lt).range 0 _ [] (by simp)), ((b98.out.below k103.out b98.out.lt).range 0 _ [] (by simp)), ((b95.out.below k103.out b95.out.lt).range 0 _ [] (by simp)), ((Q93.out.below k103.out Q93.out.lt).range 0 _ [] (by simp)), ((R93.out.below k103.out R93.out.lt).range 0 _ [] (by simp))⟩ ?_
    simp only [List.setIfInBounds_toArray, List.set_cons_zero, List.set_cons_succ]
    obtain ⟨y104, hy104⟩ : ∃ y, Hid (M.le b 32 = y) := ⟨M.le b 32, rfl⟩
    refine wpAnyH_ready (rs := [7]) (by kernel_rfl) (by simp) ?_
    refine AllReadyH.cons rfl (fun KC hK => ?_) AllReadyH.nil
    go_simp
    refine (F.bytes_at _ hp89 hy104).mono ?_
    rintro e v105 ⟨s105, rfl, o105, zc105⟩
    have hi105 := Lib.hid o105.isB
    have k105 : Hid (Below Y93.heap.size Y93 v105) := k103.out.trans (zc105.mono k103.out.size)
    refine hK.out _ _ ⟨((b97.out.below k105.out b97.out.lt).range 0 _ [] (by simp)), ((b94.out.below k105.out b94.out.lt).range 0 _ [] (by simp)), ((b98.out.below k105.out b98.out.lt).range 0 _ [] (by simp)), ((b95.out.below k105.out b95.out.lt).range 0 _ [] (by simp)), ((Q93.out.below k105.out Q93.out.lt).range 0 _ [] (by simp)), ((R93.out.below k105.out R93.out.lt).range 0 _ [] (by simp))⟩ (fun _ => ?_)
    clear hK KC o105 zc105 k103
    refine wpAnyH_ready (rs := [9]) (by kernel_rfl) (by simp) ?_
    refine AllReadyH.cons rfl (fun KC hK => ?_) AllReadyH.nil
    go_simp
    refine (F.bytes_at _ h10 hy104).mono ?_
    rintro e v106 ⟨s106, rfl, o106, zc106⟩
    have hi106 := Lib.hid o106.isB
    have k106 : Hid (Below Y93.heap.size Y93 v106) := k105.out.trans (zc106.mono k105.out.size)
    have hq107 : Hid (IsB v106 s105 y104) := hi105.out.below zc106
    clear hi105
    refine hK.out _ _ ⟨((b97.out.below k106.out b97.out.lt).range 0 _ [] (by simp)), ((b94.out.below k106.out b94.out.lt).range 0 _ [] (by simp)), ((b98.out.below k106.out b98.out.lt).range 0 _ [] (by simp)), ((b95.out.below k106.out b95.out.lt).range 0 _ [] (by simp)), ((Q93.out.below k106.out Q93.out.lt).range 0 _ [] (by simp)), ((R93.out.below k106.out R93.out.lt).range 0 _ [] (by simp))⟩ (fun _ => ?_)
    clear hK KC o106 zc106 k105
    refine wpAnyH_ready (rs := [10]) (by kernel_rfl) (by simp) ?_
    refine AllReadyH.cons rfl (fun KC hK => ?_) AllReadyH.nil
    go_simp
    refine (equal_at _ hq107.out hi106.out).mono ?_
    rintro e v108 ⟨rfl, zc108⟩
    have k108 : Hid (Below Y93.heap.size Y93 v108) := k106.out.trans (zc108.mono k106.out.size)
    refine hK.out _ _ ⟨((b97.out.below k108.out b97.out.lt).range 0 _ [] (by simp)), ((b94.out.below k108.out b94.out.lt).range 0 _ [] (by simp)), ((b98.out.below k108.out b98.out.lt).range 0 _ [] (by simp)), ((b95.out.below k108.out b95.out.lt).range 0 _ [] (by simp)), ((Q93.out.below k108.out Q93.out.lt).range 0 _ [] (by simp)), ((R93.out.below k108.out R93.out.lt).range 0 _ [] (by simp))⟩ (fun _ => ?_)
    clear hK KC zc108 k106
    refine wpAnyH_take_at (i := 11) (v := .bool true) rfl rfl (by kernel_rfl) (by kernel_rfl) (by kernel_rfl) (fun _ _ _ h => h) (Or.inl ⟨by rfl, fun w hS => by go_simp⟩) ⟨((b97.out.below k108.out b97.out.lt).range 0 _ [] (by simp)), ((b94.out.below k108.out b94.out.lt).range 0 _ [] (by simp)), ((b98.out.below k108.out b98.out.lt).range 0 _ [] (by simp)), ((b95.out.below k108.out b95.out.lt).range 0 _ [] (by simp)), ((Q93.out.below k108.out Q93.out.lt).range 0 _ [] (by simp)), ((R93.out.below k108.out R93.out.lt).range 0 _ [] (by simp))⟩ ?_
    simp only [List.setIfInBounds_toArray, List.set_cons_zero, List.set_cons_succ]
    refine wpAnyH_take_at (i := 12) (v := .bool true) rfl rfl (by kernel_rfl) (by kernel_rfl) (by kernel_rfl) (fun _ _ _ h => h) (Or.inl ⟨by rfl, fun w hS => by go_simp⟩) ⟨((b97.out.below k108.out b97.out.lt).range 0 _ [] (by simp)), ((b94.out.below k108.out b94.out.lt).range 0 _ [] (by simp)), ((b98.out.below k108.out b98.out.lt).range 0 _ [] (by simp)), ((b95.out.below k108.out b95.out.lt).range 0 _ [] (by simp)), ((Q93.out.below k108.out Q93.out.lt).range 0 _ [] (by simp)), ((R93.out.below k108.out R93.out.lt).range 0 _ [] (by simp))⟩ ?_
    simp only [List.setIfInBounds_toArray, List.set_cons_zero, List.set_cons_succ]
    refine wpAnyH_take_at (i := 13) (v := .agg K93.toArray) rfl rfl (by kernel_rfl) (by kernel_rfl) (by kernel_rfl) (fun _ _ _ h => h) (yieldsIf_load_mid (by rfl) 27 (.tmp 10) rfl g93 0 rfl K93 _ (fun w h => h.2.2.2.2.1) Try.underlying27 rfl (by rw [F.len hp93.out]; kernel_rfl)) ⟨((b97.out.below k108.out b97.out.lt).range 0 _ [] (by simp)), ((b94.out.below k108.out b94.out.lt).range 0 _ [] (by simp)), ((b98.out.below k108.out b98.out.lt).range 0 _ [] (by simp)), ((b95.out.below k108.out b95.out.lt).range 0 _ [] (by simp)), ((Q93.out.below k108.out Q93.out.lt).range 0 _ [] (by simp)), ((R93.out.below k108.out R93.out.lt).range 0 _ [] (by simp))⟩ ?_
    simp only [List.setIfInBounds_toArray, List.set_cons_zero, List.set_cons_succ]
    refine wpAnyH_take_at (i := 15) (v := .agg L9.toArray) rfl rfl (by kernel_rfl) (by kernel_rfl) (by kernel_rfl) (fun _ _ _ h => h) (yieldsIf_load_mid (by rfl) 27 (.tmp 5) rfl g9 0 rfl L9 _ (fun w h => h.2.1) Try.underlying27 rfl (by rw [F.len h9.out]; kernel_rfl)) ⟨((b97.out.below k108.out b97.out.lt).range 0 _ [] (by simp)), ((b94.out.below k108.out b94.out.lt).range 0 _ [] (by simp)), ((b98.out.below k108.out b98.out.lt).range 0 _ [] (by simp)), ((b95.out.below k108.out b95.out.lt).range 0 _ [] (by simp)), ((Q93.out.below k108.out Q93.out.lt).range 0 _ [] (by simp)), ((R93.out.below k108.out R93.out.lt).range 0 _ [] (by simp))⟩ ?_
    simp only [List.setIfInBounds_toArray, List.set_cons_zero, List.set_cons_succ]
    refine wpAnyH_ready (rs := [14]) (by kernel_rfl) (by simp) ?_
    refine AllReadyH.cons rfl (fun KC hK => ?_) AllReadyH.nil
    go_simp
    refine (F.bytes_at _ hp93 hy80).mono ?_
    rintro e v109 ⟨s109, rfl, o109, zc109⟩
    have hi109 := Lib.hid o109.isB
    have k109 : Hid (Below Y93.heap.size Y93 v109) := k108.out.trans (zc109.mono k108.out.size)
    refine hK.out _ _ ⟨((b97.out.below k109.out b97.out.lt).range 0 _ [] (by simp)), ((b94.out.below k109.out b94.out.lt).range 0 _ [] (by simp)), ((b98.out.below k109.out b98.out.lt).range 0 _ [] (by simp)), ((b95.out.below k109.out b95.out.lt).range 0 _ [] (by simp)), ((Q93.out.below k109.out Q93.out.lt).range 0 _ [] (by simp)), ((R93.out.below k109.out R93.out.lt).range 0 _ [] (by simp))⟩ (fun _ => ?_)
    clear hK KC o109 zc109 k108
    refine wpAnyH_ready (rs := [16]) (by kernel_rfl) (by simp) ?_
    refine AllReadyH.cons rfl (fun KC hK => ?_) AllReadyH.nil
    go_simp
    refine (F.bytes_at _ h9 hy80).mono ?_
    rintro e v110 ⟨s110, rfl, o110, zc110⟩
    have hi110 := Lib.hid o110.isB
    have k110 : Hid (Below Y93.heap.size Y93 v110) := k109.out.trans (zc110.mono k109.out.size)
    have hq111 : Hid (IsB v110 s109 y80) := hi109.out.below zc110
    clear hi109
    refine hK.out _ _ ⟨((b97.out.below k110.out b97.out.lt).range 0 _ [] (by simp)), ((b94.out.below k110.out b94.out.lt).range 0 _ [] (by simp)), ((b98.out.below k110.out b98.out.lt).range 0 _ [] (by simp)), ((b95.out.below k110.out b95.out.lt).range 0 _ [] (by simp)), ((Q93.out.below k110.out Q93.out.lt).range 0 _ [] (by simp)), ((R93.out.below k110.out R93.out.lt).range 0 _ [] (by simp))⟩ (fun _ => ?_)
    clear hK KC o110 zc110 k109
    refine wpAnyH_ready (rs := [17]) (by kernel_rfl) (by simp) ?_
    refine AllReadyH.cons rfl (fun KC hK => ?_) AllReadyH.nil
    go_simp
    refine (equal_at _ hq111.out hi110.out).mono ?_
    rintro e v112 ⟨rfl, zc112⟩
    have k112 : Hid (Below Y93.heap.size Y93 v112) := k110.out.trans (zc112.mono k110.out.size)
    refine hK.out _ _ ⟨((b97.out.below k112.out b97.out.lt).range 0 _ [] (by simp)), ((b94.out.below k112.out b94.out.lt).range 0 _ [] (by simp)), ((b98.out.below k112.out b98.out.lt).range 0 _ [] (by simp)), ((b95.out.below k112.out b95.out.lt).range 0 _ [] (by simp)), ((Q93.out.below k112.out Q93.out.lt).range 0 _ [] (by simp)), ((R93.out.below k112.out R93.out.lt).range 0 _ [] (by simp))⟩ (fun _ => ?_)
    clear hK KC zc112 k110
    refine wpAnyH_take_at (i := 18) (v := .bool true) rfl rfl (by kernel_rfl) (by kernel_rfl) (by kernel_rfl) (fun _ _ _ h => h) (Or.inl ⟨by rfl, fun w hS => by go_simp⟩) ⟨((b97.out.below k112.out b97.out.lt).range 0 _ [] (by simp)), ((b94.out.below k112.out b94.out.lt).range 0 _ [] (by simp)), ((b98.out.below k112.out b98.out.lt).range 0 _ [] (by simp)), ((b95.out.below k112.out b95.out.lt).range 0 _ [] (by simp)), ((Q93.out.below k112.out Q93.out.lt).range 0 _ [] (by simp)), ((R93.out.below k112.out R93.out.lt).range 0 _ [] (by simp))⟩ ?_
    simp only [List.setIfInBounds_toArray, List.set_cons_zero, List.set_cons_succ]
    refine wpAnyH_take_at (i := 19) (v := .bool true) rfl rfl (by kernel_rfl) (by kernel_rfl) (by kernel_rfl) (fun _ _ _ h => h) (Or.inl ⟨by rfl, fun w hS => by go_simp⟩) ⟨((b97.out.below k112.out b97.out.lt).range 0 _ [] (by simp)), ((b94.out.below k112.out b94.out.lt).range 0 _ [] (by simp)), ((b98.out.below k112.out b98.out.lt).range 0 _ [] (by simp)), ((b95.out.below k112.out b95.out.lt).range 0 _ [] (by simp)), ((Q93.out.below k112.out Q93.out.lt).range 0 _ [] (by simp)), ((R93.out.below k112.out R93.out.lt).range 0 _ [] (by simp))⟩ ?_
    simp only [List.setIfInBounds_toArray, List.set_cons_zero, List.set_cons_succ]
    refine wpAnyH_take_at (i := 20) (v := .agg L93.toArray) rfl rfl (by kernel_rfl) (by kernel_rfl) (by kernel_rfl) (fun _ _ _ h => h) (yieldsIf_load_mid (by rfl) 27 (.tmp 11) rfl (g93 + 1) 0 rfl L93 _ (fun w h => h.2.2.2.2.2) Try.underlying27 rfl (by rw [F.len hq93.out]; kernel_rfl)) ⟨((b97.out.below k112.out b97.out.lt).range 0 _ [] (by simp)), ((b94.out.below k112.out b94.out.lt).range 0 _ [] (by simp)), ((b98.out.below k112.out b98.out.lt).range 0 _ [] (by simp)), ((b95.out.below k112.out b95.out.lt).range 0 _ [] (by simp)), ((Q93.out.below k112.out Q93.out.lt).range 0 _ [] (by simp)), ((R93.out.below k112.out R93.out.lt).range 0 _ [] (by simp))⟩ ?_
    simp only [List.setIfInBounds_toArray, List.set_cons_zero, List.set_cons_succ]
    refine wpAnyH_take_at (i := 22) (v := .agg L10.toArray) rfl rfl (by kernel_rfl) (by kernel_rfl) (by kernel_rfl) (fun _ _ _ h => h) (yieldsIf_load_mid (by rfl) 27 (.tmp 6) rfl g10 0 rfl L10 _ (fun w h => h.2.2.2.1) Try.underlying27 rfl (by rw [F.len h10.out]; kernel_rfl)) ⟨((b97.out.below k112.out b97.out.lt).range 0 _ [] (by simp)), ((b94.out.below k112.out b94.out.lt).range 0 _ [] (by simp)), ((b98.out.below k112.out b98.out.lt).range 0 _ [] (by simp)), ((b95.out.below k112.out b95.out.lt).range 0 _ [] (by simp)), ((Q93.out.below k112.out Q93.out.lt).range 0 _ [] (by simp)), ((R93.out.below k112.out R93.out.lt).range 0 _ [] (by simp))⟩ ?_
    simp only [List.setIfInBounds_toArray, List.set_cons_zero, List.set_cons_succ]
    refine wpAnyH_ready (rs := [21]) (by kernel_rfl) (by simp) ?_
    refine AllReadyH.cons rfl (fun KC hK => ?_) AllReadyH.nil
    go_simp
    refine (F.bytes_at _ hq93 hy104).mono ?_
    rintro e v113 ⟨s113, rfl, o113, zc113⟩
    have hi113 := Lib.hid o113.isB
    have k113 : Hid (Below Y93.heap.size Y93 v113) := k112.out.trans (zc113.mono k112.out.size)
    refine hK.out _ _ ⟨((b97.out.below k113.out b97.out.lt).range 0 _ [] (by simp)), ((b94.out.below k113.out b94.out.lt).range 0 _ [] (by simp)), ((b98.out.below k113.out b98.out.lt).range 0 _ [] (by simp)), ((b95.out.below k113.out b95.out.lt).range 0 _ [] (by simp)), ((Q93.out.below k113.out Q93.out.lt).range 0 _ [] (by simp)), ((R93.out.below k113.out R93.out.lt).range 0 _ [] (by simp))⟩ (fun _ => ?_)
    clear hK KC o113 zc113 k112
    refine wpAnyH_ready (rs := [23]) (by kernel_rfl) (by simp) ?_
    refine AllReadyH.cons rfl (fun KC hK => ?_) AllReadyH.nil
    go_simp
    refine (F.bytes_at _ h10 hy104).mono ?_
    rintro e v114 ⟨s114, rfl, o114, zc114⟩
    have hi114 := Lib.hid o114.isB
    have k114 : Hid (Below Y93.heap.size Y93 v114) := k113.out.trans (zc114.mono k113.out.size)
    have hq115 : Hid (IsB v114 s113 y104) := hi113.out.below zc114
    clear hi113
    refine hK.out _ _ ⟨((b97.out.below k114.out b97.out.lt).range 0 _ [] (by simp)), ((b94.out.below k114.out b94.out.lt).range 0 _ [] (by simp)), ((b98.out.below k114.out b98.out.lt).range 0 _ [] (by simp)), ((b95.out.below k114.out b95.out.lt).range 0 _ [] (by simp)), ((Q93.out.below k114.out Q93.out.lt).range 0 _ [] (by simp)), ((R93.out.below k114.out R93.out.lt).range 0 _ [] (by simp))⟩ (fun _ => ?_)
    clear hK KC o114 zc114 k113
    refine wpAnyH_ready (rs := [24]) (by kernel_rfl) (by simp) ?_
    refine AllReadyH.cons rfl (fun KC hK => ?_) AllReadyH.nil
    go_simp
    refine (equal_at _ hq115.out hi114.out).mono ?_
    rintro e v116 ⟨rfl, zc116⟩
    have k116 : Hid (Below Y93.heap.size Y93 v116) := k114.out.trans (zc116.mono k114.out.size)
    refine hK.out _ _ ⟨((b97.out.below k116.out b97.out.lt).range 0 _ [] (by simp)), ((b94.out.below k116.out b94.out.lt).range 0 _ [] (by simp)), ((b98.out.below k116.out b98.out.lt).range 0 _ [] (by simp)), ((b95.out.below k116.out b95.out.lt).range 0 _ [] (by simp)), ((Q93.out.below k116.out Q93.out.lt).range 0 _ [] (by simp)), ((R93.out.below k116.out R93.out.lt).range 0 _ [] (by simp))⟩ (fun _ => ?_)
    clear hK KC zc116 k114
    refine wpAnyH_take_at (i := 25) (v := .bool true) rfl rfl (by kernel_rfl) (by kernel_rfl) (by kernel_rfl) (fun _ _ _ h => h) (Or.inl ⟨by rfl, fun w hS => by go_simp⟩) ⟨((b97.out.below k116.out b97.out.lt).range 0 _ [] (by simp)), ((b94.out.below k116.out b94.out.lt).range 0 _ [] (by simp)), ((b98.out.below k116.out b98.out.lt).range 0 _ [] (by simp)), ((b95.out.below k116.out b95.out.lt).range 0 _ [] (by simp)), ((Q93.out.below k116.out Q93.out.lt).range 0 _ [] (by simp)), ((R93.out.below k116.out R93.out.lt).range 0 _ [] (by simp))⟩ ?_
    simp only [List.setIfInBounds_toArray, List.set_cons_zero, List.set_cons_succ]
    refine wpAnyH_take_at (i := 26) (v := .bool true) rfl rfl (by kernel_rfl) (by kernel_rfl) (by kernel_rfl) (fun _ _ _ h => h) (Or.inl ⟨by rfl, fun w hS => by go_simp⟩) ⟨((b97.out.below k116.out b97.out.lt).range 0 _ [] (by simp)), ((b94.out.below k116.out b94.out.lt).range 0 _ [] (by simp)), ((b98.out.below k116.out b98.out.lt).range 0 _ [] (by simp)), ((b95.out.below k116.out b95.out.lt).range 0 _ [] (by simp)), ((Q93.out.below k116.out Q93.out.lt).range 0 _ [] (by simp)), ((R93.out.below k116.out R93.out.lt).range 0 _ [] (by simp))⟩ ?_
    simp only [List.setIfInBounds_toArray, List.set_cons_zero, List.set_cons_succ]
    refine wpAnyH_done (by kernel_rfl) ?_ _
    have KK117 : Hid (Below w.heap.size w v116) := KK93.out.trans (k116.out.mono KK93.out.size)
    have b118 : Hid (Blk v116 g9 27 L9) := b94.out.below k116.out b94.out.lt
    have b119 : Hid (Blk v116 g10 27 L10) := b95.out.below k116.out b95.out.lt
    have b120 : Hid (Blk v116 g12 27 L12) := b96.out.below k116.out b96.out.lt
    have b121 : Hid (Blk v116 g89 27 L89) := b97.out.below k116.out b97.out.lt
    have b122 : Hid (Blk v116 (g89 + 1) 27 K89) := b98.out.below k116.out b98.out.lt
    have b123 : Hid (Blk v116 g93 27 K93) := Q93.out.below k116.out Q93.out.lt
    have b124 : Hid (Blk v116 (g93 + 1) 27 L93) := R93.out.below k116.out R93.out.lt
    go_wp2
    go_ret
    exact ⟨rfl, KK117.out⟩
  · skip
    have H1 := Lib.hid hb1
    have hm : (bit : Int) % 2 = 0 := by omega
    have hm' : (bit : Int).tmod 2 = 0 := by rw [Int.tmod_eq_emod_of_nonneg (by omega)]; exact hm
    clear hb1
    go_wp2_with (first | (refine wpList_load_el rfl (.tmp 5) rfl g9 rfl L9 b86.out (F.len h9.out) ?_) | (refine wpList_load_el rfl (.tmp 6) rfl g10 rfl L10 b87.out (F.len h10.out) ?_))
    refine (F.swap_ bit L9 L10 a b _ HB.out h9.out h10.out).mono ?_
    rintro e w125 ⟨K125, L125, rfl, p125, q125, k125⟩
    rw [if_neg H1.out] at p125 q125
    have hp125 := Lib.hid p125
    have hq125 := Lib.hid q125
    obtain ⟨g125, hg125⟩ : ∃ v, v = w125.heap.size := ⟨_, rfl⟩
    have HN125 : Hid (g9 < g125 ∧ g10 < g125 ∧ g12 < g125 ∧ w.heap.size ≤ g125) := by
      have h1 := k125.size
      have h2 := KK85.out.size
      exact ⟨(by have := b86.out.lt; omega), (by have := b87.out.lt; omega), (by have := b88.out.lt; omega), by omega⟩
    have N125 : Blk ((w125.alloc (.cells z5.toArray 27)).alloc (.cells z5.toArray 27)) g125 27 z5 := (Blk.newAt _ _ _ _ _ hg125 rfl).alloc _
    have O125 : Blk ((w125.alloc (.cells z5.toArray 27)).alloc (.cells z5.toArray 27)) (g125 + 1) 27 z5 := Blk.newAt _ _ _ _ _ (by rw [hg125]; simp) rfl
    go_upto_region 11 with (first | (rw [← z5_arr, ← hg125]; refine wpList_store_el rfl rfl (.tmp 8) (.tmp 110) rfl g125 rfl K125 z5 rfl N125 z5_len (F.len hp125.out) (F.one hp125.out) ?_; intro X125 hb125 ho125) | (refine wpList_store_el rfl rfl (.tmp 9) (.tmp 111) rfl (g125 + 1) rfl L125 z5 rfl (O125.grown ho125 (by intro e; injection e with e; omega)) z5_len (F.len hq125.out) (F.one hq125.out) ?_; intro Y125 hc125 hd125))
    have U125 : Below v84.heap.size v84 Y125 := by
      have h1 := k125.size
      have h2 : Below v84.heap.size v84 ((w125.alloc (.cells z5.toArray 27)).alloc (.cells z5.toArray 27)) := (k125.alloc h1 _).alloc (by simp; omega) _
      have h3 : Below v84.heap.size v84 X125 := h2.trans (ho125.below h2.size (by omega))
      exact h3.trans (hd125.below h3.size (by omega))
    have KK125 : Hid (Below w.heap.size w Y125) := KK85.out.trans (U125.mono KK85.out.size)
    have b126 : Hid (Blk Y125 g9 27 L9) := b86.out.below U125 b86.out.lt
    clear b86
    have b127 : Hid (Blk Y125 g10 27 L10) := b87.out.below U125 b87.out.lt
    clear b87
    have b128 : Hid (Blk Y125 g12 27 L12) := b88.out.below U125 b88.out.lt
    clear b88
    have Q125 : Hid (Blk Y125 g125 27 K125) := (show Blk X125 g125 27 K125 from hb125).grown hd125 (by intro e; injection e with e; omega)
    have R125 : Hid (Blk Y125 (g125 + 1) 27 L125) := hc125
    clear p125 q125 k125 hg125 N125 O125 hb125 ho125 hc125 hd125 U125 KK85
    go_wp2_with (first | (refine wpList_load_el rfl (.tmp 8) rfl g125 rfl K125 Q125.out (F.len hp125.out) ?_) | (refine wpList_load_el rfl (.tmp 9) rfl (g125 + 1) rfl L125 R125.out (F.len hq125.out) ?_))
    refine (F.swap_ 0 K125 L125 a b _ (by decide) hp125.out hq125.out).mono ?_
    rintro e w129 ⟨K129, L129, rfl, p129, q129, k129⟩
    rw [if_neg (show ¬ 0 % 2 = 1 by decide)] at p129 q129
    have hp129 := Lib.hid p129
    have hq129 := Lib.hid q129
    obtain ⟨g129, hg129⟩ : ∃ v, v = w129.heap.size := ⟨_, rfl⟩
    have HN129 : Hid (g9 < g129 ∧ g10 < g129 ∧ g12 < g129 ∧ g125 < g129 ∧ (g125 + 1) < g129 ∧ w.heap.size ≤ g129) := by
      have h1 := k129.size
      have h2 := KK125.out.size
      exact ⟨(by have := b126.out.lt; omega), (by have := b127.out.lt; omega), (by have := b128.out.lt; omega), (by have := Q125.out.lt; omega), (by have := R125.out.lt; omega), by omega⟩
    have N129 : Blk ((w129.alloc (.cells z5.toArray 27)).alloc (.cells z5.toArray 27)) g129 27 z5 := (Blk.newAt _ _ _ _ _ hg129 rfl).alloc _
    have O129 : Blk ((w129.alloc (.cells z5.toArray 27)).alloc (.cells z5.toArray 27)) (g129 + 1) 27 z5 := Blk.newAt _ _ _ _ _ (by rw [hg129]; simp) rfl
    go_upto_region 14 with (first | (rw [← z5_arr, ← hg129]; refine wpList_store_el rfl rfl (.tmp 10) (.tmp 121) rfl g129 rfl K129 z5 rfl N129 z5_len (F.len hp129.out) (F.one hp129.out) ?_; intro X129 hb129 ho129) | (refine wpList_store_el rfl rfl (.tmp 11) (.tmp 122) rfl (g129 + 1) rfl L129 z5 rfl (O129.grown ho129 (by intro e; injection e with e; omega)) z5_len (F.len hq129.out) (F.one hq129.out) ?_; intro Y129 hc129 hd129))
    have U129 : Below Y125.heap.size Y125 Y129 := by
      have h1 := k129.size
      have h2 : Below Y125.heap.size Y125 ((w129.alloc (.cells z5.toArray 27)).alloc (.cells z5.toArray 27)) := (k129.alloc h1 _).alloc (by simp; omega) _
      have h3 : Below Y125.heap.size Y125 X129 := h2.trans (ho129.below h2.size (by omega))
      exact h3.trans (hd129.below h3.size (by omega))
    have KK129 : Hid (Below w.heap.size w Y129) := KK125.out.trans (U129.mono KK125.out.size)
    have b130 : Hid (Blk Y129 g9 27 L9) := b126.out.below U129 b126.out.lt
    clear b126
    have b131 : Hid (Blk Y129 g10 27 L10) := b127.out.below U129 b127.out.lt
    clear b127
    have b132 : Hid (Blk Y129 g12 27 L12) := b128.out.below U129 b128.out.lt
    clear b128
    have b133 : Hid (Blk Y129 g125 27 K125) := Q125.out.below U129 Q125.out.lt
    clear Q125
    have b134 : Hid (Blk Y129 (g125 + 1) 27 L125) := R125.out.below U129 R125.out.lt
    clear R125
    have Q129 : Hid (Blk Y129 g129 27 K129) := (show Blk X129 g129 27 K129 from hb129).grown hd129 (by intro e; injection e with e; omega)
    have R129 : Hid (Blk Y129 (g129 + 1) 27 L129) := hc129
    clear p129 q129 k129 hg129 N129 O129 hb129 ho129 hc129 hd129 U129 KK125
    go_upto_region 14 with fail
    refine wp_region_any (by kernel_rfl) ?_
    change wpAny _ _ _ _ _ _ _ (World.drew _)
    refine wpAny_of_held (S := fun w' => w'.rangeAt g125 0 K125 ∧ w'.rangeAt g9 0 L9 ∧ w'.rangeAt (g125 + 1) 0 L125 ∧ w'.rangeAt g10 0 L10 ∧ w'.rangeAt g129 0 K129 ∧ w'.rangeAt (g129 + 1) 0 L129) _ _ _ _ ?_
    have k135 : Hid (Below Y129.heap.size Y129 Y129.drew) := below_draws Y129 1
    refine wpAnyH_take_at (i := 0) (v := .agg K125.toArray) rfl rfl (by kernel_rfl) (by kernel_rfl) (by kernel_rfl) (fun _ _ _ h => h) (yieldsIf_load_mid (by rfl) 27 (.tmp 8) rfl g125 0 rfl K125 _ (fun w h => h.1) Try.underlying27 rfl (by rw [F.len hp125.out]; kernel_rfl)) ⟨((b133.out.below k135.out b133.out.lt).range 0 _ [] (by simp)), ((b130.out.below k135.out b130.out.lt).range 0 _ [] (by simp)), ((b134.out.below k135.out b134.out.lt).range 0 _ [] (by simp)), ((b131.out.below k135.out b131.out.lt).range 0 _ [] (by simp)), ((Q129.out.below k135.out Q129.out.lt).range 0 _ [] (by simp)), ((R129.out.below k135.out R129.out.lt).range 0 _ [] (by simp))⟩ ?_
    simp only [List.setIfInBounds_toArray, List.set_cons_zero, List.set_cons_succ]
    refine wpAnyH_take_at (i := 2) (v := .agg L9.toArray) rfl rfl (by kernel_rfl) (by kernel_rfl) (by kernel_rfl) (fun _ _ _ h => h) (yieldsIf_load_mid (by rfl) 27 (.tmp 5) rfl g9 0 rfl L9 _ (fun w h => h.2.1) Try.underlying27 rfl (by rw [F.len h9.out]; kernel_rfl)) ⟨((b133.out.below k135.out b133.out.lt).range 0 _ [] (by simp)), ((b130.out.below k135.out b130.out.lt).range 0 _ [] (by simp)), ((b134.out.below k135.out b134.out.lt).range 0 _ [] (by simp)), ((b131.out.below k135.out b131.out.lt).range 0 _ [] (by simp)), ((Q129.out.below k135.out Q129.out.lt).range 0 _ [] (by simp)), ((R129.out.below k135.out R129.out.lt).range 0 _ [] (by simp))⟩ ?_
    simp only [List.setIfInBounds_toArray, List.set_cons_zero, List.set_cons_succ]
    refine wpAnyH_ready (rs := [1]) (by kernel_rfl) (by simp) ?_
    refine AllReadyH.cons rfl (fun KC hK => ?_) AllReadyH.nil
    go_simp
    refine (F.bytes_at _ hp125 hy80).mono ?_
    rintro e v136 ⟨s136, rfl, o136, zc136⟩
    have hi136 := Lib.hid o136.isB
    have k136 : Hid (Below Y129.heap.size Y129 v136) := k135.out.trans (zc136.mono k135.out.size)
    refine hK.out _ _ ⟨((b133.out.below k136.out b133.out.lt).range 0 _ [] (by simp)), ((b130.out.below k136.out b130.out.lt).range 0 _ [] (by simp)), ((b134.out.below k136.out b134.out.lt).range 0 _ [] (by simp)), ((b131.out.below k136.out b131.out.lt).range 0 _ [] (by simp)), ((Q129.out.below k136.out Q129.out.lt).range 0 _ [] (by simp)), ((R129.out.below k136.out R129.out.lt).range 0 _ [] (by simp))⟩ (fun _ => ?_)
    clear hK KC o136 zc136 k135
    refine wpAnyH_ready (rs := [3]) (by kernel_rfl) (by simp) ?_
    refine AllReadyH.cons rfl (fun KC hK => ?_) AllReadyH.nil
    go_simp
    refine (F.bytes_at _ h9 hy80).mono ?_
    rintro e v137 ⟨s137, rfl, o137, zc137⟩
    have hi137 := Lib.hid o137.isB
    have k137 : Hid (Below Y129.heap.size Y129 v137) := k136.out.trans (zc137.mono k136.out.size)
    have hq138 : Hid (IsB v137 s136 y80) := hi136.out.below zc137
    clear hi136
    refine hK.out _ _ ⟨((b133.out.below k137.out b133.out.lt).range 0 _ [] (by simp)), ((b130.out.below k137.out b130.out.lt).range 0 _ [] (by simp)), ((b134.out.below k137.out b134.out.lt).range 0 _ [] (by simp)), ((b131.out.below k137.out b131.out.lt).range 0 _ [] (by simp)), ((Q129.out.below k137.out Q129.out.lt).range 0 _ [] (by simp)), ((R129.out.below k137.out R129.out.lt).range 0 _ [] (by simp))⟩ (fun _ => ?_)
    clear hK KC o137 zc137 k136
    refine wpAnyH_ready (rs := [4]) (by kernel_rfl) (by simp) ?_
    refine AllReadyH.cons rfl (fun KC hK => ?_) AllReadyH.nil
    go_simp
    refine (equal_at _ hq138.out hi137.out).mono ?_
    rintro e v139 ⟨rfl, zc139⟩
    have k139 : Hid (Below Y129.heap.size Y129 v139) := k137.out.trans (zc139.mono k137.out.size)
    refine hK.out _ _ ⟨((b133.out.below k139.out b133.out.lt).range 0 _ [] (by simp)), ((b130.out.below k139.out b130.out.lt).range 0 _ [] (by simp)), ((b134.out.below k139.out b134.out.lt).range 0 _ [] (by simp)), ((b131.out.below k139.out b131.out.lt).range 0 _ [] (by simp)), ((Q129.out.below k139.out Q129.out.lt).range 0 _ [] (by simp)), ((R129.out.below k139.out R129.out.lt).range 0 _ [] (by simp))⟩ (fun _ => ?_)
    clear hK KC zc139 k137
    refine wpAnyH_take_at (i := 5) (v := .bool true) rfl rfl (by kernel_rfl) (by kernel_rfl) (by kernel_rfl) (fun _ _ _ h => h) (Or.inl ⟨by rfl, fun w hS => by go_simp⟩) ⟨((b133.out.below k139.out b133.out.lt).range 0 _ [] (by simp)), ((b130.out.below k139.out b130.out.lt).range 0 _ [] (by simp)), ((b134.out.below k139.out b134.out.lt).range 0 _ [] (by simp)), ((b131.out.below k139.out b131.out.lt).range 0 _ [] (by simp)), ((Q129.out.below k139.out Q129.out.lt).range 0 _ [] (by simp)), ((R129.out.below k139.out R129.out.lt).range 0 _ [] (by simp))⟩ ?_
    simp only [List.setIfInBounds_toArray, List.set_cons_zero, List.set_cons_succ]
    refine wpAnyH_take_at (i := 6) (v := .agg L125.toArray) rfl rfl (by kernel_rfl) (by kernel_rfl) (by kernel_rfl) (fun _ _ _ h => h) (yieldsIf_load_mid (by rfl) 27 (.tmp 9) rfl (g125 + 1) 0 rfl L125 _ (fun w h => h.2.2.1) Try.underlying27 rfl (by rw [F.len hq125.out]; kernel_rfl)) ⟨((b133.out.below k139.out b133.out.lt).range 0 _ [] (by simp)), ((b130.out.below k139.out b130.out.lt).range 0 _ [] (by simp)), ((b134.out.below k139.out b134.out.lt).range 0 _ [] (by simp)), ((b131.out.below k139.out b131.out.lt).range 0 _ [] (by simp)), ((Q129.out.below k139.out Q129.out.lt).range 0 _ [] (by simp)), ((R129.out.below k139.out R129.out.lt).range 0 _ [] (by simp))⟩ ?_
    simp only [List.setIfInBounds_toArray, List.set_cons_zero, List.set_cons_succ]
    refine wpAnyH_take_at (i := 8) (v := .agg L10.toArray) rfl rfl (by kernel_rfl) (by kernel_rfl) (by kernel_rfl) (fun _ _ _ h => h) (yieldsIf_load_mid (by rfl) 27 (.tmp 6) rfl g10 0 rfl L10 _ (fun w h => h.2.2.2.1) Try.underlying27 rfl (by rw [F.len h10.out]; kernel_rfl)) ⟨((b133.out.below k139.out b133.out.lt).range 0 _ [] (by simp)), ((b130.out.below k139.out b130.out.lt).range 0 _ [] (by simp)), ((b134.out.below k139.out b134.out.lt).range 0 _ [] (by simp)), ((b131.out.below k139.out b131.out.lt).range 0 _ [] (by simp)), ((Q129.out.below k139.out Q129.out.lt).range 0 _ [] (by simp)), ((R129.out.below k139.out R129.out.lt).range 0 _ [] (by simp))⟩ ?_
    simp only [List.setIfInBounds_toArray, List.set_cons_zero, List.set_cons_succ]
    obtain ⟨y140, hy140⟩ : ∃ y, Hid (M.le b 32 = y) := ⟨M.le b 32, rfl⟩
    refine wpAnyH_ready (rs := [7]) (by kernel_rfl) (by simp) ?_
    refine AllReadyH.cons rfl (fun KC hK => ?_) AllReadyH.nil
    go_simp
    refine (F.bytes_at _ hq125 hy140).mono ?_
    rintro e v141 ⟨s141, rfl, o141, zc141⟩
    have hi141 := Lib.hid o141.isB
    have k141 : Hid (Below Y129.heap.size Y129 v141) := k139.out.trans (zc141.mono k139.out.size)
    refine hK.out _ _ ⟨((b133.out.below k141.out b133.out.lt).range 0 _ [] (by simp)), ((b130.out.below k141.out b130.out.lt).range 0 _ [] (by simp)), ((b134.out.below k141.out b134.out.lt).range 0 _ [] (by simp)), ((b131.out.below k141.out b131.out.lt).range 0 _ [] (by simp)), ((Q129.out.below k141.out Q129.out.lt).range 0 _ [] (by simp)), ((R129.out.below k141.out R129.out.lt).range 0 _ [] (by simp))⟩ (fun _ => ?_)
    clear hK KC o141 zc141 k139
    refine wpAnyH_ready (rs := [9]) (by kernel_rfl) (by simp) ?_
    refine AllReadyH.cons rfl (fun KC hK => ?_) AllReadyH.nil
    go_simp
    refine (F.bytes_at _ h10 hy140).mono ?_
    rintro e v142 ⟨s142, rfl, o142, zc142⟩
    have hi142 := Lib.hid o142.isB
    have k142 : Hid (Below Y129.heap.size Y129 v142) := k141.out.trans (zc142.mono k141.out.size)
    have hq143 : Hid (IsB v142 s141 y140) := hi141.out.below zc142
    clear hi141
    refine hK.out _ _ ⟨((b133.out.below k142.out b133.out.lt).range 0 _ [] (by simp)), ((b130.out.below k142.out b130.out.lt).range 0 _ [] (by simp)), ((b134.out.below k142.out b134.out.lt).range 0 _ [] (by simp)), ((b131.out.below k142.out b131.out.lt).range 0 _ [] (by simp)), ((Q129.out.below k142.out Q129.out.lt).range 0 _ [] (by simp)), ((R129.out.below k142.out R129.out.lt).range 0 _ [] (by simp))⟩ (fun _ => ?_)
    clear hK KC o142 zc142 k141
    refine wpAnyH_ready (rs := [10]) (by kernel_rfl) (by simp) ?_
    refine AllReadyH.cons rfl (fun KC hK => ?_) AllReadyH.nil
    go_simp
    refine (equal_at _ hq143.out hi142.out).mono ?_
    rintro e v144 ⟨rfl, zc144⟩
    have k144 : Hid (Below Y129.heap.size Y129 v144) := k142.out.trans (zc144.mono k142.out.size)
    refine hK.out _ _ ⟨((b133.out.below k144.out b133.out.lt).range 0 _ [] (by simp)), ((b130.out.below k144.out b130.out.lt).range 0 _ [] (by simp)), ((b134.out.below k144.out b134.out.lt).range 0 _ [] (by simp)), ((b131.out.below k144.out b131.out.lt).range 0 _ [] (by simp)), ((Q129.out.below k144.out Q129.out.lt).range 0 _ [] (by simp)), ((R129.out.below k144.out R129.out.lt).range 0 _ [] (by simp))⟩ (fun _ => ?_)
    clear hK KC zc144 k142
    refine wpAnyH_take_at (i := 11) (v := .bool true) rfl rfl (by kernel_rfl) (by kernel_rfl) (by kernel_rfl) (fun _ _ _ h => h) (Or.inl ⟨by rfl, fun w hS => by go_simp⟩) ⟨((b133.out.below k144.out b133.out.lt).range 0 _ [] (by simp)), ((b130.out.below k144.out b130.out.lt).range 0 _ [] (by simp)), ((b134.out.below k144.out b134.out.lt).range 0 _ [] (by simp)), ((b131.out.below k144.out b131.out.lt).range 0 _ [] (by simp)), ((Q129.out.below k144.out Q129.out.lt).range 0 _ [] (by simp)), ((R129.out.below k144.out R129.out.lt).range 0 _ [] (by simp))⟩ ?_
    simp only [List.setIfInBounds_toArray, List.set_cons_zero, List.set_cons_succ]
    refine wpAnyH_take_at (i := 12) (v := .bool true) rfl rfl (by kernel_rfl) (by kernel_rfl) (by kernel_rfl) (fun _ _ _ h => h) (Or.inl ⟨by rfl, fun w hS => by go_simp⟩) ⟨((b133.out.below k144.out b133.out.lt).range 0 _ [] (by simp)), ((b130.out.below k144.out b130.out.lt).range 0 _ [] (by simp)), ((b134.out.below k144.out b134.out.lt).range 0 _ [] (by simp)), ((b131.out.below k144.out b131.out.lt).range 0 _ [] (by simp)), ((Q129.out.below k144.out Q129.out.lt).range 0 _ [] (by simp)), ((R129.out.below k144.out R129.out.lt).range 0 _ [] (by simp))⟩ ?_
    simp only [List.setIfInBounds_toArray, List.set_cons_zero, List.set_cons_succ]
    refine wpAnyH_take_at (i := 13) (v := .agg K129.toArray) rfl rfl (by kernel_rfl) (by kernel_rfl) (by kernel_rfl) (fun _ _ _ h => h) (yieldsIf_load_mid (by rfl) 27 (.tmp 10) rfl g129 0 rfl K129 _ (fun w h => h.2.2.2.2.1) Try.underlying27 rfl (by rw [F.len hp129.out]; kernel_rfl)) ⟨((b133.out.below k144.out b133.out.lt).range 0 _ [] (by simp)), ((b130.out.below k144.out b130.out.lt).range 0 _ [] (by simp)), ((b134.out.below k144.out b134.out.lt).range 0 _ [] (by simp)), ((b131.out.below k144.out b131.out.lt).range 0 _ [] (by simp)), ((Q129.out.below k144.out Q129.out.lt).range 0 _ [] (by simp)), ((R129.out.below k144.out R129.out.lt).range 0 _ [] (by simp))⟩ ?_
    simp only [List.setIfInBounds_toArray, List.set_cons_zero, List.set_cons_succ]
    refine wpAnyH_take_at (i := 15) (v := .agg L9.toArray) rfl rfl (by kernel_rfl) (by kernel_rfl) (by kernel_rfl) (fun _ _ _ h => h) (yieldsIf_load_mid (by rfl) 27 (.tmp 5) rfl g9 0 rfl L9 _ (fun w h => h.2.1) Try.underlying27 rfl (by rw [F.len h9.out]; kernel_rfl)) ⟨((b133.out.below k144.out b133.out.lt).range 0 _ [] (by simp)), ((b130.out.below k144.out b130.out.lt).range 0 _ [] (by simp)), ((b134.out.below k144.out b134.out.lt).range 0 _ [] (by simp)), ((b131.out.below k144.out b131.out.lt).range 0 _ [] (by simp)), ((Q129.out.below k144.out Q129.out.lt).range 0 _ [] (by simp)), ((R129.out.below k144.out R129.out.lt).range 0 _ [] (by simp))⟩ ?_
    simp only [List.setIfInBounds_toArray, List.set_cons_zero, List.set_cons_succ]
    refine wpAnyH_ready (rs := [14]) (by kernel_rfl) (by simp) ?_
    refine AllReadyH.cons rfl (fun KC hK => ?_) AllReadyH.nil
    go_simp
    refine (F.bytes_at _ hp129 hy80).mono ?_
    rintro e v145 ⟨s145, rfl, o145, zc145⟩
    have hi145 := Lib.hid o145.isB
    have k145 : Hid (Below Y129.heap.size Y129 v145) := k144.out.trans (zc145.mono k144.out.size)
    refine hK.out _ _ ⟨((b133.out.below k145.out b133.out.lt).range 0 _ [] (by simp)), ((b130.out.below k145.out b130.out.lt).range 0 _ [] (by simp)), ((b134.out.below k145.out b134.out.lt).range 0 _ [] (by simp)), ((b131.out.below k145.out b131.out.lt).range 0 _ [] (by simp)), ((Q129.out.below k145.out Q129.out.lt).range 0 _ [] (by simp)), ((R129.out.below k145.out R129.out.lt).range 0 _ [] (by simp))⟩ (fun _ => ?_)
    clear hK KC o145 zc145 k144
    refine wpAnyH_ready (rs := [16]) (by kernel_rfl) (by simp) ?_
    refine AllReadyH.cons rfl (fun KC hK => ?_) AllReadyH.nil
    go_simp
    refine (F.bytes_at _ h9 hy80).mono ?_
    rintro e v146 ⟨s146, rfl, o146, zc146⟩
    have hi146 := Lib.hid o146.isB
    have k146 : Hid (Below Y129.heap.size Y129 v146) := k145.out.trans (zc146.mono k145.out.size)
    have hq147 : Hid (IsB v146 s145 y80) := hi145.out.below zc146
    clear hi145
    refine hK.out _ _ ⟨((b133.out.below k146.out b133.out.lt).range 0 _ [] (by simp)), ((b130.out.below k146.out b130.out.lt).range 0 _ [] (by simp)), ((b134.out.below k146.out b134.out.lt).range 0 _ [] (by simp)), ((b131.out.below k146.out b131.out.lt).range 0 _ [] (by simp)), ((Q129.out.below k146.out Q129.out.lt).range 0 _ [] (by simp)), ((R129.out.below k146.out R129.out.lt).range 0 _ [] (by simp))⟩ (fun _ => ?_)
    clear hK KC o146 zc146 k145
    refine wpAnyH_ready (rs := [17]) (by kernel_rfl) (by simp) ?_
    refine AllReadyH.cons rfl (fun KC hK => ?_) AllReadyH.nil
    go_simp
    refine (equal_at _ hq147.out hi146.out).mono ?_
    rintro e v148 ⟨rfl, zc148⟩
    have k148 : Hid (Below Y129.heap.size Y129 v148) := k146.out.trans (zc148.mono k146.out.size)
    refine hK.out _ _ ⟨((b133.out.below k148.out b133.out.lt).range 0 _ [] (by simp)), ((b130.out.below k148.out b130.out.lt).range 0 _ [] (by simp)), ((b134.out.below k148.out b134.out.lt).range 0 _ [] (by simp)), ((b131.out.below k148.out b131.out.lt).range 0 _ [] (by simp)), ((Q129.out.below k148.out Q129.out.lt).range 0 _ [] (by simp)), ((R129.out.below k148.out R129.out.lt).range 0 _ [] (by simp))⟩ (fun _ => ?_)
    clear hK KC zc148 k146
    refine wpAnyH_take_at (i := 18) (v := .bool true) rfl rfl (by kernel_rfl) (by kernel_rfl) (by kernel_rfl) (fun _ _ _ h => h) (Or.inl ⟨by rfl, fun w hS => by go_simp⟩) ⟨((b133.out.below k148.out b133.out.lt).range 0 _ [] (by simp)), ((b130.out.below k148.out b130.out.lt).range 0 _ [] (by simp)), ((b134.out.below k148.out b134.out.lt).range 0 _ [] (by simp)), ((b131.out.below k148.out b131.out.lt).range 0 _ [] (by simp)), ((Q129.out.below k148.out Q129.out.lt).range 0 _ [] (by simp)), ((R129.out.below k148.out R129.out.lt).range 0 _ [] (by simp))⟩ ?_
    simp only [List.setIfInBounds_toArray, List.set_cons_zero, List.set_cons_succ]
    refine wpAnyH_take_at (i := 19) (v := .bool true) rfl rfl (by kernel_rfl) (by kernel_rfl) (by kernel_rfl) (fun _ _ _ h => h) (Or.inl ⟨by rfl, fun w hS => by go_simp⟩) ⟨((b133.out.below k148.out b133.out.lt).range 0 _ [] (by simp)), ((b130.out.below k148.out b130.out.lt).range 0 _ [] (by simp)), ((b134.out.below k148.out b134.out.lt).range 0 _ [] (by simp)), ((b131.out.below k148.out b131.out.lt).range 0 _ [] (by simp)), ((Q129.out.below k148.out Q129.out.lt).range 0 _ [] (by simp)), ((R129.out.below k148.out R129.out.lt).range 0 _ [] (by simp))⟩ ?_
    simp only [List.setIfInBounds_toArray, List.set_cons_zero, List.set_cons_succ]
    refine wpAnyH_take_at (i := 20) (v := .agg L129.toArray) rfl rfl (by kernel_rfl) (by kernel_rfl) (by kernel_rfl) (fun _ _ _ h => h) (yieldsIf_load_mid (by rfl) 27 (.tmp 11) rfl (g129 + 1) 0 rfl L129 _ (fun w h => h.2.2.2.2.2) Try.underlying27 rfl (by rw [F.len hq129.out]; kernel_rfl)) ⟨((b133.out.below k148.out b133.out.lt).range 0 _ [] (by simp)), ((b130.out.below k148.out b130.out.lt).range 0 _ [] (by simp)), ((b134.out.below k148.out b134.out.lt).range 0 _ [] (by simp)), ((b131.out.below k148.out b131.out.lt).range 0 _ [] (by simp)), ((Q129.out.below k148.out Q129.out.lt).range 0 _ [] (by simp)), ((R129.out.below k148.out R129.out.lt).range 0 _ [] (by simp))⟩ ?_
    simp only [List.setIfInBounds_toArray, List.set_cons_zero, List.set_cons_succ]
    refine wpAnyH_take_at (i := 22) (v := .agg L10.toArray) rfl rfl (by kernel_rfl) (by kernel_rfl) (by kernel_rfl) (fun _ _ _ h => h) (yieldsIf_load_mid (by rfl) 27 (.tmp 6) rfl g10 0 rfl L10 _ (fun w h => h.2.2.2.1) Try.underlying27 rfl (by rw [F.len h10.out]; kernel_rfl)) ⟨((b133.out.below k148.out b133.out.lt).range 0 _ [] (by simp)), ((b130.out.below k148.out b130.out.lt).range 0 _ [] (by simp)), ((b134.out.below k148.out b134.out.lt).range 0 _ [] (by simp)), ((b131.out.below k148.out b131.out.lt).range 0 _ [] (by simp)), ((Q129.out.below k148.out Q129.out.lt).range 0 _ [] (by simp)), ((R129.out.below k148.out R129.out.lt).range 0 _ [] (by simp))⟩ ?_
    simp only [List.setIfInBounds_toArray, List.set_cons_zero, List.set_cons_succ]
    refine wpAnyH_ready (rs := [21]) (by kernel_rfl) (by simp) ?_
    refine AllReadyH.cons rfl (fun KC hK => ?_) AllReadyH.nil
    go_simp
    refine (F.bytes_at _ hq129 hy140).mono ?_
    rintro e v149 ⟨s149, rfl, o149, zc149⟩
    have hi149 := Lib.hid o149.isB
    have k149 : Hid (Below Y129.heap.size Y129 v149) := k148.out.trans (zc149.mono k148.out.size)
    refine hK.out _ _ ⟨((b133.out.below k149.out b133.out.lt).range 0 _ [] (by simp)), ((b130.out.below k149.out b130.out.lt).range 0 _ [] (by simp)), ((b134.out.below k149.out b134.out.lt).range 0 _ [] (by simp)), ((b131.out.below k149.out b131.out.lt).range 0 _ [] (by simp)), ((Q129.out.below k149.out Q129.out.lt).range 0 _ [] (by simp)), ((R129.out.below k149.out R129.out.lt).range 0 _ [] (by simp))⟩ (fun _ => ?_)
    clear hK KC o149 zc149 k148
    refine wpAnyH_ready (rs := [23]) (by kernel_rfl) (by simp) ?_
    refine AllReadyH.cons rfl (fun KC hK => ?_) AllReadyH.nil
    go_simp
    refine (F.bytes_at _ h10 hy140).mono ?_
    rintro e v150 ⟨s150, rfl, o150, zc150⟩
    have hi150 := Lib.hid o150.isB
    have k150 : Hid (Below Y129.heap.size Y129 v150) := k149.out.trans (zc150.mono k149.out.size)
    have hq151 : Hid (IsB v150 s149 y140) := hi149.out.below zc150
    clear hi149
    refine hK.out _ _ ⟨((b133.out.below k150.out b133.out.lt).range 0 _ [] (by simp)), ((b130.out.below k150.out b130.out.lt).range 0 _ [] (by simp)), ((b134.out.below k150.out b134.out.lt).range 0 _ [] (by simp)), ((b131.out.below k150.out b131.out.lt).range 0 _ [] (by simp)), ((Q129.out.below k150.out Q129.out.lt).range 0 _ [] (by simp)), ((R129.out.below k150.out R129.out.lt).range 0 _ [] (by simp))⟩ (fun _ => ?_)
    clear hK KC o150 zc150 k149
    refine wpAnyH_ready (rs := [24]) (by kernel_rfl) (by simp) ?_
    refine AllReadyH.cons rfl (fun KC hK => ?_) AllReadyH.nil
    go_simp
    refine (equal_at _ hq151.out hi150.out).mono ?_
    rintro e v152 ⟨rfl, zc152⟩
    have k152 : Hid (Below Y129.heap.size Y129 v152) := k150.out.trans (zc152.mono k150.out.size)
    refine hK.out _ _ ⟨((b133.out.below k152.out b133.out.lt).range 0 _ [] (by simp)), ((b130.out.below k152.out b130.out.lt).range 0 _ [] (by simp)), ((b134.out.below k152.out b134.out.lt).range 0 _ [] (by simp)), ((b131.out.below k152.out b131.out.lt).range 0 _ [] (by simp)), ((Q129.out.below k152.out Q129.out.lt).range 0 _ [] (by simp)), ((R129.out.below k152.out R129.out.lt).range 0 _ [] (by simp))⟩ (fun _ => ?_)
    clear hK KC zc152 k150
    refine wpAnyH_take_at (i := 25) (v := .bool true) rfl rfl (by kernel_rfl) (by kernel_rfl) (by kernel_rfl) (fun _ _ _ h => h) (Or.inl ⟨by rfl, fun w hS => by go_simp⟩) ⟨((b133.out.below k152.out b133.out.lt).range 0 _ [] (by simp)), ((b130.out.below k152.out b130.out.lt).range 0 _ [] (by simp)), ((b134.out.below k152.out b134.out.lt).range 0 _ [] (by simp)), ((b131.out.below k152.out b131.out.lt).range 0 _ [] (by simp)), ((Q129.out.below k152.out Q129.out.lt).range 0 _ [] (by simp)), ((R129.out.below k152.out R129.out.lt).range 0 _ [] (by simp))⟩ ?_
    simp only [List.setIfInBounds_toArray, List.set_cons_zero, List.set_cons_succ]
    refine wpAnyH_take_at (i := 26) (v := .bool true) rfl rfl (by kernel_rfl) (by kernel_rfl) (by kernel_rfl) (fun _ _ _ h => h) (Or.inl ⟨by rfl, fun w hS => by go_simp⟩) ⟨((b133.out.below k152.out b133.out.lt).range 0 _ [] (by simp)), ((b130.out.below k152.out b130.out.lt).range 0 _ [] (by simp)), ((b134.out.below k152.out b134.out.lt).range 0 _ [] (by simp)), ((b131.out.below k152.out b131.out.lt).range 0 _ [] (by simp)), ((Q129.out.below k152.out Q129.out.lt).range 0 _ [] (by simp)), ((R129.out.below k152.out R129.out.lt).range 0 _ [] (by simp))⟩ ?_
    simp only [List.setIfInBounds_toArray, List.set_cons_zero, List.set_cons_succ]
    refine wpAnyH_done (by kernel_rfl) ?_ _
    have KK153 : Hid (Below w.heap.size w v152) := KK129.out.trans (k152.out.mono KK129.out.size)
    have b154 : Hid (Blk v152 g9 27 L9) := b130.out.below k152.out b130.out.lt
    have b155 : Hid (Blk v152 g10 27 L10) := b131.out.below k152.out b131.out.lt
    have b156 : Hid (Blk v152 g12 27 L12) := b132.out.below k152.out b132.out.lt
    have b157 : Hid (Blk v152 g125 27 K125) := b133.out.below k152.out b133.out.lt
    have b158 : Hid (Blk v152 (g125 + 1) 27 L125) := b134.out.below k152.out b134.out.lt
    have b159 : Hid (Blk v152 g129 27 K129) := Q129.out.below k152.out Q129.out.lt
    have b160 : Hid (Blk v152 (g129 + 1) 27 L129) := R129.out.below k152.out R129.out.lt
    go_wp2
    go_ret
    exact ⟨rfl, KK153.out⟩

end Go.Proofs.Ytmgbcollcfeolaa
