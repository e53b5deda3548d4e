/-
  THE WALK OF orloplaw05.PolyEnds: it returns true, and writes nothing that was there. Conditions: none but that the arrays are arrays of their lengths.
-/
import Derived.Test.YtbjmkgbjpcepaaaLawPlainWalk
import Derived.Test.YtbjmkgbjpcepaaaRefTag2
namespace Go.Proofs.Ytbjmkgbjpcepaaa
open Go.RowKit
set_option linter.unusedVariables false

set_option maxHeartbeats 4000000 in
theorem polyEnds_walk (w : World) (k : List UInt8) (hk : k.length = 2) (m : List UInt8) (hm : m.length = 2) (n : Nat) (hn : n < 256) :
    Calls Try.prog 4 #[.agg (Lib.byteCells k).toArray, .agg (Lib.byteCells m).toArray, .int .u8 n] w fun e w' => e = .returned (.bool true) ∧ Below w.heap.size w w' := by
  have HK := Lib.hid hk
  have HM := Lib.hid hm
  obtain ⟨w1, hw1⟩ : ∃ x, Hid (x = (w.alloc (.cells (Lib.byteCells k).toArray 28)).alloc (.cells (Lib.byteCells m).toArray 28)) := ⟨_, rfl⟩
  have B0 : Hid (Blk w1 w.heap.size 28 (Lib.byteCells k)) := by rw [hw1.out]; exact (Blk.newAt _ _ _ _ _ rfl (by simp)).alloc _
  have B1 : Hid (Blk w1 (w.heap.size + 1) 28 (Lib.byteCells m)) := by rw [hw1.out]; exact Blk.newAt _ _ _ _ _ (by simp) (by simp)
  have k1 : Below w.heap.size w w1 := by rw [hw1.out]; exact ((Below.refl _ _).alloc (Nat.le_refl _) _).alloc (by simp) _
  clear hk hm
  go_enter Try.func4, Try.ntmps4
  go_wp2_with fail
  rw [← hw1.out]
  refine (polyAwake_any w1).mono ?_
  rintro e w2 ⟨rfl, k2⟩
  have kk2 : Below w.heap.size w w2 := k1.trans (k2.mono k1.size)
  obtain ⟨x0, hx0⟩ : ∃ x, Hid (x = k.getD 0 0) := ⟨_, rfl⟩
  obtain ⟨x1, hx1⟩ : ∃ x, Hid (x = k.getD 1 0) := ⟨_, rfl⟩
  obtain ⟨y0, hy0⟩ : ∃ x, Hid (x = m.getD 0 0) := ⟨_, rfl⟩
  obtain ⟨y1, hy1⟩ : ∃ x, Hid (x = m.getD 1 0) := ⟨_, rfl⟩
  have B0' : Hid (Blk w2 w.heap.size 28 (Lib.byteCells k)) := B0.out.below k2 B0.out.lt
  have cx0 : w2.cell? ⟨w.heap.size, 0, none⟩ = some (.int .u8 (x0.toNat : Int)) := by rw [hx0.out, B0'.out.cell, byteCells_getElem? _ _ (by rw [HK.out]; decide)]
  have cx1 : w2.cell? ⟨w.heap.size, 1, none⟩ = some (.int .u8 (x1.toNat : Int)) := by rw [hx1.out, B0'.out.cell, byteCells_getElem? _ _ (by rw [HK.out]; decide)]
  have HC0 : Hid (∀ W, Below w2.heap.size w2 W → W.cell? ⟨w.heap.size + 1, 0, none⟩ = some (.int .u8 (y0.toNat : Int))) := fun W kW => by
    rw [((B1.out.below k2 B1.out.lt).below kW (B1.out.below k2 B1.out.lt).lt).cell, byteCells_getElem? _ _ (by rw [HM.out]; decide), hy0.out]
  have HC1 : Hid (∀ W, Below w2.heap.size w2 W → W.cell? ⟨w.heap.size + 1, 1, none⟩ = some (.int .u8 (y1.toNat : Int))) := fun W kW => by
    rw [((B1.out.below k2 B1.out.lt).below kW (B1.out.below k2 B1.out.lt).lt).cell, byteCells_getElem? _ _ (by rw [HM.out]; decide), hy1.out]
  clear B0 B0' B1 k1 k2
  go_wp2_with (refine wpList_make_cap _ rfl _ _ rfl .i64 .i64 _ _ 32 32 rfl rfl rfl rfl (by omega) (by omega) ?_; intro w3 o3 k3)
  obtain ⟨gk, hgk⟩ : ∃ g, g = w2.heap.size := ⟨_, rfl⟩
  have O3 : Hid (∃ ks : List UInt8, ks.length = 32 ∧ w3.ownsRow w2.heap.size 5 1 (.slice (some ⟨gk, 0, none⟩) 32 32) 32 (Lib.byteCells ks)) := ⟨List.replicate 32 0, rfl, by rw [hgk]; exact o3⟩
  have HGK : Hid (w2.heap.size ≤ gk) := Nat.le_of_eq hgk.symm
  rw [← hgk]
  clear o3 hgk cx0 cx1
  go_loopw [10] (fun iv wr => ∃ i : Nat, i ≤ 16 ∧ iv = .int .i64 i ∧ Hid (∃ ks : List UInt8, ks.length = 32 ∧ wr.ownsRow w2.heap.size 5 1 (.slice (some ⟨gk, 0, none⟩) 32 32) 32 (Lib.byteCells ks)) ∧ Below w2.heap.size w2 wr)
    (fun iv _ => 16 - (intOf iv).toNat)
  case atStart => exact ⟨0, by omega, rfl, O3, k3⟩
  case round =>
    clear O3 k3
    obtain ⟨wz, rfl⟩ : ∃ x, x = wr := ⟨_, rfl⟩
    obtain ⟨i, hi, rfl, ⟨ks, hkl, oo⟩, kz⟩ := hrel
    by_cases hlt : i < 16
    · obtain ⟨p, hp⟩ : ∃ p, p = 16 + i := ⟨_, rfl⟩
      have hpI : (16 : Int) + i = p := by omega
      have hpw : IntKind.i64.wrap ((16 : Int) + i) = p := by rw [hpI]; exact IntWalk.i64_in _ (by omega)
      have hpw' : IntKind.i64.wrap (p : Int) = p := IntWalk.i64_in _ (by omega)
      have hp32 : p < 32 := by omega
      have hi32 : i < 32 := by omega
      have hpI32 : (p : Int) < 32 := by omega
      have hiI32 : (i : Int) < 32 := by omega
      have c1 : wz.cell? ⟨gk, i, none⟩ = some (.int .u8 ((ks.getD i 0).toNat : Int)) := by rw [oo.cellAt i hi32, byteCells_getElem? _ _ (by rw [hkl]; exact hi32)]
      have f1 : wz.frozen? ⟨gk, i, none⟩ = false := oo.frozenAt i
      have o2 := (oo.stored i (.int .u8 (x0.toNat : Int))).1
      rw [bc_set] at o2
      have c2 : (wz.setCell ⟨gk, i, none⟩ (.int .u8 (x0.toNat : Int))).cell? ⟨gk, p, none⟩ = some (.int .u8 (((ks.set i x0).getD p 0).toNat : Int)) := by rw [o2.cellAt p hp32, byteCells_getElem? _ _ (by rw [List.length_set, hkl]; exact hp32)]
      have f2 : (wz.setCell ⟨gk, i, none⟩ (.int .u8 (x0.toNat : Int))).frozen? ⟨gk, p, none⟩ = false := o2.frozenAt p
      have o3 := (o2.stored p (.int .u8 (x1.toNat : Int))).1
      rw [bc_set] at o3
      have O3 := Lib.hid o3
      have HL3 : Hid (((ks.set i x0).set p x1).length = 32) := by rw [Hid, List.length_set, List.length_set, hkl]
      clear o2 o3 oo hkl hp
      go_wp2
      go_roundw
      case rel => exact ⟨i + 1, by omega, by go_num, ⟨_, HL3.out, O3.out⟩, below_set (below_set kz HGK.out _) HGK.out _⟩
      case measure => simp [intOf]; omega
    · obtain rfl : i = 16 := by omega
      have OK' : Hid (∀ W, Below wz.heap.size wz W → IsB W (.slice (some ⟨gk, 0, none⟩) 32 32) ks) := fun W kW => by
        have h : Own wz w2.heap.size (.slice (some ⟨gk, 0, none⟩) 32 32) ks := by rw [Own, hkl]; exact oo
        exact (h.isB).below kW
      have HKL := Lib.hid hkl
      clear oo hkl hlt
      go_wp2_with (refine wpList_make_cap _ rfl (.tmp 38) (.tmp 38) rfl .i64 .i64 _ _ n n rfl rfl rfl rfl (by omega) (by omega) ?_; intro w4 o4 k4)
      obtain ⟨gb, hgb⟩ : ∃ g, g = wz.heap.size := ⟨_, rfl⟩
      have O4 : Hid (∃ bs : List UInt8, bs.length = n ∧ w4.ownsRow wz.heap.size 5 1 (.slice (some ⟨gb, 0, none⟩) n n) n (Lib.byteCells bs)) := ⟨List.replicate n 0, List.length_replicate, by
        rw [hgb]
        have h := o4
        rw [Own, List.length_replicate] at h
        exact h⟩
      have HGB : Hid (wz.heap.size ≤ gb) := Nat.le_of_eq hgb.symm
      rw [← hgb]
      clear o4 hgb
      go_loopw [12] (fun iv wr => ∃ i : Nat, i ≤ n ∧ iv = .int .i64 i ∧ Hid (∃ bs : List UInt8, bs.length = n ∧ wr.ownsRow wz.heap.size 5 1 (.slice (some ⟨gb, 0, none⟩) n n) n (Lib.byteCells bs)) ∧ Below wz.heap.size wz wr)
        (fun iv _ => n - (intOf iv).toNat)
      case atStart => exact ⟨0, by omega, rfl, O4, k4⟩
      case round =>
        clear O4 k4
        obtain ⟨wy, rfl⟩ : ∃ x, x = wr := ⟨_, rfl⟩
        obtain ⟨i, hi, rfl, ⟨bs, hbl, oo⟩, ky⟩ := hrel
        have k2y : Below w2.heap.size w2 wy := kz.trans (ky.mono kz.size)
        by_cases hlt : i < n
        · have c0 := HC0.out wy k2y
          have c1 : wy.cell? ⟨gb, i, none⟩ = some (.int .u8 ((bs.getD i 0).toNat : Int)) := by rw [oo.cellAt i (by omega), byteCells_getElem? _ _ (by rw [hbl]; exact hlt)]
          have f1 : wy.frozen? ⟨gb, i, none⟩ = false := oo.frozenAt i
          have o2 := (oo.stored i (.int .u8 (y0.toNat : Int))).1
          rw [bc_set] at o2
          have hiI : (i : Int) < n := by omega
          obtain ⟨j, hj⟩ : ∃ j, j = i % 16 := ⟨_, rfl⟩
          have u1 : (i : Int) % 16 = (j : Int) := by omega
          have u2 : (i : Int).tmod 16 = (j : Int) := by rw [Int.tmod_eq_emod_of_nonneg (by omega)]; omega
          clear hj
          by_cases hj0 : j = 0
          · have hjI : (j : Int) = 0 := by omega
            have c2 : (wy.setCell ⟨gb, i, none⟩ (.int .u8 (y0.toNat : Int))).cell? ⟨gb, i, none⟩ = some (.int .u8 (((bs.set i y0).getD i 0).toNat : Int)) := by rw [o2.cellAt i (by omega), byteCells_getElem? _ _ (by rw [List.length_set, hbl]; exact hlt)]
            have f2 : (wy.setCell ⟨gb, i, none⟩ (.int .u8 (y0.toNat : Int))).frozen? ⟨gb, i, none⟩ = false := o2.frozenAt i
            have c3 := HC1.out _ (below_set k2y (Nat.le_trans kz.size HGB.out) (.int .u8 (y0.toNat : Int)) (i := i))
            have o3 := (o2.stored i (.int .u8 (y1.toNat : Int))).1
            rw [bc_set] at o3
            have O3 := Lib.hid o3
            have HL3 : Hid (((bs.set i y0).set i y1).length = n) := by rw [Hid, List.length_set, List.length_set, hbl]
            clear o2 o3 oo hbl
            go_wp2
            go_roundw
            case rel => exact ⟨i + 1, by omega, by go_num, ⟨_, HL3.out, O3.out⟩, below_set (below_set ky HGB.out _) HGB.out _⟩
            case measure => simp [intOf]; omega
          · have hjI : ¬ (j : Int) = 0 := by omega
            have O2 := Lib.hid o2
            have HL2 : Hid ((bs.set i y0).length = n) := by rw [Hid, List.length_set, hbl]
            clear o2 oo hbl
            go_wp2
            go_roundw
            case rel => exact ⟨i + 1, by omega, by go_num, ⟨_, HL2.out, O2.out⟩, below_set ky HGB.out _⟩
            case measure => simp [intOf]; omega
        · obtain rfl : i = n := by omega
          have OB : Hid (IsB wy (.slice (some ⟨gb, 0, none⟩) i i) bs) := by
            have h : Own wy wz.heap.size (.slice (some ⟨gb, 0, none⟩) i i) bs := by rw [Own, hbl]; exact oo
            exact h.isB
          have HBL : Hid (bs.length ≤ 255) := by rw [Hid, hbl]; omega
          obtain ⟨T, hT⟩ : ∃ T, Hid (T = M.tag ks bs) := ⟨_, rfl⟩
          have HTG : Hid (Calls Try.prog 8 #[.slice (some ⟨gk, 0, none⟩) 32 32, .slice (some ⟨gb, 0, none⟩) i i] wy fun e w' => ∃ r, e = .returned (.tuple #[r, .int .i64 0]) ∧ Own w' wy.heap.size r T ∧ Below wy.heap.size wy w') := by
            rw [Hid, hT.out]
            exact tag_yes _ _ ks bs wy (OK'.out wy ky) OB.out HKL.out (by have := HBL.out; omega)
          clear oo hbl hlt
          go_wp2_with fail
          refine HTG.out.mono ?_
          rintro e w5 ⟨r5, rfl, o5, k5⟩
          have HTR : Hid (Calls Try.prog 9 #[.slice (some ⟨gk, 0, none⟩) 32 32, .slice (some ⟨gb, 0, none⟩) i i] w5 fun e w' => ∃ r, e = .returned (.tuple #[r, .int .i64 0]) ∧ Own w' w5.heap.size r T ∧ Below w5.heap.size w5 w') := by
            rw [Hid, hT.out]
            exact rtag_any _ _ ks bs w5 (OK'.out w5 (ky.trans (k5.mono ky.size))) (OB.out.below k5) HKL.out (by have := HBL.out; omega)
          have O5 : Hid (IsB w5 r5 T) := o5.isB
          clear o5 HTG
          go_wp2_with fail
          refine HTR.out.mono ?_
          rintro e w6 ⟨r6, rfl, o6, k6⟩
          have k26 : Below w2.heap.size w2 w6 := k2y.trans ((k5.trans (k6.mono k5.size)).mono k2y.size)
          have i5 : IsB w6 r5 T := O5.out.below k6
          have i6 : IsB w6 r6 T := o6.isB
          have HE1 := Lib.hid (requal_yes5 r5 r6 T w6 i5 i6)
          clear o6 HTR i5 i6 k5 k6 O5
          go_wp2_with fail
          refine HE1.out.mono ?_
          rintro e w7 ⟨rfl, k7⟩
          have kw : Below w.heap.size w w7 := kk2.trans ((k26.trans (k7.mono k26.size)).mono kk2.size)
          go_wp2
          go_ret
          exact ⟨rfl, kw⟩

end Go.Proofs.Ytbjmkgbjpcepaaa
