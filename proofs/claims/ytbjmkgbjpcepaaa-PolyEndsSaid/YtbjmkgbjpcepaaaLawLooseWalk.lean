/-
  THE WALK OF orloplaw05.PolyLoose: it returns true, and writes nothing that was there. Conditions: none but that the arrays are arrays of their lengths.
-/
import Derived.Test.YtbjmkgbjpcepaaaPolyAwake
import Derived.Test.YtbjmkgbjpcepaaaWordC
import Derived.StillTailTactics
namespace Go.Proofs.Ytbjmkgbjpcepaaa
open Go.RowKit
set_option linter.unusedVariables false

namespace M

/-- The four greatest bits of a byte; the two least. -/
def up (t : UInt8) : UInt8 := UInt8.ofNat (t.toNat / 16 * 16)
def lo (t : UInt8) : UInt8 := UInt8.ofNat (t.toNat % 4)

def lk1 (key t : List UInt8) : Nat → List UInt8
  | 0 => key
  | i + 1 => (lk1 key t i).set (4 * i + 3) ((lk1 key t i).getD (4 * i + 3) 0 ^^^ up (t.getD i 0))

def lk2 (key t : List UInt8) : Nat → List UInt8
  | 0 => key
  | i + 1 => (lk2 key t i).set (4 * i + 4) ((lk2 key t i).getD (4 * i + 4) 0 ^^^ lo (t.getD (4 + i) 0))

theorem lk1_length (key t : List UInt8) (k : Nat) : (lk1 key t k).length = key.length := by
  induction k with
  | zero => rfl
  | succ k ih => simp [lk1, ih]

theorem lk2_length (key t : List UInt8) (k : Nat) : (lk2 key t k).length = key.length := by
  induction k with
  | zero => rfl
  | succ k ih => simp [lk2, ih]

theorem xor_and (x y m : UInt8) : (x ^^^ y) &&& m = (x &&& m) ^^^ (y &&& m) := by
  apply UInt8.toBitVec_inj.1
  apply BitVec.eq_of_getLsbD_eq
  intro i hi
  simp [Bool.and_xor_distrib_right]

theorem up_and (n : Fin 256) : (UInt8.ofNat (n.1 / 16 * 16)) &&& 15 = 0 := by revert n; decide +kernel

theorem low_and (n : Fin 256) : (UInt8.ofNat (n.1 % 4)) &&& 252 = 0 := by revert n; decide +kernel

theorem loose15 (x t : UInt8) : (x ^^^ up t) &&& 15 = x &&& 15 := by
  rw [xor_and, up, up_and ⟨t.toNat, t.toNat_lt⟩, UInt8.xor_zero]

theorem loose252 (x t : UInt8) : (x ^^^ lo t) &&& 252 = x &&& 252 := by
  rw [xor_and, lo, low_and ⟨t.toNat, t.toNat_lt⟩, UInt8.xor_zero]

theorem loose_tag (key t m : List UInt8) (hk : key.length = 32) : tag (lk2 (lk1 key t 4) t 3) m = tag key m := by
  have hK : (lk2 (lk1 key t 4) t 3).length = 32 := by rw [lk2_length, lk1_length, hk]
  have hd : (lk2 (lk1 key t 4) t 3).drop 16 = key.drop 16 := by
    simp only [lk2, lk1]
    simp [List.drop_set]
  have hc : clamp (lk2 (lk1 key t 4) t 3) = clamp key := by
    rw [clamp_row _ hK, clamp_row _ hk]
    simp only [lk2, lk1, List.getD_eq_getElem?_getD, List.getElem?_set, List.length_set, hk]
    simp [loose15, loose252]
  rw [tag, tag, rN, rN, hc, hd]

theorem up_nat (t : UInt8) : (up t).toNat = t.toNat / 16 * 16 := by
  have := t.toNat_lt
  rw [up, UInt8.toNat_ofNat']
  omega

theorem lo_nat (t : UInt8) : (lo t).toNat = t.toNat % 4 := by
  rw [lo, UInt8.toNat_ofNat']
  omega

end M

theorem b_xor5 (a b : UInt8) : bits BinOp.xor .u8 (a.toNat : Int) (b.toNat : Int) = ((a ^^^ b).toNat : Int) := by
  rw [u8_xor_nat _ _ a.toNat_lt b.toNat_lt, UInt8.toNat_xor]

theorem requal_yes5 (v1 v2 : Value) (xs : List UInt8) (w : World) (h1 : IsB w v1 xs) (h2 : IsB w v2 xs) :
    Calls Try.prog 10 #[v1, v2] w fun e w' => e = .returned (.bool true) ∧ Below w.heap.size w w' := by
  refine (requal_b v1 v2 xs xs w h1 h2).mono ?_
  rintro e w' ⟨rfl, k⟩
  exact ⟨by simp, k⟩

theorem blk_isB0 {w : World} {g : Nat} {t : TypeId} {bs : List UInt8} (h : Blk w g t (Lib.byteCells bs)) (n : Nat) (hn : bs.length = n) (hm : n ≤ 1000) : IsB w (.slice (some ⟨g, 0, none⟩) n n) bs := by
  have := blk_isB h 0 (by omega)
  rwa [List.drop_zero, Nat.sub_zero, hn] at this

set_option maxHeartbeats 4000000 in
theorem polyLoose_walk (w : World) (key : List UInt8) (hk : key.length = 32) (mv : Value) (m : List UInt8) (hm : IsB w mv m) (t : List UInt8) (ht : t.length = 7) :
    Calls Try.prog 6 #[.agg (Lib.byteCells key).toArray, mv, .agg (Lib.byteCells t).toArray] w fun e w' => e = .returned (.bool true) ∧ Below w.heap.size w w' := by
  have HK := Lib.hid hk
  have HT := Lib.hid ht
  have HM := Lib.hid hm
  obtain ⟨a2, c2, rfl, hm1, hm2, hmt⟩ := hm
  obtain ⟨L, hL⟩ : ∃ L, L = m.length := ⟨_, rfl⟩
  have HLN := Lib.hid hL
  rw [← hL] at HM hm1 ⊢
  unfold maxLen at hm2
  obtain ⟨w1, hw1⟩ : ∃ x, Hid (x = (w.alloc (.cells (Lib.byteCells key).toArray 32)).alloc (.cells (Lib.byteCells t).toArray 33)) := ⟨_, rfl⟩
  have B0 : Hid (Blk w1 w.heap.size 32 (Lib.byteCells key)) := by rw [hw1.out]; exact (Blk.newAt _ _ _ _ _ rfl (by simp)).alloc _
  have B1 : Hid (Blk w1 (w.heap.size + 1) 33 (Lib.byteCells t)) := by rw [hw1.out]; exact Blk.newAt _ _ _ _ _ (by simp) (by simp)
  have k1 : Below w.heap.size w w1 := by rw [hw1.out]; exact ((Below.refl _ _).alloc (Nat.le_refl _) _).alloc (by simp) _
  clear hk ht hL hmt
  go_enter Try.func6, Try.ntmps6
  go_wp2_with fail
  rw [← hw1.out]
  refine (polyAwake_any w1).mono ?_
  rintro e w2 ⟨rfl, k2⟩
  have kk2 : Below w.heap.size w w2 := k1.trans (k2.mono k1.size)
  have B0' : Hid (Blk w2 w.heap.size 32 (Lib.byteCells key)) := B0.out.below k2 B0.out.lt
  have B1' : Hid (Blk w2 (w.heap.size + 1) 33 (Lib.byteCells t)) := B1.out.below k2 B1.out.lt
  clear B0 B1 k1 k2
  by_cases hb : 2048 < L
  · go_wp2
    go_ret
    exact ⟨rfl, kk2⟩
  · have R0 : Hid (w2.rangeAt w.heap.size 0 (Lib.byteCells key)) := B0'.out.range 0 _ [] (by simp)
    go_wp2_with (first
      | (refine wpList_load_mid rfl 32 (.tmp 3) rfl w.heap.size 0 rfl (Lib.byteCells key) _ R0.out Try.underlying32 rfl (by rw [byteCells_length, HK.out]; kernel_rfl) ?_)
      | (refine wpList_store_blk rfl 32 (.tmp 7) (.tmp 19) rfl w2.heap.size (Lib.byteCells key).toArray rfl rfl 32 (List.replicate 32 (.int .u8 0)) (Blk.newAt _ _ _ _ _ rfl rfl) (by rw [List.size_toArray, byteCells_length, HK.out]; kernel_rfl) (by rw [List.size_toArray, byteCells_length, HK.out, List.length_replicate]) (bc_oneCell key) ?_; intro w3 hb3 ho3))
    have D0 : Hid (Blk w3 w.heap.size 32 (Lib.byteCells key)) := (B0'.out.alloc _).grown ho3 (by intro e; injection e with e; have := B0'.out.lt; omega)
    have D1 : Hid (Blk w3 (w.heap.size + 1) 33 (Lib.byteCells t)) := (B1'.out.alloc _).grown ho3 (by intro e; injection e with e; have := B1'.out.lt; omega)
    have D2 : Hid (Blk w3 w2.heap.size 32 (Lib.byteCells (M.lk1 key t 0))) := hb3
    have k3 : Below w.heap.size w w3 := (kk2.alloc kk2.size _).trans (ho3.below (by have := kk2.size; simp; omega) kk2.size)
    obtain ⟨g, hg⟩ : ∃ g, g = w2.heap.size := ⟨_, rfl⟩
    have hg1 : w.heap.size + 1 < g := by rw [hg]; exact B1'.out.lt
    rw [← hg] at D2 ⊢
    clear hb3 ho3 B0' B1' kk2 hg R0
    go_loopw [8] (fun iv wr => ∃ i : Nat, i ≤ 4 ∧ iv = .int .i64 i ∧ Hid (Blk wr w.heap.size 32 (Lib.byteCells key)) ∧ Hid (Blk wr (w.heap.size + 1) 33 (Lib.byteCells t)) ∧ Hid (Blk wr g 32 (Lib.byteCells (M.lk1 key t i))) ∧ Below w.heap.size w wr)
      (fun iv _ => 4 - (intOf iv).toNat)
    case atStart => exact ⟨0, by omega, rfl, D0, D1, D2, k3⟩
    case round =>
      clear D0 D1 D2 k3
      obtain ⟨wA, rfl⟩ : ∃ x, x = wr := ⟨_, rfl⟩
      obtain ⟨i, hi, rfl, b0, b1, b2, kk⟩ := hrel
      by_cases hlt : i < 4
      · obtain ⟨p, hp⟩ : ∃ p, p = 4 * i + 3 := ⟨_, rfl⟩
        have hp32 : p < 32 := by omega
        have hpI : (p : Int) < 32 := by omega
        have hpi : 4 * (i : Int) + 3 = p := by omega
        have hpw : IntKind.i64.wrap (4 * (i : Int)) = 4 * i := IntWalk.i64_in _ (by omega)
        have hpw2 : IntKind.i64.wrap (4 * (i : Int) + 3) = p := by rw [hpi]; exact IntWalk.i64_in _ (by omega)
        have hpw2' : IntKind.i64.wrap (p : Int) = p := IntWalk.i64_in _ (by omega)
        have hi7 : (i : Int) < 7 := by omega
        obtain ⟨x, hx⟩ : ∃ x, Hid (x = (M.lk1 key t i).getD p 0) := ⟨_, rfl⟩
        obtain ⟨y, hy⟩ : ∃ y, Hid (y = t.getD i 0) := ⟨_, rfl⟩
        have cx : wA.cell? ⟨g, p, none⟩ = some (.int .u8 (x.toNat : Int)) := by rw [b2.out.cell, byteCells_getElem? _ _ (by rw [M.lk1_length, HK.out]; exact hp32), hx.out]
        have cy : wA.cell? ⟨w.heap.size + 1, i, none⟩ = some (.int .u8 (y.toNat : Int)) := by rw [b1.out.cell, byteCells_getElem? _ _ (by rw [HT.out]; omega), hy.out]
        have fx : wA.frozen? ⟨g, p, none⟩ = false := b2.out.frozen p
        obtain ⟨u, hu⟩ : ∃ u, Hid (u = M.up y) := ⟨_, rfl⟩
        obtain ⟨q, hq⟩ : ∃ q, q = y.toNat / 16 := ⟨_, rfl⟩
        have hyb := y.toNat_lt
        have hun : (u.toNat) = q * 16 := by rw [hu.out, M.up_nat, hq]
        have t1 : (y.toNat : Int) / 16 = (q : Int) := by omega
        have t2 : (y.toNat : Int).tdiv 16 = (q : Int) := by rw [Int.tdiv_eq_ediv_of_nonneg (by omega)]; omega
        have t3 : (q : Int) * 16 = (u.toNat : Int) := by omega
        have t3w : IntKind.u8.wrap ((q : Int) * 16) = (u.toNat : Int) := by
          rw [t3, show IntKind.u8.wrap (u.toNat : Int) = (u.toNat : Int) % 256 from rfl]
          have := u.toNat_lt
          omega
        have t3w' : IntKind.u8.wrap (u.toNat : Int) = (u.toNat : Int) := by
          rw [show IntKind.u8.wrap (u.toNat : Int) = (u.toNat : Int) % 256 from rfl]
          have := u.toNat_lt
          omega
        have t3m : (u.toNat : Int) % 256 = (u.toNat : Int) := by have := u.toNat_lt; omega
        obtain ⟨z, hz⟩ : ∃ z, Hid (z = x ^^^ u) := ⟨_, rfl⟩
        have t4 : bits BinOp.xor .u8 (x.toNat : Int) (u.toNat : Int) = (z.toNat : Int) := by rw [hz.out]; exact b_xor5 x u
        have HNX : Hid (M.lk1 key t (i + 1) = (M.lk1 key t i).set p z) := by
          rw [Hid, M.lk1, ← hp, ← hx.out, ← hy.out, ← hu.out, ← hz.out]
        have HP := Lib.hid hp
        clear hp hq hun hyb
        go_wp2
        refine wp_region_still 15 (by kernel_rfl) (by kernel_rfl) ?_
        simp only [List.take_succ_cons, List.take_zero, List.drop_succ_cons, List.drop_zero]
        repeat still_step
        refine wpStill_nil ?_
        go_wp2
        go_roundw
        case rel =>
          refine ⟨i + 1, by omega, by go_num, (blk_far b0.out (by omega) _).drew, (blk_far b1.out (by omega) _).drew, ?_, drewN_below (below_set kk (by omega) _) 1⟩
          rw [Hid, HNX.out, ← bc_set]
          exact (b2.out.set_ p _).drew
        case measure => simp [intOf]; omega
      · obtain rfl : i = 4 := by omega
        obtain ⟨K, hK⟩ : ∃ K, Hid (K = M.lk1 key t 4) := ⟨_, rfl⟩
        have HKL : Hid (K.length = 32) := by rw [Hid, hK.out, M.lk1_length, HK.out]
        have D2 : Hid (Blk wA g 32 (Lib.byteCells (M.lk2 K t 0))) := by rw [hK.out]; exact b2
        clear b2
        go_wp2
        rw [show ((4 : Nat) : Int) = 4 from rfl]
        go_loopw [9] (fun iv wr => ∃ i : Nat, i ≤ 3 ∧ iv = .int .i64 i ∧ Hid (Blk wr w.heap.size 32 (Lib.byteCells key)) ∧ Hid (Blk wr (w.heap.size + 1) 33 (Lib.byteCells t)) ∧ Hid (Blk wr g 32 (Lib.byteCells (M.lk2 K t i))) ∧ Below w.heap.size w wr)
          (fun iv _ => 3 - (intOf iv).toNat)
        case atStart => exact ⟨0, by omega, rfl, b0, b1, D2, kk⟩
        case round =>
          clear b0 b1 D2 kk
          obtain ⟨wz, rfl⟩ : ∃ x, x = wr := ⟨_, rfl⟩
          obtain ⟨i, hi, rfl, b0, b1, b2, kk⟩ := hrel
          by_cases hlt2 : i < 3
          · obtain ⟨p, hp⟩ : ∃ p, p = 4 * i + 4 := ⟨_, rfl⟩
            obtain ⟨p4, hp4⟩ : ∃ p, p = 4 + i := ⟨_, rfl⟩
            have hp32 : p < 32 := by omega
            have hpI : (p : Int) < 32 := by omega
            have hpi : 4 * (i : Int) + 4 = p := by omega
            have hpw : IntKind.i64.wrap (4 * (i : Int)) = 4 * i := IntWalk.i64_in _ (by omega)
            have hpw2 : IntKind.i64.wrap (4 * (i : Int) + 4) = p := by rw [hpi]; exact IntWalk.i64_in _ (by omega)
            have hpw2' : IntKind.i64.wrap (p : Int) = p := IntWalk.i64_in _ (by omega)
            have hp4i : (4 : Int) + i = p4 := by omega
            have hp4w : IntKind.i64.wrap ((4 : Int) + i) = p4 := by rw [hp4i]; exact IntWalk.i64_in _ (by omega)
            have hp4w' : IntKind.i64.wrap (p4 : Int) = p4 := IntWalk.i64_in _ (by omega)
            have hp47 : (p4 : Int) < 7 := by omega
            obtain ⟨x, hx⟩ : ∃ x, Hid (x = (M.lk2 K t i).getD p 0) := ⟨_, rfl⟩
            obtain ⟨y, hy⟩ : ∃ y, Hid (y = t.getD p4 0) := ⟨_, rfl⟩
            have cx : wz.cell? ⟨g, p, none⟩ = some (.int .u8 (x.toNat : Int)) := by rw [b2.out.cell, byteCells_getElem? _ _ (by rw [M.lk2_length, HKL.out]; exact hp32), hx.out]
            have cy : wz.cell? ⟨w.heap.size + 1, p4, none⟩ = some (.int .u8 (y.toNat : Int)) := by rw [b1.out.cell, byteCells_getElem? _ _ (by rw [HT.out]; omega), hy.out]
            have fx : wz.frozen? ⟨g, p, none⟩ = false := b2.out.frozen p
            obtain ⟨u, hu⟩ : ∃ u, Hid (u = M.lo y) := ⟨_, rfl⟩
            have hyb := y.toNat_lt
            have hun : u.toNat = y.toNat % 4 := by rw [hu.out, M.lo_nat]
            have t1 : (y.toNat : Int) % 4 = (u.toNat : Int) := by omega
            have t2 : (y.toNat : Int).tmod 4 = (u.toNat : Int) := by rw [Int.tmod_eq_emod_of_nonneg (by omega)]; omega
            obtain ⟨z, hz⟩ : ∃ z, Hid (z = x ^^^ u) := ⟨_, rfl⟩
            have t4 : bits BinOp.xor .u8 (x.toNat : Int) (u.toNat : Int) = (z.toNat : Int) := by rw [hz.out]; exact b_xor5 x u
            have HNX : Hid (M.lk2 K t (i + 1) = (M.lk2 K t i).set p z) := by
              rw [Hid, M.lk2, ← hp, ← hx.out, ← hp4, ← hy.out, ← hu.out, ← hz.out]
            clear hp hp4 hun hyb
            go_wp2
            refine wp_region_still 15 (by kernel_rfl) (by kernel_rfl) ?_
            simp only [List.take_succ_cons, List.take_zero, List.drop_succ_cons, List.drop_zero]
            repeat still_step
            refine wpStill_nil ?_
            go_wp2
            go_roundw
            case rel =>
              refine ⟨i + 1, by omega, by go_num, (blk_far b0.out (by omega) _).drew, (blk_far b1.out (by omega) _).drew, ?_, drewN_below (below_set kk (by omega) _) 1⟩
              rw [Hid, HNX.out, ← bc_set]
              exact (b2.out.set_ p _).drew
            case measure => simp [intOf]; omega
          · obtain rfl : i = 3 := by omega
            obtain ⟨K2, hK2⟩ : ∃ J, Hid (J = M.lk2 K t 3) := ⟨_, rfl⟩
            have HKL2 : Hid (K2.length = 32) := by rw [Hid, hK2.out, M.lk2_length, HKL.out]
            rw [← hK2.out] at b2
            obtain ⟨T, hT⟩ : ∃ T, Hid (T = M.tag key m) := ⟨_, rfl⟩
            have HM4 : Hid (m.length ≤ 70368744177664) := by rw [Hid, ← HLN.out]; omega
            have HC1 : Hid (∀ W, Below wz.heap.size wz W → Calls Try.prog 8 #[.slice (some ⟨w.heap.size, 0, none⟩) 32 32, .slice a2 L c2] W fun e w' => ∃ r, e = .returned (.tuple #[r, .int .i64 0]) ∧ Own w' W.heap.size r T ∧ Below W.heap.size W w') := fun W kW => by
              rw [hT.out]
              exact tag_yes _ _ key m W (blk_isB0 (b0.out.below kW b0.out.lt) 32 HK.out (by decide)) (HM.out.below (kk.trans (kW.mono kk.size))) HK.out HM4.out
            have HC2 : Hid (∀ W, Below wz.heap.size wz W → Calls Try.prog 8 #[.slice (some ⟨g, 0, none⟩) 32 32, .slice a2 L c2] W fun e w' => ∃ r, e = .returned (.tuple #[r, .int .i64 0]) ∧ Own w' W.heap.size r T ∧ Below W.heap.size W w') := fun W kW => by
              rw [hT.out, ← M.loose_tag key t m HK.out, ← hK.out, ← hK2.out]
              exact tag_yes _ _ K2 m W (blk_isB0 (b2.out.below kW b2.out.lt) 32 HKL2.out (by decide)) (HM.out.below (kk.trans (kW.mono kk.size))) HKL2.out HM4.out
            go_wp2_with fail
            refine (HC1.out _ (Below.refl _ _)).mono ?_
            rintro e w4 ⟨r4, rfl, o4, k4⟩
            go_wp2_with fail
            refine (HC2.out _ k4).mono ?_
            rintro e w5 ⟨r5, rfl, o5, k5⟩
            have i4 : IsB w5 r4 T := (o4.below k5).isB
            have i5 : IsB w5 r5 T := o5.isB
            have kw5 : Below w.heap.size w w5 := kk.trans ((k4.trans (k5.mono k4.size)).mono kk.size)
            clear HC1 HC2 o4 o5 k4 k5
            go_wp2_with fail
            refine (requal_yes5 r4 r5 T w5 i4 i5).mono ?_
            rintro e w6 ⟨rfl, k6⟩
            go_wp2
            go_ret
            exact ⟨rfl, kw5.trans (k6.mono kw5.size)⟩

end Go.Proofs.Ytbjmkgbjpcepaaa
