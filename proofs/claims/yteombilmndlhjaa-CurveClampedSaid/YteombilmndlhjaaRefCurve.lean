/-
  CONTRACT OF orlopref08.Clamp. Conditions: the scalar has 32 bytes; what is nil has no spare room.
  CONTRACTS OF orlopref08.Shared AND Public. Conditions: as each says.
  WHAT PACKAGE curve OWES, AS ONE PREMISE (CurveOk), AND WHAT FOLLOWS: orloplaw08.awake. Conditions: CurveOk (proved of the code elsewhere).
-/
import Derived.Test.YteombilmndlhjaaLimbs
import Derived.Test.YteombilmndlhjaaAppend
import Derived.Test.YteombilmndlhjaaApart
import Derived.Test.YteombilmndlhjaaRefLad
import Derived.Test.YteombilmndlhjaaFieldEq
import Derived.Test.YteombilmndlhjaaWordC
import Derived.Test.YteombilmndlhjaaRefUnhex

namespace Go.Proofs.Yteombilmndlhjaa
open Go.RowKit
set_option linter.unusedVariables false

namespace M

/-- A scalar clamped. -/
def clampB (ks : List UInt8) : List UInt8 := (ks.set 0 (UInt8.ofNat ((ks.getD 0 0).toNat / 8 * 8))).set 31 (UInt8.ofNat ((ks.getD 31 0).toNat % 64 + 64))

theorem clampB_length (ks : List UInt8) : (clampB ks).length = ks.length := by simp [clampB]

theorem of_nat8 (n : Nat) (h : n < 256) : (UInt8.ofNat n).toNat = n := by rw [UInt8.toNat_ofNat', Nat.mod_eq_of_lt (show n < 2 ^ 8 from h)]

end M

set_option maxHeartbeats 2000000 in
theorem rclamp_any (kv : Value) (ks : List UInt8) (w : World) (hk : IsB w kv ks) (hkl : ks.length = 32) :
    Calls Try.prog 14 #[kv] w (Makes w (M.clampB ks)) := by
  have HK := Lib.hid hk
  have HKL := Lib.hid hkl
  have HNIL : Hid (∀ n c, kv = .slice none n c → c = 0) := by
    intro n c e
    obtain ⟨ao, cap, e2, h1, h2, h3⟩ := hk
    rcases h3 with h | ⟨b, off, h4, h⟩
    · rw [h] at hkl; simp at hkl
    · rw [h4] at e2; rw [e2] at e; cases e
  obtain ⟨ao, cap, rfl⟩ := hk.shape
  rw [hkl] at HK HNIL ⊢
  obtain ⟨x, hx⟩ : ∃ x, Hid (x = (ks.getD 0 0).toNat) := ⟨_, rfl⟩
  obtain ⟨y, hy⟩ : ∃ x, Hid (x = (ks.getD 31 0).toNat) := ⟨_, rfl⟩
  have hxb : x < 256 := by rw [hx.out]; exact UInt8.toNat_lt _
  have hyb : y < 256 := by rw [hy.out]; exact UInt8.toNat_lt _
  obtain ⟨x8, hx8⟩ : ∃ v, v = x / 8 := ⟨_, rfl⟩
  obtain ⟨u, hu⟩ : ∃ v, v = x8 * 8 := ⟨_, rfl⟩
  obtain ⟨y6, hy6⟩ : ∃ v, v = y % 64 := ⟨_, rfl⟩
  obtain ⟨v, hv⟩ : ∃ v, v = y6 + 64 := ⟨_, rfl⟩
  have s1 : (x : Int) / 8 = (x8 : Int) := by omega
  have s1' : (x : Int).tdiv 8 = (x8 : Int) := by rw [Int.tdiv_eq_ediv_of_nonneg (by omega)]; exact s1
  have s0 : (x8 : Int) % 256 = (x8 : Int) := by omega
  have s0' : IntKind.u8.wrap (x8 : Int) = (x8 : Int) := by rw [IntKind.wrap_u8]; omega
  have s2 : IntKind.u8.wrap ((x8 : Int) * 8) = (u : Int) := by rw [IntKind.wrap_u8]; omega
  have s2' : ((x8 : Int) * 8) % 256 = (u : Int) := by omega
  have s3 : (y : Int) % 64 = (y6 : Int) := by omega
  have s3' : (y : Int).tmod 64 = (y6 : Int) := by rw [Int.tmod_eq_emod_of_nonneg (by omega)]; exact s3
  have s4 : IntKind.u8.wrap ((y6 : Int) + 64) = (v : Int) := by rw [IntKind.wrap_u8]; omega
  have s4' : ((y6 : Int) + 64) % 256 = (v : Int) := by omega
  have HU : Hid ((UInt8.ofNat u).toNat = u ∧ u = (ks.getD 0 0).toNat / 8 * 8) := ⟨M.of_nat8 u (by omega), by rw [hu, hx8, hx.out]⟩
  have HV : Hid ((UInt8.ofNat v).toNat = v ∧ v = (ks.getD 31 0).toNat % 64 + 64) := ⟨M.of_nat8 v (by omega), by rw [hv, hy6, hy.out]⟩
  clear hk hkl hxb hyb hx8 hu hy6 hv
  go_enter Try.func14, Try.ntmps14
  go_wp2_with (at_builtin; go_must (refine wpList_app _ rfl _ _ rfl w.heap.size _ [] rfl ?c1 _ ks rfl ?c2 HNIL.out (by rw [HKL.out]; simp) (by simp) ?_))
  case c1 => exact own_empty w
  case c2 => exact HK.out.below ((Below.refl _ _).alloc (Nat.le_refl _) _)
  intro r1 w1 o1 b1 z1
  have K1 : Hid (Below w.heap.size w w1) := ((Below.refl _ _).alloc (Nat.le_refl _) (.cells #[] 5)).trans b1
  have o2 : Own w1 w.heap.size r1 ks := o1
  obtain ⟨g, cap2, rfl, hg⟩ := o2.shape (by rw [HKL.out]; decide)
  have hrow : w1.ownsRow w.heap.size 5 1 (.slice (some ⟨g, 0, none⟩) 32 cap2) 32 (Lib.byteCells ks) := by
    have h := o2
    rw [HKL.out] at h
    rwa [Own, HKL.out] at h
  rw [HKL.out]
  clear o1 o2 b1 z1 HK HNIL
  have c0 : w1.cell? ⟨g, 0, none⟩ = some (.int .u8 (x : Int)) := by rw [hrow.cellAt 0 (by decide), byteCells_getElem? _ _ (by rw [HKL.out]; decide), hx.out]
  have f0 : w1.frozen? ⟨g, 0, none⟩ = false := hrow.frozenAt 0
  have r2 := (hrow.stored 0 (.int .u8 (u : Int))).1
  have e2 : (Lib.byteCells ks).set 0 (.int .u8 (u : Int)) = Lib.byteCells (ks.set 0 (UInt8.ofNat u)) := by rw [← bc_set, HU.out.1]
  rw [e2] at r2
  obtain ⟨w2, hw2⟩ : ∃ v, v = w1.setCell ⟨g, 0, none⟩ (.int .u8 (u : Int)) := ⟨_, rfl⟩
  rw [← hw2] at r2
  have K2 : Hid (Below w.heap.size w w2) := by rw [hw2]; exact K1.out.setCell hg _
  have c31 : w2.cell? ⟨g, 31, none⟩ = some (.int .u8 (y : Int)) := by rw [r2.cellAt 31 (by decide), byteCells_getElem? _ _ (by rw [List.length_set, HKL.out]; decide), hy.out]; simp [List.getD_eq_getElem?_getD]
  have f31 : w2.frozen? ⟨g, 31, none⟩ = false := r2.frozenAt 31
  have r3 := (r2.stored 31 (.int .u8 (v : Int))).1
  have e3 : (Lib.byteCells (ks.set 0 (UInt8.ofNat u))).set 31 (.int .u8 (v : Int)) = Lib.byteCells (M.clampB ks) := by rw [M.clampB, ← HU.out.2, ← HV.out.2, ← bc_set (ks.set 0 (UInt8.ofNat u)) 31, HV.out.1]
  rw [e3] at r3
  have R3 := Lib.hid r3
  clear r2 r3 hrow e2 e3
  go_upto_region 3 with fail
  rw [← hw2]
  clear hw2 c0 f0
  go_wp2
  go_ret
  exact ⟨_, rfl, by rw [Own, M.clampB_length, HKL.out]; exact R3.out, K2.out.setCell hg _⟩

end Go.Proofs.Yteombilmndlhjaa

namespace Go.Proofs.Yteombilmndlhjaa
open Go.RowKit
set_option linter.unusedVariables false

namespace M

/-- What the ladder tells of a scalar and a point's bytes. -/
def secret (ks ps : List UInt8) : Nat := ladder Q (clampB ks) (told ps % Q)

/-- .. of a scalar and the element 9. -/
def point (ks : List UInt8) : Nat := ladder Q (clampB ks) 9

theorem ladder_lt (ks : List UInt8) (u : Nat) : ladder Q ks u < Q := Nat.mod_lt _ Q_pos

end M

/-- The call hands back the bytes bs in memory of its own, and OK. -/
def MakesOk (w : World) (bs : List UInt8) (e : Ending) (w' : World) : Prop := ∃ r, e = .returned (.tuple #[r, .int .i64 0]) ∧ Own w' w.heap.size r bs ∧ Below w.heap.size w w'

/-- .. or no bytes, and a code. -/
def Refuses (w : World) (c : Nat) (e : Ending) (w' : World) : Prop := e = .returned (.tuple #[.slice none 0 0, .int .i64 (c : Int)]) ∧ Below w.heap.size w w'

set_option maxRecDepth 100000 in
set_option maxHeartbeats 4000000 in
theorem rshared_low (kv pv : Value) (ks ps : List UInt8) (w : World) (hk : IsB w kv ks) (hp : IsB w pv ps) (hkl : ks.length = 32) (hpl : ps.length = 32) (h0 : M.secret ks ps = 0) :
    Calls Try.prog 9 #[kv, pv] w (Refuses w 10) := by
  obtain ⟨x, hx⟩ : ∃ x, Hid (x = M.secret ks ps) := ⟨_, rfl⟩
  rw [← hx.out] at h0
  have H0 := Lib.hid h0
  clear h0
  have HK := Lib.hid hk
  have HP := Lib.hid hp
  have HKL := Lib.hid hkl
  obtain ⟨u, hu⟩ : ∃ u, Hid (M.told ps % M.Q = u) := ⟨_, rfl⟩
  have HUQ : Hid (u < M.Q) := by rw [← hu.out]; exact Nat.mod_lt _ M.Q_pos
  obtain ⟨cs, hcs⟩ : ∃ cs, Hid (cs = M.clampB ks) := ⟨_, rfl⟩
  have HCL : Hid (cs.length = 32) := by rw [Hid, hcs.out, M.clampB_length]; exact hkl
  have HX : Hid (M.ladder M.Q cs u = x) := by rw [Hid, hx.out, M.secret, hcs.out, hu.out]
  have CC : Hid (∀ w, IsB w kv ks → Calls Try.prog 14 #[kv] w (Makes w cs)) := by rw [hcs.out]; exact fun w h => rclamp_any kv ks w h hkl
  obtain ⟨ao, cap, rfl⟩ := hk.shape
  obtain ⟨ap, cap2, rfl⟩ := hp.shape
  rw [hkl] at HK CC ⊢
  rw [hpl] at HP ⊢
  clear hk hp hkl hpl hcs hx
  go_enter Try.func9, Try.ntmps9
  go_wp2_with fail
  refine (CC.out w HK.out).mono ?_
  rintro e w1 ⟨r1, rfl, o1, k1⟩
  have I1 := Lib.hid o1.isB
  have K1 := Lib.hid k1
  clear o1 k1
  go_wp2_with fail
  refine (rfrom_n _ ps w1 (HP.out.below K1.out)).mono ?_
  rintro e w2 ⟨UL, rfl, hU, k2⟩
  rw [hu.out] at hU
  have HUL := Lib.hid hU
  have I2 := Lib.hid (I1.out.below k2)
  have K2 : Hid (Below w.heap.size w w2) := K1.out.trans (k2.mono K1.out.size)
  clear hU k2 I1 K1
  go_wp2_with fail
  refine (rladder_n r1 cs UL u w2 I2.out HCL.out HUL.out HUQ.out).mono ?_
  rintro e w3 ⟨XL, rfl, hX, k3⟩
  rw [HX.out] at hX
  have HXL := Lib.hid hX
  have K3 : Hid (Below w.heap.size w w3) := K2.out.trans (k3.mono K2.out.size)
  obtain ⟨g, hg⟩ : ∃ v, v = w3.heap.size := ⟨_, rfl⟩
  have N6 : Blk (w3.alloc (.cells z32.toArray 49)) g 49 z32 := Blk.newAt _ _ _ _ _ hg rfl
  clear hX k3 I2 K2 HUL
  go_upto_region 4 with (rw [← z32_arr, ← hg]; refine wpList_store_num rfl rfl (.tmp 6) (.tmp 19) rfl g rfl XL z32 rfl N6 z32_len HXL.out.len HXL.out.one ?_; intro w4 hb4 ho4)
  have B4 : Hid (Blk w4 g 49 XL) := hb4
  have K4 : Hid (Below w.heap.size w w4) := (K3.out.alloc K3.out.size _).trans (ho4.below (by have := K3.out.size; simp; omega) (by have := K3.out.size; omega))
  clear hb4 ho4 N6 hg K3
  have hb := decide_eq_true H0.out
  refine wp_region_any (by kernel_rfl) ?_
  change wpAny _ _ _ _ _ _ _ (World.drew _)
  refine wpAny_of_held (S := fun w' => w'.rangeAt g 0 XL) _ _ _ _ ?_
  refine wpAnyH_take_at (i := 0) (v := .agg XL.toArray) rfl rfl (by kernel_rfl) (by kernel_rfl) (by kernel_rfl) (fun _ _ _ h => h) (yieldsIf_load_mid (by rfl) 49 (.tmp 6) rfl g 0 rfl XL _ (fun w h => h) Try.underlying49 rfl (by rw [HXL.out.len]; kernel_rfl)) (B4.out.drew.range 0 _ [] (by simp)) ?_
  simp only [List.setIfInBounds_toArray, List.set_cons_zero, List.set_cons_succ]
  refine wpAnyH_ready (rs := [1]) (by kernel_rfl) (by simp) ?_
  refine AllReadyH.cons rfl (fun KC hK => ?_) AllReadyH.nil
  go_simp
  refine (small_n 0 _ (by decide)).mono ?_
  rintro e w5 ⟨ZL, rfl, hZ, k5⟩
  have K5 : Hid (Below w.heap.size w w5) := K4.out.trans (((below_draws w4 1).trans k5).mono K4.out.size)
  have B5 : Hid (Blk w5 g 49 XL) := B4.out.drew.below k5 B4.out.drew.lt
  have heq : ∀ w, (binOp .eql 49 (.agg XL.toArray) (.agg ZL.toArray)).run Try.prog w = .ok (.bool true) w := fun w => by rw [run_eq_num HXL.out hZ w, hb]
  refine hK.out _ _ (B5.out.range 0 _ [] (by simp)) (fun _ => ?_)
  clear hK KC hZ k5
  refine wpAnyH_take_at (i := 2) (v := .bool true) rfl rfl (by kernel_rfl) (by kernel_rfl) (by kernel_rfl) (fun _ _ _ h => h) (Or.inl ⟨by rfl, fun w hS => by go_simp⟩) (B5.out.range 0 _ [] (by simp)) ?_
  simp only [List.setIfInBounds_toArray, List.set_cons_zero, List.set_cons_succ]
  refine wpAnyH_done (by kernel_rfl) ?_ _
  clear heq hb
  go_wp2
  go_ret2
  exact ⟨rfl, K5.out⟩
set_option maxRecDepth 100000 in
set_option maxHeartbeats 4000000 in
theorem rshared_ok (kv pv : Value) (ks ps : List UInt8) (w : World) (hk : IsB w kv ks) (hp : IsB w pv ps) (hkl : ks.length = 32) (hpl : ps.length = 32) (h0 : ¬ M.secret ks ps = 0) :
    Calls Try.prog 9 #[kv, pv] w (MakesOk w (M.le (M.secret ks ps) 32)) := by
  obtain ⟨x, hx⟩ : ∃ x, Hid (x = M.secret ks ps) := ⟨_, rfl⟩
  rw [← hx.out] at h0 ⊢
  have H0 := Lib.hid h0
  clear h0
  have HK := Lib.hid hk
  have HP := Lib.hid hp
  have HKL := Lib.hid hkl
  obtain ⟨u, hu⟩ : ∃ u, Hid (M.told ps % M.Q = u) := ⟨_, rfl⟩
  have HUQ : Hid (u < M.Q) := by rw [← hu.out]; exact Nat.mod_lt _ M.Q_pos
  obtain ⟨cs, hcs⟩ : ∃ cs, Hid (cs = M.clampB ks) := ⟨_, rfl⟩
  have HCL : Hid (cs.length = 32) := by rw [Hid, hcs.out, M.clampB_length]; exact hkl
  have HX : Hid (M.ladder M.Q cs u = x) := by rw [Hid, hx.out, M.secret, hcs.out, hu.out]
  have CC : Hid (∀ w, IsB w kv ks → Calls Try.prog 14 #[kv] w (Makes w cs)) := by rw [hcs.out]; exact fun w h => rclamp_any kv ks w h hkl
  obtain ⟨ao, cap, rfl⟩ := hk.shape
  obtain ⟨ap, cap2, rfl⟩ := hp.shape
  rw [hkl] at HK CC ⊢
  rw [hpl] at HP ⊢
  clear hk hp hkl hpl hcs hx
  go_enter Try.func9, Try.ntmps9
  go_wp2_with fail
  refine (CC.out w HK.out).mono ?_
  rintro e w1 ⟨r1, rfl, o1, k1⟩
  have I1 := Lib.hid o1.isB
  have K1 := Lib.hid k1
  clear o1 k1
  go_wp2_with fail
  refine (rfrom_n _ ps w1 (HP.out.below K1.out)).mono ?_
  rintro e w2 ⟨UL, rfl, hU, k2⟩
  rw [hu.out] at hU
  have HUL := Lib.hid hU
  have I2 := Lib.hid (I1.out.below k2)
  have K2 : Hid (Below w.heap.size w w2) := K1.out.trans (k2.mono K1.out.size)
  clear hU k2 I1 K1
  go_wp2_with fail
  refine (rladder_n r1 cs UL u w2 I2.out HCL.out HUL.out HUQ.out).mono ?_
  rintro e w3 ⟨XL, rfl, hX, k3⟩
  rw [HX.out] at hX
  have HXL := Lib.hid hX
  have K3 : Hid (Below w.heap.size w w3) := K2.out.trans (k3.mono K2.out.size)
  obtain ⟨g, hg⟩ : ∃ v, v = w3.heap.size := ⟨_, rfl⟩
  have N6 : Blk (w3.alloc (.cells z32.toArray 49)) g 49 z32 := Blk.newAt _ _ _ _ _ hg rfl
  clear hX k3 I2 K2 HUL
  go_upto_region 4 with (rw [← z32_arr, ← hg]; refine wpList_store_num rfl rfl (.tmp 6) (.tmp 19) rfl g rfl XL z32 rfl N6 z32_len HXL.out.len HXL.out.one ?_; intro w4 hb4 ho4)
  have B4 : Hid (Blk w4 g 49 XL) := hb4
  have K4 : Hid (Below w.heap.size w w4) := (K3.out.alloc K3.out.size _).trans (ho4.below (by have := K3.out.size; simp; omega) (by have := K3.out.size; omega))
  clear hb4 ho4 N6 hg K3
  have hb := decide_eq_false H0.out
  refine wp_region_any (by kernel_rfl) ?_
  change wpAny _ _ _ _ _ _ _ (World.drew _)
  refine wpAny_of_held (S := fun w' => w'.rangeAt g 0 XL) _ _ _ _ ?_
  refine wpAnyH_take_at (i := 0) (v := .agg XL.toArray) rfl rfl (by kernel_rfl) (by kernel_rfl) (by kernel_rfl) (fun _ _ _ h => h) (yieldsIf_load_mid (by rfl) 49 (.tmp 6) rfl g 0 rfl XL _ (fun w h => h) Try.underlying49 rfl (by rw [HXL.out.len]; kernel_rfl)) (B4.out.drew.range 0 _ [] (by simp)) ?_
  simp only [List.setIfInBounds_toArray, List.set_cons_zero, List.set_cons_succ]
  refine wpAnyH_ready (rs := [1]) (by kernel_rfl) (by simp) ?_
  refine AllReadyH.cons rfl (fun KC hK => ?_) AllReadyH.nil
  go_simp
  refine (small_n 0 _ (by decide)).mono ?_
  rintro e w5 ⟨ZL, rfl, hZ, k5⟩
  have K5 : Hid (Below w.heap.size w w5) := K4.out.trans (((below_draws w4 1).trans k5).mono K4.out.size)
  have B5 : Hid (Blk w5 g 49 XL) := B4.out.drew.below k5 B4.out.drew.lt
  have heq : ∀ w, (binOp .eql 49 (.agg XL.toArray) (.agg ZL.toArray)).run Try.prog w = .ok (.bool false) w := fun w => by rw [run_eq_num HXL.out hZ w, hb]
  refine hK.out _ _ (B5.out.range 0 _ [] (by simp)) (fun _ => ?_)
  clear hK KC hZ k5
  refine wpAnyH_take_at (i := 2) (v := .bool false) rfl rfl (by kernel_rfl) (by kernel_rfl) (by kernel_rfl) (fun _ _ _ h => h) (Or.inl ⟨by rfl, fun w hS => by go_simp⟩) (B5.out.range 0 _ [] (by simp)) ?_
  simp only [List.setIfInBounds_toArray, List.set_cons_zero, List.set_cons_succ]
  refine wpAnyH_done (by kernel_rfl) ?_ _
  clear heq hb
  go_wp2_with (refine wpList_load_num rfl (.tmp 6) rfl g rfl XL B5.out HXL.out.len ?_)
  refine (rbytes_n XL x w5 HXL.out).mono ?_
  rintro e w6 ⟨r6, rfl, o6, k6⟩
  go_wp2
  go_ret2
  exact ⟨r6, rfl, o6.mono K5.out.size, K5.out.trans (k6.mono K5.out.size)⟩

set_option maxHeartbeats 4000000 in
theorem rpublic_yes (kv : Value) (ks : List UInt8) (w : World) (hk : IsB w kv ks) (hkl : ks.length = 32) :
    Calls Try.prog 12 #[kv] w (MakesOk w (M.le (M.point ks) 32)) := by
  obtain ⟨x, hx⟩ : ∃ x, Hid (x = M.point ks) := ⟨_, rfl⟩
  rw [← hx.out]
  have HK := Lib.hid hk
  obtain ⟨cs, hcs⟩ : ∃ cs, Hid (cs = M.clampB ks) := ⟨_, rfl⟩
  have HCL : Hid (cs.length = 32) := by rw [Hid, hcs.out, M.clampB_length]; exact hkl
  have HX : Hid (M.ladder M.Q cs 9 = x) := by rw [Hid, hx.out, M.point, hcs.out]
  have CC : Hid (∀ w, IsB w kv ks → Calls Try.prog 14 #[kv] w (Makes w cs)) := by rw [hcs.out]; exact fun w h => rclamp_any kv ks w h hkl
  have H9 : Hid (9 < M.Q) := (by decide +kernel : 9 < M.Q)
  obtain ⟨ao, cap, rfl⟩ := hk.shape
  rw [hkl] at HK CC ⊢
  clear hk hkl hcs hx
  go_enter Try.func12, Try.ntmps12
  go_wp2_with fail
  refine (CC.out w HK.out).mono ?_
  rintro e w1 ⟨r1, rfl, o1, k1⟩
  have I1 := Lib.hid o1.isB
  have K1 := Lib.hid k1
  clear o1 k1
  go_wp2_with fail
  refine (small_n 9 w1 (by decide)).mono ?_
  rintro e w2 ⟨UL, rfl, hU, k2⟩
  have HUL := Lib.hid hU
  have I2 := Lib.hid (I1.out.below k2)
  have K2 : Hid (Below w.heap.size w w2) := K1.out.trans (k2.mono K1.out.size)
  clear hU k2 I1 K1
  go_wp2_with fail
  refine (rladder_n r1 cs UL 9 w2 I2.out HCL.out HUL.out H9.out).mono ?_
  rintro e w3 ⟨XL, rfl, hX, k3⟩
  rw [HX.out] at hX
  have HXL := Lib.hid hX
  have K3 : Hid (Below w.heap.size w w3) := K2.out.trans (k3.mono K2.out.size)
  clear hX k3 I2 K2 HUL
  go_wp2_with fail
  refine (rbytes_n XL x w3 HXL.out).mono ?_
  rintro e w4 ⟨r4, rfl, o4, k4⟩
  go_wp2
  go_ret2
  exact ⟨r4, rfl, o4.mono K3.out.size, K3.out.trans (k4.mono K3.out.size)⟩

theorem ne32 {n : Nat} (h : ¬ n = 32) : ((n : Int) == 32) = false ∧ ((n : Int) != 32) = true ∧ ¬ (n : Int) = 32 := by
  have : ¬ (n : Int) = 32 := by omega
  exact ⟨by simpa using this, by simpa using this, this⟩

set_option maxHeartbeats 2000000 in
theorem rshared_no (kv pv : Value) (ks ps : List UInt8) (w : World) (hk : IsB w kv ks) (hp : IsB w pv ps) (hl : ¬ (ks.length = 32 ∧ ps.length = 32)) :
    Calls Try.prog 9 #[kv, pv] w fun e w' => e = .returned (.tuple #[.slice none 0 0, .int .i64 1]) ∧ w' = w := by
  obtain ⟨ao, cap, rfl⟩ := hk.shape
  obtain ⟨ap, cap2, rfl⟩ := hp.shape
  by_cases h1 : ks.length = 32
  · have h2 : ¬ ps.length = 32 := fun h => hl ⟨h1, h⟩
    rw [h1]
    obtain ⟨m, hm⟩ : ∃ m, m = ps.length := ⟨_, rfl⟩
    rw [← hm] at h2 ⊢
    obtain ⟨e1, e2, e3⟩ := ne32 h2
    clear hk hp hl h1 h2 hm
    go_enter Try.func9, Try.ntmps9
    go_wp2
    go_ret2
    exact ⟨rfl, rfl⟩
  · obtain ⟨m, hm⟩ : ∃ m, m = ks.length := ⟨_, rfl⟩
    rw [← hm] at h1 ⊢
    obtain ⟨e1, e2, e3⟩ := ne32 h1
    clear hk hp hl h1 hm
    go_enter Try.func9, Try.ntmps9
    go_wp2
    go_ret2
    exact ⟨rfl, rfl⟩

set_option maxHeartbeats 2000000 in
theorem rpublic_no (kv : Value) (ks : List UInt8) (w : World) (hk : IsB w kv ks) (h1 : ¬ ks.length = 32) :
    Calls Try.prog 12 #[kv] w fun e w' => e = .returned (.tuple #[.slice none 0 0, .int .i64 1]) ∧ w' = w := by
  obtain ⟨ao, cap, rfl⟩ := hk.shape
  obtain ⟨m, hm⟩ : ∃ m, m = ks.length := ⟨_, rfl⟩
  rw [← hm] at h1 ⊢
  obtain ⟨e1, e2, e3⟩ := ne32 h1
  clear hk h1 hm
  go_enter Try.func12, Try.ntmps12
  go_wp2
  go_ret2
  exact ⟨rfl, rfl⟩

end Go.Proofs.Yteombilmndlhjaa

namespace Go.Proofs.Yteombilmndlhjaa
open Go.RowKit
set_option linter.unusedVariables false

/-- What package curve owes. -/
structure CurveOk : Prop where
  clamp_ : ∀ (kv : Value) (ks : List UInt8) (w : World), IsB w kv ks → ks.length = 32 → Calls Try.prog 13 #[kv] w (MakesOk w (M.clampB ks))
  clampNo : ∀ (kv : Value) (ks : List UInt8) (w : World), IsB w kv ks → ¬ ks.length = 32 → Calls Try.prog 13 #[kv] w (Refuses w 1)
  shared_ : ∀ (kv pv : Value) (ks ps : List UInt8) (w : World), IsB w kv ks → IsB w pv ps → ks.length = 32 → ps.length = 32 → ¬ M.secret ks ps = 0 → Calls Try.prog 8 #[kv, pv] w (MakesOk w (M.le (M.secret ks ps) 32))
  sharedLow : ∀ (kv pv : Value) (ks ps : List UInt8) (w : World), IsB w kv ks → IsB w pv ps → ks.length = 32 → ps.length = 32 → M.secret ks ps = 0 → Calls Try.prog 8 #[kv, pv] w (Refuses w 10)
  sharedNo : ∀ (kv pv : Value) (ks ps : List UInt8) (w : World), IsB w kv ks → IsB w pv ps → ¬ (ks.length = 32 ∧ ps.length = 32) → Calls Try.prog 8 #[kv, pv] w (Refuses w 1)
  public_ : ∀ (kv : Value) (ks : List UInt8) (w : World), IsB w kv ks → ks.length = 32 → Calls Try.prog 11 #[kv] w (MakesOk w (M.le (M.point ks) 32))
  publicNo : ∀ (kv : Value) (ks : List UInt8) (w : World), IsB w kv ks → ¬ ks.length = 32 → Calls Try.prog 11 #[kv] w (Refuses w 1)

namespace M
def key8 : List UInt8 := [0x77,0x07,0x6d,0x0a,0x73,0x18,0xa5,0x7d,0x3c,0x16,0xc1,0x72,0x51,0xb2,0x66,0x45,0xdf,0x4c,0x2f,0x92,0xeb,0xc0,0x99,0xac,0x7a,0x7d,0x5a,0x72,0xd4,0xa3,0xa0,0x2a]

theorem unhex8 : unhex (ByteArray.extract (ByteArray.mk #[55, 55, 48, 55, 54, 100, 48, 97, 55, 51, 49, 56, 97, 53, 55, 100, 51, 99, 49, 54, 99, 49, 55, 50, 53, 49, 98, 50, 54, 54, 52, 53, 100, 102, 52, 99, 50, 102, 57, 50, 101, 98, 99, 48, 57, 57, 97, 99, 55, 97, 55, 100, 53, 97, 55, 50, 100, 52, 97, 51, 97, 48, 97, 49]) 0 62 ++ ByteArray.mk #[50, 97]).data.toList = some key8 := by decide +kernel

theorem told_zero : told (List.replicate 32 0) % Q = 0 := by decide +kernel

theorem lad8 : (lad Q (clampB key8) 0 255).2.1 = 0 := by decide +kernel

theorem ladder_z {q u : Nat} {ks : List UInt8} (h : (lad q ks u 255).2.1 = 0) (hq : 2 < q) : ladder q ks u = 0 := by
  rw [ladder]
  generalize lad q ks u 255 = s at h
  obtain ⟨x2, z2, x3, z3⟩ := s
  subst h
  simp only [Nat.zero_pow (show 0 < q - 2 by omega), Nat.zero_mod, Nat.mul_zero]

theorem secret8 : secret key8 (List.replicate 32 0) = 0 := by
  rw [secret, told_zero]
  exact ladder_z lad8 (by decide +kernel)
end M

set_option maxRecDepth 100000 in
set_option maxHeartbeats 4000000 in
theorem curveAwake_any (C : CurveOk) (w : World) : Calls Try.prog 7 #[] w fun e w' => e = .returned (.bool true) ∧ Below w.heap.size w w' := by
  have HU := Lib.hid (runhex_any (ByteArray.extract (ByteArray.mk #[55, 55, 48, 55, 54, 100, 48, 97, 55, 51, 49, 56, 97, 53, 55, 100, 51, 99, 49, 54, 99, 49, 55, 50, 53, 49, 98, 50, 54, 54, 52, 53, 100, 102, 52, 99, 50, 102, 57, 50, 101, 98, 99, 48, 57, 57, 97, 99, 55, 97, 55, 100, 53, 97, 55, 50, 100, 52, 97, 51, 97, 48, 97, 49]) 0 62 ++ ByteArray.mk #[50, 97]) w (by decide +kernel))
  obtain ⟨ZC, hZC⟩ := make_run 32 (by decide)
  have hmk : ∀ w : World, (Instr.makeSlice 22 (.int .i64 32) (.int .i64 32)).run Try.prog w = .ok (.slice (some ⟨w.heap.size, 0, none⟩) 32 32) (w.alloc (.cells ZC 5)) := fun w => (hZC w).1
  have HMK : Hid (∀ w : World, Own (w.alloc (.cells ZC 5)) w.heap.size (.slice (some ⟨w.heap.size, 0, none⟩) 32 32) (List.replicate 32 0)) := fun w => (hZC w).2
  obtain ⟨key, hkey⟩ : ∃ key, Hid (key = M.key8) := ⟨_, rfl⟩
  have C1 : Hid (∀ kv pv w, IsB w kv key → IsB w pv (List.replicate 32 0) → Calls Try.prog 8 #[kv, pv] w (Refuses w 10)) := by rw [hkey.out]; exact fun kv pv w h1 h2 => C.sharedLow kv pv _ _ w h1 h2 rfl rfl M.secret8
  have C2 := Lib.hid (fun w => C.publicNo (.slice none 0 0) [] w (IsB.nil w) (by decide))
  obtain ⟨y, hy⟩ : ∃ y, Hid (y = M.le (M.point key) 32) := ⟨_, rfl⟩
  have HYL : Hid (y.length = 32) := by rw [Hid, hy.out, M.le_length]
  have C3 : Hid (∀ kv w, IsB w kv key → Calls Try.prog 11 #[kv] w (MakesOk w y)) := by rw [hy.out]; exact fun kv w h1 => C.public_ kv _ w h1 (by rw [hkey.out]; rfl)
  clear C hZC hy
  go_enter Try.func7, Try.ntmps7
  go_wp2_with fail
  refine HU.out.mono ?_
  rintro e w1 ⟨r1, rfl, i1, k1⟩
  rw [M.unhex8] at i1 ⊢
  have I1 : Hid (IsB w1 r1 key) := by rw [hkey.out]; exact i1
  have K1 := Lib.hid k1
  obtain ⟨r, hr⟩ : ∃ r, r = r1 := ⟨_, rfl⟩
  clear HU i1 k1 hkey
  go_wp2_with fail
  have z1 := (HMK.out w1).isB
  have kz : Below w1.heap.size w1 (w1.alloc (.cells ZC 5)) := (Below.refl _ _).alloc (Nat.le_refl _) _
  refine (C1.out _ _ _ (I1.out.below kz) z1).mono ?_
  rintro e w2 ⟨rfl, k2⟩
  have I2 : Hid (IsB w2 r1 key) := (I1.out.below kz).below k2
  have K2 : Hid (Below w.heap.size w w2) := (K1.out.trans (kz.mono K1.out.size)).trans (k2.mono (Nat.le_trans K1.out.size kz.size))
  clear hmk HMK z1 kz k2 I1 K1 C1
  go_wp2_with fail
  refine (C2.out _).mono ?_
  rintro e w3 ⟨rfl, k3⟩
  have I3 : Hid (IsB w3 r1 key) := I2.out.below k3
  have K3 : Hid (Below w.heap.size w w3) := K2.out.trans (k3.mono K2.out.size)
  clear k3 I2 K2 C2
  go_wp2_with fail
  refine (C3.out _ _ I3.out).mono ?_
  rintro e w4 ⟨r4, rfl, o4, k4⟩
  have K4 : Hid (Below w.heap.size w w4) := K3.out.trans (k4.mono K3.out.size)
  obtain ⟨g4, c4, rfl, _⟩ := o4.shape (by rw [HYL.out]; decide)
  rw [HYL.out]
  clear k4 o4 I3 K3 C3
  go_wp2
  go_ret
  exact ⟨rfl, K4.out⟩

end Go.Proofs.Yteombilmndlhjaa
