/-
  CONTRACT OF orloplaw15.awake. Conditions: the library's variables lie as laid.
-/
import Derived.Test.YtbgadfaiehkanaaGreatDoorJsI1
import Derived.Lib.SmallJoins
namespace Go.Proofs.YtbgadfaiehkanaaGreatDoor
open Go.RowKit Go.Proofs Go.Shelf
set_option linter.unusedVariables false
set_option maxRecDepth 100000

def aw15 : List UInt8 := [32, 123, 34, 97, 34, 58, 91, 49, 44, 45, 50, 44, 34, 120, 92, 110, 34, 93, 32, 44, 32, 34, 98, 34, 58, 110, 117, 108, 108, 125]
def awV : M.GV := M.vMap [([97], M.vList [M.vNum 1, M.vNum (-2), M.vText [120, 10]]), ([98], M.vNull)]
theorem aw15_v : M.parse aw15 = .ok awV [] := by kernel_rfl
theorem aw15_bad : M.parse [48, 49] = .err 8 := by kernel_rfl
theorem aw15_deep : M.parse (List.replicate 17 91) = .err 3 := by kernel_rfl
theorem aw15_w : M.wr 16 awV = [123, 34, 97, 34, 58, 91, 49, 44, 45, 50, 44, 34, 120, 92, 117, 48, 48, 48, 97, 34, 93, 44, 34, 98, 34, 58, 110, 117, 108, 108, 125] := by decide +kernel
theorem aw15_z : M.wz 16 awV ≤ 140737488355328 := by decide +kernel
theorem aw15_t : M.wt 15 (M.vList [M.vNum 1, M.vNum (-2), M.vText [120, 10]]) ≤ 100000 := by decide +kernel

theorem isB_lit15 (w : World) (bs : List UInt8) (t : TypeId) (fr : Nat × Nat) (h : bs.length ≤ 1000) : IsB (w.alloc (.cells (Lib.byteCells bs).toArray t fr)) (.slice (some ⟨w.heap.size, 0, none⟩) bs.length bs.length) bs := by
  refine ⟨_, bs.length, rfl, Nat.le_refl _, by unfold maxLen; omega, .inr ⟨w.heap.size, 0, rfl, fun i hi => ?_⟩⟩
  rw [Nat.zero_add, ← byteCells_getElem? bs i hi]
  have := Lib.cell_of_heap (w := w.alloc (.cells (Lib.byteCells bs).toArray t fr)) (heap_alloc_new w (.cells (Lib.byteCells bs).toArray t fr)) i
  rw [this]
  simp

set_option maxHeartbeats 16000000 in
theorem awake15_any (w : World) (hL : JLaid w) : Calls Tryz.prog 11 #[] w fun e w' => e = .returned (.bool true) ∧ Below w.heap.size w w' := by
  have hcv : ∀ (W : World) (C : Array Value) (n : Nat), (convert 22 22 (.slice (some ⟨W.heap.size, 0, none⟩) n n)).run Tryz.prog (W.alloc (.cells C 5)) = .ok (.slice (some ⟨W.heap.size, 0, none⟩) n n) (W.alloc (.cells C 5 (C.size, C.size + 1))) :=
    fun W C n => Lib.run_convert_bytes_const W 22 5 C n n Tryz.underlying22 Tryz.underlying5
  have HP : Hid (∀ (W : World) (bs : List UInt8) (fr : Nat × Nat), Below w.heap.size w W → bs.length ≤ 1000 → Calls Tryz.prog 12 #[.slice (some ⟨W.heap.size, 0, none⟩) bs.length bs.length] (W.alloc (.cells (Lib.byteCells bs).toArray 5 fr)) (ParseEnds (W.alloc (.cells (Lib.byteCells bs).toArray 5 fr)) (M.parse bs))) := by
    intro W bs fr k hb
    exact parse_any _ bs _ (isB_lit15 W bs _ fr hb) (by omega) (hL.below (k.alloc k.size _))
  have HL := Lib.hid hL
  clear hL
  go_enter Tryz.func11, Tryz.ntmps11
  go_wp2_with fail
  refine (HP.out w aw15 _ (Below.refl _ _) (by decide)).mono ?_
  intro e w1 h1
  rw [aw15_v] at h1
  obtain ⟨lv, mv, rfl, iv, k1⟩ := h1
  obtain ⟨cs, hcs⟩ : ∃ c, c = vcs awV.k awV.b awV.n awV.t lv mv := ⟨_, rfl⟩
  rw [← hcs] at iv ⊢
  have HCS6 : Hid (cs.length = 6) := by rw [hcs]; rfl
  have K1 : Below w.heap.size w w1 := ((Below.refl _ w).alloc (Nat.le_refl _) _).trans (k1.mono (by simp))
  have IV1 : IsV (fun _ => True) w1 16 cs awV := IsV.mono (fun _ _ _ => trivial) _ iv
  have HK1 := Lib.hid K1
  have HIV := Lib.hid IV1
  clear iv k1 K1 IV1 hcs
  go_upto_region 2 with (refine wpList_store_blk rfl 27 (.tmp 1) (.tmp 13) rfl w1.heap.size _ rfl rfl 27 _ (z6_new w1) (by rw [Tryz.sizeV]; exact congrArg some HCS6.out.symm) HCS6.out.symm HIV.out.one ?_; intro w2 hb2 ho2)
  have k2 : Below w1.heap.size w1 w2 := ((Below.refl w1.heap.size w1).alloc (Nat.le_refl _) _).trans (ho2.below (by simp) (Nat.le_refl _))
  obtain ⟨g1, hg1⟩ : ∃ g, g = w1.heap.size := ⟨_, rfl⟩
  rw [← hg1] at hb2 ⊢
  have HK2 := Lib.hid (HK1.out.trans (k2.mono HK1.out.size))
  have HB2 := Lib.hid hb2
  have HIV2 := Lib.hid (HIV.out.below k2)
  clear k2 hb2 ho2 hg1 HK1 HIV
  go_wp2_with fail
  refine (HP.out w2 [48, 49] _ HK2.out (by decide)).mono ?_
  intro e w3 h3
  rw [aw15_bad] at h3
  obtain ⟨rfl, _, k3⟩ := h3
  have K3 : Below w2.heap.size w2 w3 := ((Below.refl _ w2).alloc (Nat.le_refl _) _).trans (k3.mono (by simp))
  have HK3 := Lib.hid (HK2.out.trans (K3.mono HK2.out.size))
  have HB3 := Lib.hid (HB2.out.below K3 HB2.out.lt)
  have HIV3 := Lib.hid (HIV2.out.below K3)
  clear k3 K3 HK2 HB2 HIV2
  unfold zeroV
  go_upto_region 3 with fail
  have K4 : Below w3.heap.size w3 (w3.alloc (.cells #[.int .i64 0, .bool false, .int .i64 0, .string ⟨#[]⟩, .slice none 0 0, .slice none 0 0] 27)) := (Below.refl _ _).alloc (Nat.le_refl _) _
  obtain ⟨w4, hw4⟩ : ∃ W, W = w3.alloc (.cells #[.int .i64 0, .bool false, .int .i64 0, .string ⟨#[]⟩, .slice none 0 0, .slice none 0 0] 27) := ⟨_, rfl⟩
  rw [← hw4] at K4 ⊢
  have HK4 := Lib.hid (HK3.out.trans (K4.mono HK3.out.size))
  have HB4 := Lib.hid (HB3.out.below K4 HB3.out.lt)
  have HIV4 := Lib.hid (HIV3.out.below K4)
  clear hw4 K4 HK3 HB3 HIV3
  go_wp2_with fail
  refine (HP.out w4 (List.replicate 17 91) _ HK4.out (by decide)).mono ?_
  intro e w5 h5
  rw [aw15_deep] at h5
  obtain ⟨rfl, _, k5⟩ := h5
  have K5 : Below w4.heap.size w4 w5 := ((Below.refl _ w4).alloc (Nat.le_refl _) _).trans (k5.mono (by simp))
  have HK5 := Lib.hid (HK4.out.trans (K5.mono HK4.out.size))
  have HB5 := Lib.hid (HB4.out.below K5 HB4.out.lt)
  have HIV5 := Lib.hid (HIV4.out.below K5)
  clear k5 K5 HK4 HB4 HIV4 HP hcv
  unfold zeroV
  go_upto_region 4 with fail
  have K6 : Below w5.heap.size w5 (w5.alloc (.cells #[.int .i64 0, .bool false, .int .i64 0, .string ⟨#[]⟩, .slice none 0 0, .slice none 0 0] 27)) := (Below.refl _ _).alloc (Nat.le_refl _) _
  obtain ⟨w6, hw6⟩ : ∃ W, W = w5.alloc (.cells #[.int .i64 0, .bool false, .int .i64 0, .string ⟨#[]⟩, .slice none 0 0, .slice none 0 0] 27) := ⟨_, rfl⟩
  rw [← hw6] at K6 ⊢
  have HK6 := Lib.hid (HK5.out.trans (K6.mono HK5.out.size))
  have HB6 := Lib.hid (HB5.out.below K6 HB5.out.lt)
  have HIV6 := Lib.hid (HIV5.out.below K6)
  clear hw6 K6 HK5 HB5 HIV5
  have HG : Hid (Calls Tryz.prog 36 #[.agg cs.toArray, .string ⟨#[97]⟩] w6 fun e w' => (∃ a1 c1 a2 c2, e = .returned (.tuple #[.agg #[.int .i64 4, .bool false, .int .i64 0, .string ⟨#[]⟩, .slice a1 3 c1, .slice a2 0 c2], .bool true])) ∧ Below w6.heap.size w6 w') :=
    get_yes _ 15 cs awV [97] w6 HIV6.out rfl 0 (by decide) rfl (fun k hk => absurd hk (Nat.not_lt_zero k)) aw15_t (M.vList [M.vNum 1, M.vNum (-2), M.vText [120, 10]]) rfl
  go_upto_region 5 with (refine wpList_load_mid rfl _ (.tmp 1) rfl g1 0 rfl cs _ (HB6.out.range 0 _ [] (by simp)) Tryz.underlying27 rfl (by rw [Tryz.sizeV]; exact congrArg some HCS6.out.symm) ?_)
  refine HG.out.mono ?_
  rintro e w7 ⟨⟨r1, d1, r2, d2, rfl⟩, k7⟩
  have HK7 := Lib.hid (HK6.out.trans (k7.mono HK6.out.size))
  have HB7 := Lib.hid (HB6.out.below k7 HB6.out.lt)
  have HIV7 := Lib.hid (HIV6.out.below k7)
  clear k7 HG HK6 HB6 HIV6
  go_upto_region 5 with fail
  obtain ⟨w8, hw8⟩ : ∃ W, W = w7.alloc (.cells #[.int .i64 4, .bool false, .int .i64 0, .string ⟨#[]⟩, .slice r1 3 d1, .slice r2 0 d2] 27) := ⟨_, rfl⟩
  obtain ⟨g7, hg7⟩ : ∃ g, g = w7.heap.size := ⟨_, rfl⟩
  have K8 : Below w7.heap.size w7 w8 := by rw [hw8]; exact (Below.refl _ _).alloc (Nat.le_refl _) _
  have hb8 : Blk w8 g7 27 [.int .i64 4, .bool false, .int .i64 0, .string ⟨#[]⟩, .slice r1 3 d1, .slice r2 0 d2] := by rw [hw8]; exact Blk.newAt _ _ _ _ _ hg7 rfl
  have cT : w8.cell? ⟨g7, 4, none⟩ = some (.slice r1 3 d1) := hb8.cell 4
  rw [← hw8, ← hg7]
  have HK8 := Lib.hid (HK7.out.trans (K8.mono HK7.out.size))
  have hb1 := HB7.out.below K8 HB7.out.lt
  have iv8 := HIV7.out.below K8
  have HW := Lib.hid (write_yes _ cs awV w8 iv8 (M.parse_may aw15_v) (M.parse_fit aw15_v) aw15_z (HL.out.below HK8.out))
  obtain ⟨p1, n1, q1, p2, n2, q2, hcs⟩ := iv8.cells
  rw [aw15_w] at HW
  rw [hcs] at hb1 HW
  have u0 : w8.cell? ⟨g1, 0, none⟩ = some (.int .i64 5) := hb1.cell 0
  have u1 : w8.cell? ⟨g1, 1, none⟩ = some (.bool false) := hb1.cell 1
  have u2 : w8.cell? ⟨g1, 2, none⟩ = some (.int .i64 0) := hb1.cell 2
  have u3 : w8.cell? ⟨g1, 3, none⟩ = some (.string ⟨#[]⟩) := hb1.cell 3
  have u4 : w8.cell? ⟨g1, 4, none⟩ = some (.slice p1 n1 q1) := hb1.cell 4
  have u5 : w8.cell? ⟨g1, 5, none⟩ = some (.slice p2 n2 q2) := hb1.cell 5
  clear hw8 hg7 K8 hb8 hb1 iv8 HK7 HB7 HIV7 hcs
  go_wp2_with fail
  refine HW.out.mono ?_
  rintro e w9 ⟨rfl, k9⟩
  have HK9 := Lib.hid (HK8.out.trans (k9.mono HK8.out.size))
  clear k9 HW HK8 u0 u1 u2 u3 u4 u5 cT
  go_wp2
  go_ret
  exact ⟨rfl, HK9.out⟩

end Go.Proofs.YtbgadfaiehkanaaGreatDoor
