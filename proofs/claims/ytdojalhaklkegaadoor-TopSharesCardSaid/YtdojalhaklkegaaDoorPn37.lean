/-
  CONTRACT OF wrap.Wrap, with the real crypt: the document's packet. Conditions: the tables of layers 2 and 4 lie as they were laid; what is shared isn't 0; the context has up to 1,000 bytes.
  A LAYER SEALED IN CHUNKS, WITH A BOOK, IN PLAIN MATHEMATICS: pieces, heads, nonces, a book's boxes, what is sealed, what is opened; whatever is opened is one of the two that were sealed. Conditions: none.
  PLAIN MATHEMATICS OF MAPS BY NAMES (lists by rising names). Nothing of the program. Conditions: none.
-/
import Derived.Test.YtdojalhaklkegaaDoorPn36
import Derived.Test.YtdojalhaklkegaaDoorPn32
import Derived.Deep.RegionHeld
import Derived.Test.YtdojalhaklkegaaDoorPn1
import Derived.WideAt
import Derived.Maps.OwnSet
import Derived.Maps.Ext

namespace Go.Proofs.YtdojalhaklkegaaDoor
open Go.RowKit
set_option linter.unusedVariables false
set_option maxRecDepth 100000




set_option maxHeartbeats 16000000 in
theorem wrapReal_any (ov pv kv xv : Value) (once point key ctx : List UInt8) (w : World) (hS : Laid w) (hP : LaidP w) (ho : IsB w ov once) (hp : IsB w pv point) (hk : IsB w kv key) (hx : IsB w xv ctx)
    (hol : once.length = 32) (hpl : point.length = 32) (hkl : key.length = 32) (zx : ∀ n c, xv = .slice none n c → c = 0) (hxl : ctx.length ≤ 1000) (hsec : ¬ M.secret once point = 0) :
    Calls Tryd.prog 17 #[.iface 71 (.agg #[]), ov, pv, kv, xv] w fun e w' => ∃ g, e = .returned (.tuple #[.slice (some ⟨g, 0, none⟩) 113 113, .int .i64 0]) ∧
      Own w' w.heap.size (.slice (some ⟨g, 0, none⟩) 113 113) (M.pkt point (M.le (M.point once) 32) (M.box (M.wkey (M.le (M.secret once point) 32) (M.le (M.point once) 32) point) (List.replicate 12 0) ctx key)) ∧ Below w.heap.size w w' := by
  obtain ⟨oa, oc, rfl⟩ := ho.shape
  obtain ⟨pa, pc, rfl⟩ := hp.shape
  obtain ⟨ka, kc, rfl⟩ := hk.shape
  obtain ⟨xa, xc, rfl⟩ := hx.shape
  obtain ⟨xn, hxn⟩ : ∃ n, n = ctx.length := ⟨_, rfl⟩
  rw [hol] at ho ⊢
  rw [hpl] at hp ⊢
  rw [hkl] at hk ⊢
  rw [← hxn] at hx zx ⊢
  obtain ⟨Z, hZ⟩ : ∃ Z, Hid (Z = (Lib.byteCells (List.replicate 113 0)).toArray) := ⟨_, rfl⟩
  have hmk : ∀ w : World, (Instr.makeSlice 24 (.int .i64 113) (.int .i64 113)).run Tryd.prog w = .ok (.slice (some ⟨w.heap.size, 0, none⟩) 113 113) (w.alloc (.cells Z 5)) := fun w => by rw [hZ.out]; exact make113 w
  obtain ⟨sec, hsc⟩ : ∃ s, Hid (s = M.le (M.secret once point) 32) := ⟨_, rfl⟩
  obtain ⟨pub, hpb⟩ : ∃ s, Hid (s = M.le (M.point once) 32) := ⟨_, rfl⟩
  have CSH : Hid (Calls Tryd.prog 14 #[.slice oa 32 oc, .slice pa 32 pc] w (MakesOk w sec)) := by
    rw [Hid, hsc.out]
    exact (shared_any field_ok _ _ once point w ho hp hol hpl).mono fun e w' h => h.2 hsec
  have CPU : Hid (∀ W, Below w.heap.size w W → Calls Tryd.prog 13 #[.slice oa 32 oc] W (MakesOk W pub)) := by
    intro W k
    rw [hpb.out]
    exact publicOk_any field_ok _ once W (ho.below k) hol
  rw [← hsc.out, ← hpb.out]
  have HPB : Hid (pub.length = 32) := by rw [Hid, hpb.out, M.le_length]
  have HSC : Hid (sec.length = 32) := by rw [Hid, hsc.out, M.le_length]
  obtain ⟨K, hK⟩ : ∃ K, Hid (K = M.wkey sec pub point) := ⟨_, rfl⟩
  rw [← hK.out]
  have HKL : Hid (K.length = 32) := by rw [Hid, hK.out]; exact M.wkey_len _ _ _
  have HP := Lib.hid hp
  have HPL := Lib.hid hpl
  have HKK := Lib.hid hk
  have HX := Lib.hid hx
  have ZX := Lib.hid zx
  have HS := Lib.hid hS
  have HPT0 := Lib.hid hP
  have HXL : Hid (ctx.length ≤ 1000 ∧ key.length = 32) := ⟨hxl, hkl⟩
  obtain ⟨bx, hbx⟩ : ∃ b, Hid (b = M.box K (List.replicate 12 0) ctx key) := ⟨_, rfl⟩
  have HBX : Hid (bx.length = 48) := by rw [Hid, hbx.out, M.box_length, HXL.out.2]
  rw [← hbx.out]
  clear hS hP ho hp hk hx hol hpl hkl zx hxl hsec hxn
  go_enter Tryd.func17, Tryd.ntmps17
  go_wp2_with fail
  refine CSH.out.mono ?_
  rintro e w1 ⟨sv, rfl, o1, k1⟩
  have O1 := Lib.hid o1
  have K1 := Lib.hid k1
  clear o1 k1 CSH
  go_wp2_with fail
  refine (CPU.out w1 K1.out).mono ?_
  rintro e w2 ⟨uv, rfl, o2, k2⟩
  obtain ⟨ua, uc, rfl⟩ := o2.shape'
  rw [HPB.out] at o2 ⊢
  have O2 := Lib.hid o2
  have K2 : Hid (Below w.heap.size w w2) := K1.out.trans (k2.mono K1.out.size)
  have O12 : Hid (Own w2 w.heap.size sv sec) := O1.out.below k2
  have HO2 : Hid (Own w2 w.heap.size (.slice ua 32 uc) pub) := O2.out.mono K1.out.size
  clear o2 k2 CPU O1 K1 O2
  obtain ⟨W3, hW3⟩ : ∃ x, x = w2.alloc (.cells Z 5) := ⟨_, rfl⟩
  have k23 : Below w2.heap.size w2 W3 := by rw [hW3]; exact (Below.refl _ _).alloc (Nat.le_refl _) _
  have BP3 : Hid (Blk W3 w2.heap.size 5 (Lib.byteCells (List.replicate 113 0))) := by
    rw [Hid, hW3, hZ.out]
    exact Blk.newAt _ _ _ _ _ rfl (by simp)
  have K23 := Lib.hid k23
  have E3 := Lib.hid hW3
  have CC := Lib.hid (cut18_any w2.heap.size 113 (Nat.le_refl _) W3)
  clear k23 hW3
  go_wp2_with fail
  rw [← E3.out]
  clear E3 hmk
  obtain ⟨gp, hgp⟩ : ∃ g, g = w2.heap.size := ⟨_, rfl⟩
  have HGP : Hid (w.heap.size ≤ gp ∧ gp < W3.heap.size ∧ gp = w2.heap.size) := ⟨by rw [hgp]; exact K2.out.size, by rw [hgp]; exact BP3.out.lt, hgp⟩
  rw [← hgp] at CC BP3 ⊢
  clear hgp
  refine CC.out.mono ?_
  rintro e w4 ⟨rfl, k4⟩
  have BP4 : Hid (Blk w4 gp 5 (Lib.byteCells (List.replicate 113 0))) := BP3.out.below k4 BP3.out.lt
  have K24 : Hid (Below w2.heap.size w2 w4) := K23.out.trans (k4.mono K23.out.size)
  have HG4 : Hid (gp < w4.heap.size) := BP4.out.lt
  clear k4 CC BP3 K23
  obtain ⟨gs, hgs⟩ : ∃ g, g = w4.heap.size := ⟨_, rfl⟩
  go_upto_region 11 with (refine wpList_store_blk rfl 78 (.tmp 16) (.tmp 50) rfl w4.heap.size (ptsL gp).toArray rfl rfl 78 (List.replicate 4 (.slice none 0 0)) (Blk.newAt _ _ _ _ _ rfl rfl) (by kernel_rfl) rfl (by intro v hv; simp [ptsL] at hv; rcases hv with rfl | rfl | rfl | rfl <;> rfl) ?_; intro w5 hb5 ho5)
  have k45 : Below w4.heap.size w4 w5 := ((Below.refl _ _).alloc (Nat.le_refl _) _).trans (ho5.below (by simp) (Nat.le_refl _))
  rw [← hgs] at hb5 ⊢
  have HGS : Hid (gp < gs ∧ w2.heap.size ≤ gs) := ⟨by rw [hgs]; exact HG4.out, by rw [hgs]; exact K24.out.size⟩
  have BS5 : Hid (Blk w5 gs 78 (ptsL gp)) := hb5.eq_ (by simp)
  have BP5 : Hid (Blk w5 gp 5 (Lib.byteCells (List.replicate 113 0))) := BP4.out.below k45 BP4.out.lt
  have K25 : Hid (Below w2.heap.size w2 w5) := K24.out.trans (k45.mono K24.out.size)
  clear hb5 ho5 k45 BP4 K24 HG4 hgs
  have c0 : w5.cell? ⟨gs, 0, none⟩ = some (.slice (some ⟨gp, 0, none⟩) 1 1) := BS5.out.cell 0
  have hfz : w5.frozen? ⟨gp, 0, none⟩ = false := BP5.out.frozen 0
  have c00 : w5.cell? ⟨gp, 0, none⟩ = some (.int .u8 0) := BP5.out.cell 0
  go_upto_region 12 with fail
  clear c0 c00 hfz
  obtain ⟨w6, hw6⟩ : ∃ x, x = w5.setCell ⟨gp, 0, none⟩ (.int .u8 1) := ⟨_, rfl⟩
  rw [← hw6]
  have BS6 : Hid (Blk w6 gs 78 (ptsL gp)) := by
    rw [Hid, hw6]
    exact BS5.out.far (p := ⟨gp, 0, none⟩) (by have := HGS.out; show gs ≠ gp; omega) _
  have BP6 : Hid (Blk w6 gp 5 (Lib.byteCells ([1] ++ List.replicate 112 0))) := by
    rw [Hid, hw6]
    exact (BP5.out.set_ 0 (.int .u8 1)).eq_ rfl
  have K26 : Hid (Below w2.heap.size w2 w6) := by
    rw [Hid, hw6]
    exact K25.out.setCell (p := ⟨gp, 0, none⟩) (by have := HGP.out; show w2.heap.size ≤ gp; omega) _
  clear hw6 BS5 BP5 K25
  have HP6 := Lib.hid (HP.out.below (K2.out.trans (K26.out.mono K2.out.size)))
  have c1 : w6.cell? ⟨gs, 1, none⟩ = some (.slice (some ⟨gp, 1, none⟩) 32 32) := BS6.out.cell 1
  go_upto_region 13 with (refine wpList_copy_blk rfl (.tmp 55) (.tmp 56) 24 24 rfl 5 Tryd.underlying24 (by kernel_rfl) (some ⟨gp, 1, none⟩) pa 32 32 32 pc rfl rfl gp 1 _ 5 BP6.out (Lib.byteCells point) (by rw [byteCells_length, HPL.out]; rfl) (fun _ => ⟨rfl, isB_there HP6.out (by rw [HPL.out]; decide)⟩) (by rw [byteCells_length, HPL.out, byteCells_length]; decide) (byteCells_oneCell _) ?_; intro w7 hb7 ho7)
  clear c1
  rw [splice_bytes [1] point _ 1 rfl, HPL.out, List.drop_replicate] at hb7
  have BP7 := Lib.hid hb7
  have BS7 : Hid (Blk w7 gs 78 (ptsL gp)) := BS6.out.grown ho7 (by have := HGS.out; intro e; injection e with e; omega)
  have K27 : Hid (Below w2.heap.size w2 w7) := K26.out.trans (ho7.below K26.out.size (by have := HGP.out; omega))
  have HU7 : Hid (Own w7 w.heap.size (.slice ua 32 uc) pub) := HO2.out.below K27.out
  clear hb7 ho7 BP6 BS6 K26 HP6
  have c2 : w7.cell? ⟨gs, 2, none⟩ = some (.slice (some ⟨gp, 33, none⟩) 32 32) := BS7.out.cell 2
  go_upto_region 14 with (refine wpList_copy_blk rfl (.tmp 59) (.tmp 60) 24 24 rfl 5 Tryd.underlying24 (by kernel_rfl) (some ⟨gp, 33, none⟩) ua 32 32 32 uc rfl rfl gp 33 _ 5 BP7.out (Lib.byteCells pub) (by rw [byteCells_length, HPB.out]; rfl) (fun _ => ⟨rfl, isB_there HU7.out.isB (by rw [HPB.out]; decide)⟩) (by rw [byteCells_length, HPB.out, byteCells_length]; simp [HPL.out]) (byteCells_oneCell _) ?_; intro w8 hb8 ho8)
  clear c2
  rw [← List.append_assoc, splice_bytes ([1] ++ point) pub _ 33 (by simp [HPL.out]), HPB.out, List.drop_replicate, List.append_assoc] at hb8
  have BP8 : Hid (Blk w8 gp 5 (Lib.byteCells ([1] ++ (point ++ (pub ++ List.replicate 48 0))))) := hb8
  have BS8 : Hid (Blk w8 gs 78 (ptsL gp)) := BS7.out.grown ho8 (by have := HGS.out; intro e; injection e with e; omega)
  have K28 : Hid (Below w2.heap.size w2 w8) := K27.out.trans (ho8.below K27.out.size (by have := HGP.out; omega))
  have K08 : Hid (Below w.heap.size w w8) := K2.out.trans (K28.out.mono K2.out.size)
  clear hb8 ho8 BP7 BS7 K27 HU7 HO2
  have HSV : Hid (IsB w8 sv sec) := (O12.out.below K28.out).isB
  clear O12
  have HPT : Hid (IsB w8 (.slice (some ⟨gp, 1, none⟩) 32 32) point) := isB_mid [1] point (pub ++ List.replicate 48 0) 1 32 BP8.out rfl HPL.out (by decide)
  have HPU : Hid (IsB w8 (.slice (some ⟨gp, 33, none⟩) 32 32) pub) := isB_mid ([1] ++ point) pub (List.replicate 48 0) 33 32 (BP8.out.eq_ (by simp)) (by simp [HPL.out]) HPB.out (by decide)
  have CKEY : Hid (∀ W, Below w8.heap.size w8 W → Calls Tryd.prog 35 #[.agg (ptsL gp).toArray, sv] W (Makes W K)) := by
    intro W k
    rw [hK.out]
    exact wkey_any gp sv sec pub point W ((HS.out.below K08.out HS.out.size).below k (Nat.le_trans HS.out.size K08.out.size)) (HPT.out.below k) (HPU.out.below k) (HSV.out.below k) HSC.out
  have HK8 := Lib.hid (HKK.out.below K08.out)
  have HX8 := Lib.hid (HX.out.below K08.out)
  clear HSV HPT HPU HP HX HKK
  have hmf : ∀ (fn : Fn) (first cap : Array Value) (w : World), (Instr.makeFunc fn first cap).run Tryd.prog w = .ok (.func fn first cap) w := fun _ _ _ _ => rfl
  have CSL : Hid (∀ W kv nv, Below w8.heap.size w8 W → IsB W kv K → IsB W nv (List.replicate 12 0) → Calls Tryd.prog 133 #[.agg #[], kv, nv, .slice xa xn xc, .slice ka 32 kc] W fun e w' => ∃ r, e = .returned (.tuple #[r, .int .i64 0]) ∧ Own w' W.heap.size r (M.box K (List.replicate 12 0) ctx key) ∧ Below W.heap.size W w') := by
    intro W kv nv k h1 h2
    have hl := HXL.out
    exact realSeal_any kv nv _ _ K (List.replicate 12 0) ctx key W ((HPT0.out.below K08.out HPT0.out.size).below k (Nat.le_trans HPT0.out.size K08.out.size)) h1 h2 (HX8.out.below k) (HK8.out.below k) HKL.out (by simp) ZX.out (by omega)
  have HRG : Hid (∀ W, Below w8.heap.size w8 W → W.rangeAt gs 0 (ptsL gp)) := fun W k => (BS8.out.below k BS8.out.lt).range 0 _ [] (by simp)
  have hmt := meth_rseal
  have hna := nil_rseal
  rw [← hbx.out] at CSL
  go_upto_region 14 with fail
  refine wp_region_any (by kernel_rfl) ?_
  change wpAny _ _ _ _ _ _ _ (World.drew _)
  refine wpAny_of_held (S := fun W => Below w8.heap.size w8 W) _ _ _ _ ?_
  have S0 : Below w8.heap.size w8 w8.drew := (Below.refl _ _).drew
  refine wpAnyH_take_at (i := 0) (v := .iface 71 (.agg #[])) rfl rfl (by kernel_rfl) (by kernel_rfl) (by kernel_rfl) (fun _ _ _ h => h) (Or.inl ⟨by rfl, fun w hS => by go_simp⟩) S0 ?_
  try simp only [List.setIfInBounds_toArray, List.set_cons_zero, List.set_cons_succ]
  refine wpAnyH_take_at (i := 1) (v := .agg (ptsL gp).toArray) rfl rfl (by kernel_rfl) (by kernel_rfl) (by kernel_rfl) (fun _ _ _ h => h) (yieldsIf_load_mid (by rfl) 78 (.tmp 16) rfl gs 0 rfl (ptsL gp) _ (fun w h => HRG.out w h) Tryd.underlying78 rfl (by kernel_rfl)) S0 ?_
  try simp only [List.setIfInBounds_toArray, List.set_cons_zero, List.set_cons_succ]
  refine wpAnyH_take_at (i := 2) (v := sv) rfl rfl (by kernel_rfl) (by kernel_rfl) (by kernel_rfl) (fun _ _ _ h => h) (Or.inl ⟨by rfl, fun w hS => by go_simp⟩) S0 ?_
  try simp only [List.setIfInBounds_toArray, List.set_cons_zero, List.set_cons_succ]
  refine wpAnyH_take_at (i := 5) (v := .slice xa xn xc) rfl rfl (by kernel_rfl) (by kernel_rfl) (by kernel_rfl) (fun _ _ _ h => h) (Or.inl ⟨by rfl, fun w hS => by go_simp⟩) S0 ?_
  try simp only [List.setIfInBounds_toArray, List.set_cons_zero, List.set_cons_succ]
  refine wpAnyH_take_at (i := 6) (v := .slice ka 32 kc) rfl rfl (by kernel_rfl) (by kernel_rfl) (by kernel_rfl) (fun _ _ _ h => h) (Or.inl ⟨by rfl, fun w hS => by go_simp⟩) S0 ?_
  try simp only [List.setIfInBounds_toArray, List.set_cons_zero, List.set_cons_succ]
  refine wpAnyH_take_at (i := 7) (v := .func (.method "Seal") #[.iface 71 (.agg #[])] #[]) rfl rfl (by kernel_rfl) (by kernel_rfl) (by kernel_rfl) (fun _ _ _ h => h) (Or.inl ⟨by rfl, fun w hS => by go_simp⟩) S0 ?_
  try simp only [List.setIfInBounds_toArray, List.set_cons_zero, List.set_cons_succ]
  refine wpAnyH_take_at (i := 8) (v := .func (.method "Seal") #[.iface 71 (.agg #[])] #[]) rfl rfl (by kernel_rfl) (by kernel_rfl) (by kernel_rfl) (fun _ _ _ h => h) (Or.inl ⟨by rfl, fun w hS => by go_simp⟩) S0 ?_
  try simp only [List.setIfInBounds_toArray, List.set_cons_zero, List.set_cons_succ]
  refine wpAnyH_take_at (i := 9) (v := .iface 71 (.agg #[])) rfl rfl (by kernel_rfl) (by kernel_rfl) (by kernel_rfl) (fun _ _ _ h => h) (Or.inl ⟨by rfl, fun w hS => by go_simp⟩) S0 ?_
  try simp only [List.setIfInBounds_toArray, List.set_cons_zero, List.set_cons_succ]
  refine wpAnyH_ready (rs := [3]) (by kernel_rfl) (by simp) ?_
  refine AllReadyH.cons rfl (fun K hK => ?_) AllReadyH.nil
  go_simp
  refine (CKEY.out _ S0).mono ?_
  rintro e w9 ⟨rk, rfl, o9, k9⟩
  have S1 : Below w8.heap.size w8 w9 := S0.trans (k9.mono S0.size)
  refine hK.out _ _ S1 (fun _ => ?_)
  clear hK K
  refine wpAnyH_ready (rs := [4]) (by kernel_rfl) (by simp) ?_
  refine AllReadyH.cons rfl (fun K hK => ?_) AllReadyH.nil
  go_simp
  refine (wnonce_any _).mono ?_
  rintro e w10 ⟨rn, rfl, o10, k10⟩
  have S2 : Below w8.heap.size w8 w10 := S1.trans (k10.mono S1.size)
  refine hK.out _ _ S2 (fun _ => ?_)
  clear hK K
  refine wpAnyH_ready (rs := [10]) (by kernel_rfl) (by simp) ?_
  refine AllReadyH.cons rfl (fun K hK => ?_) AllReadyH.nil
  go_simp
  refine (CSL.out _ _ _ S2 (o9.isB.below k10) o10.isB).mono ?_
  rintro e w11 ⟨rb, rfl, o11, k11⟩
  have S3 : Below w8.heap.size w8 w11 := S2.trans (k11.mono S2.size)
  refine hK.out _ _ S3 (fun _ => ?_)
  clear hK K
  refine wpAnyH_take_at (i := 11) (v := .tuple #[rb, .int .i64 0]) rfl rfl (by kernel_rfl) (by kernel_rfl) (by kernel_rfl) (fun _ _ _ h => h) (Or.inl ⟨by rfl, fun w hS => by go_simp⟩) S3 ?_
  try simp only [List.setIfInBounds_toArray, List.set_cons_zero, List.set_cons_succ]
  refine wpAnyH_take_at (i := 12) (v := rb) rfl rfl (by kernel_rfl) (by kernel_rfl) (by kernel_rfl) (fun _ _ _ h => h) (Or.inl ⟨by rfl, fun w hS => by go_simp⟩) S3 ?_
  try simp only [List.setIfInBounds_toArray, List.set_cons_zero, List.set_cons_succ]
  refine wpAnyH_take_at (i := 13) (v := .int .i64 0) rfl rfl (by kernel_rfl) (by kernel_rfl) (by kernel_rfl) (fun _ _ _ h => h) (Or.inl ⟨by rfl, fun w hS => by go_simp⟩) S3 ?_
  try simp only [List.setIfInBounds_toArray, List.set_cons_zero, List.set_cons_succ]
  refine wpAnyH_take_at (i := 14) (v := rb) rfl rfl (by kernel_rfl) (by kernel_rfl) (by kernel_rfl) (fun _ _ _ h => h) (Or.inl ⟨by rfl, fun w hS => by go_simp⟩) S3 ?_
  try simp only [List.setIfInBounds_toArray, List.set_cons_zero, List.set_cons_succ]
  refine wpAnyH_take_at (i := 15) (v := .int .i64 0) rfl rfl (by kernel_rfl) (by kernel_rfl) (by kernel_rfl) (fun _ _ _ h => h) (Or.inl ⟨by rfl, fun w hS => by go_simp⟩) S3 ?_
  try simp only [List.setIfInBounds_toArray, List.set_cons_zero, List.set_cons_succ]
  refine wpAnyH_done (by kernel_rfl) ?_ _
  have BP11 : Hid (Blk w11 gp 5 (Lib.byteCells ([1] ++ (point ++ (pub ++ List.replicate 48 0))))) := BP8.out.below S3 BP8.out.lt
  have BS11 : Hid (Blk w11 gs 78 (ptsL gp)) := BS8.out.below S3 BS8.out.lt
  have K11 : Hid (Below w.heap.size w w11) := K08.out.trans (S3.mono K08.out.size)
  obtain ⟨rba, rbc, rfl⟩ := o11.shape'
  rw [HBX.out] at o11 ⊢
  have O11 := Lib.hid o11
  have c3 : w11.cell? ⟨gs, 3, none⟩ = some (.slice (some ⟨gp, 65, none⟩) 48 48) := BS11.out.cell 3
  clear S0 S1 S2 S3 k9 k10 k11 o9 o10 o11 BP8 BS8 CSL CKEY hmt hna hmf HRG
  go_upto_region 18 with (refine wpList_copy_blk rfl (.tmp 80) (.tmp 81) 24 24 rfl 5 Tryd.underlying24 (by kernel_rfl) (some ⟨gp, 65, none⟩) rba 48 48 48 rbc rfl rfl gp 65 _ 5 BP11.out (Lib.byteCells bx) (by rw [byteCells_length, HBX.out]; rfl) (fun _ => ⟨rfl, isB_there O11.out.isB (by rw [HBX.out]; decide)⟩) (by rw [byteCells_length, HBX.out, byteCells_length]; simp [HPL.out, HPB.out]) (byteCells_oneCell _) ?_; intro w12 hb12 ho12)
  clear c3
  rw [show [1] ++ (point ++ (pub ++ List.replicate 48 0)) = ([1] ++ (point ++ pub)) ++ List.replicate 48 (0 : UInt8) by simp, splice_bytes _ bx _ 65 (by simp [HPL.out, HPB.out]), HBX.out, List.drop_replicate] at hb12
  have OE : Hid (Own w12 w.heap.size (.slice (some ⟨gp, 0, none⟩) 113 113) (M.pkt point pub bx)) := own_blk (hb12.eq_ (by simp [M.pkt])) HGP.out.1 (M.pkt_len HPL.out HPB.out HBX.out) (by decide)
  have KE : Hid (Below w.heap.size w w12) := K11.out.trans (ho12.below K11.out.size HGP.out.1)
  go_wp2
  go_ret2
  exact ⟨gp, rfl, OE.out, KE.out⟩

end Go.Proofs.YtdojalhaklkegaaDoor

namespace Go.Proofs.YtdojalhaklkegaaDoor
set_option linter.unusedVariables false
set_option maxRecDepth 100000

namespace M
/-- A number's bytes, the greatest first. -/
def bg4 (n : Nat) : List UInt8 := (le n 4).reverse
def bg8 (n : Nat) : List UInt8 := (le n 8).reverse
theorem bg4_len (n : Nat) : (bg4 n).length = 4 := by unfold bg4; rw [List.length_reverse, le_length]
theorem bg8_len (n : Nat) : (bg8 n).length = 8 := by unfold bg8; rw [List.length_reverse, le_length]
theorem bg4_gb (n : Nat) (h : n < 4294967296) : gb (bg4 n) 4 = n := gb_of_back n 4 (by show n < 4294967296; exact h)
theorem bg8_gb (n : Nat) (h : n < 18446744073709551616) : gb (bg8 n) 8 = n := gb_of_back n 8 (by show n < 18446744073709551616; exact h)
theorem bg4_inj {a b : Nat} (ha : a < 4294967296) (hb : b < 4294967296) (h : bg4 a = bg4 b) : a = b := by rw [← bg4_gb a ha, ← bg4_gb b hb, h]
theorem gb_congr (a b : List UInt8) : ∀ k, (∀ j, j < k → a.getD j 0 = b.getD j 0) → gb a k = gb b k
  | 0, _ => rfl
  | k + 1, h => by rw [gb, gb, gb_congr a b k (fun j hj => h j (by omega)), h k (by omega)]

/-- A book's box: a number's bytes, again and again. -/
def bbox (n len : Nat) : List UInt8 := (List.range len).map fun i => (bg8 n).getD (i % 8) 0
theorem bbox_len (n len : Nat) : (bbox n len).length = len := by unfold bbox; rw [List.length_map, List.length_range]
theorem bbox_num (n len : Nat) (hn : n < 18446744073709551616) (h8 : 8 ≤ len) : gb (bbox n len) 8 = n := by
  rw [← bg8_gb n hn]
  apply gb_congr
  intro j hj
  rw [bg8_gb n hn, List.getD_eq_getElem?_getD, bbox, List.getElem?_map, List.getElem?_range (by omega)]
  simp only [Option.map_some, Option.getD_some]
  rw [Nat.mod_eq_of_lt hj]

/-- What a box was sealed with: the key, the nonce, what is said beside, the box. -/
abbrev Sl := List UInt8 × List UInt8 × List UInt8 × List UInt8
/-- A book's boxes, the newest first. -/
abbrev Bk := List (Sl × List UInt8)
def bget : Bk → Sl → Option (List UInt8)
  | [], _ => none
  | e :: L, s => if e.1 = s then some e.2 else bget L s
/-- The number of an entry. -/
def bnum (e : Sl × List UInt8) : Nat := gb e.1.2.2.2 8
/-- Numbers fall. -/
def BOk : Bk → Prop
  | [] => True
  | e :: L => bnum e = L.length ∧ BOk L
theorem bnum_lt : ∀ {L : Bk}, BOk L → ∀ e ∈ L, bnum e < L.length
  | [], _, e, he => by cases he
  | f :: L, h, e, he => by
    rcases List.mem_cons.1 he with rfl | he
    · rw [h.1]; exact Nat.lt_succ_self _
    · have := bnum_lt h.2 e he
      rw [List.length_cons]; omega
theorem bget_new {L : Bk} (h : ∀ e ∈ L, gb e.1.2.2.2 8 < L.length) (s : Sl) (hs : gb s.2.2.2 8 = L.length) : bget L s = none := by
  have go : ∀ L' : Bk, (∀ e ∈ L', gb e.1.2.2.2 8 < L.length) → bget L' s = none := by
    intro L'
    induction L' with
    | nil => intro _; rfl
    | cons e r ih =>
      intro h'
      rw [bget, if_neg, ih fun e he => h' e (List.mem_cons_of_mem _ he)]
      intro e2
      have := h' e (List.mem_cons_self ..)
      rw [e2, hs] at this
      omega
  exact go L h
theorem bget_mem : ∀ {L : Bk} {s : Sl} {t : List UInt8}, bget L s = some t → (s, t) ∈ L
  | [], s, t, h => by cases h
  | e :: L, s, t, h => by
    rw [bget] at h
    split at h
    · rename_i e1
      injection h with h
      rw [← e1, ← h]
      exact List.mem_cons_self ..
    · exact List.mem_cons_of_mem _ (bget_mem h)
theorem bget_of {L : Bk} (h : BOk L) {e : Sl × List UInt8} (he : e ∈ L) : bget L e.1 = some e.2 := by
  induction L with
  | nil => cases he
  | cons f L ih =>
    rcases List.mem_cons.1 he with rfl | he
    · rw [bget, if_pos rfl]
    · rw [bget, if_neg, ih h.2 he]
      intro e1
      have h1 := bnum_lt h.2 e he
      have h2 := h.1
      unfold bnum at h1 h2
      rw [e1] at h2
      omega

/-- Pieces. -/
def np (len size : Nat) : Nat := max ((len + size - 1) / size) 1
def pc (b : List UInt8) (size i : Nat) : List UInt8 := (b.drop (i * size)).take size
theorem np_pos (len size : Nat) : 1 ≤ np len size := Nat.le_max_right _ _
theorem np_end (len size : Nat) (h : 1 ≤ size) : len ≤ np len size * size := by
  have h1 : (len + size - 1) / size ≤ np len size := Nat.le_max_left _ _
  have h2 := Nat.div_add_mod (len + size - 1) size
  have h3 := Nat.mod_lt (len + size - 1) (show 0 < size by omega)
  have h4 := Nat.mul_le_mul_right size h1
  rw [Nat.mul_comm] at h2
  omega
theorem np_in {len size i : Nat} (h : 1 ≤ size) (hi : i < np len size) : i = 0 ∨ i * size < len := by
  unfold np at hi
  by_cases h0 : i = 0
  · exact .inl h0
  · refine .inr ?_
    have h1 : i < (len + size - 1) / size := by omega
    have h2 : (i + 1) * size ≤ len + size - 1 := (Nat.le_div_iff_mul_le (by omega)).1 h1
    rw [Nat.add_mul] at h2
    omega
theorem np_in_le {len size i : Nat} (h : 1 ≤ size) (hi : i < np len size) : i * size ≤ len := by
  rcases np_in h hi with rfl | h
  · omega
  · omega
theorem np_le (len size : Nat) (h : 1 ≤ size) : np len size ≤ len + 1 := by
  unfold np
  have h1 : (len + size - 1) / size ≤ len := by
    rw [Nat.div_le_iff_le_mul_add_pred (by omega)]
    have := Nat.le_mul_of_pos_left len h
    omega
  omega
theorem pc_len (b : List UInt8) (size i : Nat) : (pc b size i).length = min size (b.length - i * size) := by
  unfold pc; rw [List.length_take, List.length_drop]
theorem pc_take (b : List UInt8) (size : Nat) : ∀ i, (List.range i).flatMap (pc b size) = b.take (i * size)
  | 0 => by simp
  | i + 1 => by
    rw [List.range_succ, List.flatMap_append, pc_take b size i, Nat.succ_mul, List.take_add]
    simp [pc]
theorem pc_flat (b : List UInt8) (size : Nat) (h : 1 ≤ size) : (List.range (np b.length size)).flatMap (pc b size) = b := by
  rw [pc_take, List.take_of_length_le (np_end _ _ h)]

/-- A head; a chunk's nonce. -/
def hd (pre : List UInt8) (size : Nat) : List UInt8 := 1 :: (pre ++ bg4 size)
def nonce (pre : List UInt8) (i : Nat) (last : Bool) : List UInt8 := pre ++ bg4 i ++ [if last then 1 else 0]
theorem hd_len {pre : List UInt8} (h : pre.length = 7) (size : Nat) : (hd pre size).length = 12 := by
  unfold hd; rw [List.length_cons, List.length_append, h, bg4_len]
theorem nonce_len {pre : List UInt8} (h : pre.length = 7) (i : Nat) (l : Bool) : (nonce pre i l).length = 12 := by
  unfold nonce; rw [List.length_append, List.length_append, h, bg4_len]; rfl
theorem hd_pre {pre : List UInt8} (h : pre.length = 7) (size : Nat) : ((hd pre size).drop 1).take 7 = pre := by
  unfold hd
  rw [List.drop_succ_cons, List.drop_zero, List.take_append_of_le_length (by omega), List.take_of_length_le (by omega)]
theorem hd_size {pre : List UInt8} (h : pre.length = 7) (size : Nat) (hs : size < 4294967296) : gb ((hd pre size).drop 8) 4 = size := by
  unfold hd
  rw [List.drop_succ_cons, List.drop_append_of_le_length (by omega), List.drop_of_length_le (by omega), List.nil_append, bg4_gb size hs]
theorem nonce_inj {p q : List UInt8} {i j : Nat} {l m : Bool} (hp : p.length = 7) (hq : q.length = 7) (hi : i < 4294967296) (hj : j < 4294967296) (h : nonce p i l = nonce q j m) : p = q ∧ i = j ∧ l = m := by
  unfold nonce at h
  have h1 := List.append_inj h (by rw [List.length_append, List.length_append, hp, hq, bg4_len, bg4_len])
  have h2 := List.append_inj h1.1 (by rw [hp, hq])
  refine ⟨h2.1, bg4_inj hi hj h2.2, ?_⟩
  have h3 := h1.2
  cases l <;> cases m <;> simp_all

/-- What a book holds of chunk i. -/
def ent (n0 : Nat) (key pre ctx layer : List UInt8) (size i : Nat) : Sl × List UInt8 :=
  ((key, nonce pre i (decide (i + 1 = np layer.length size)), hd pre size ++ ctx, bbox (n0 + i) ((pc layer size i).length + 16)), pc layer size i)
def sbk (L : Bk) (key pre ctx layer : List UInt8) (size : Nat) : Nat → Bk
  | 0 => L
  | i + 1 => ent L.length key pre ctx layer size i :: sbk L key pre ctx layer size i
def sbx (n0 : Nat) (layer : List UInt8) (size i : Nat) : List UInt8 := (List.range i).flatMap fun j => bbox (n0 + j) ((pc layer size j).length + 16)
/-- What is sealed, and the book behind it. -/
def sealB (n0 : Nat) (pre layer : List UInt8) (size : Nat) : List UInt8 := hd pre size ++ sbx n0 layer size (np layer.length size)
def bookB (L : Bk) (key pre ctx layer : List UInt8) (size : Nat) : Bk := sbk L key pre ctx layer size (np layer.length size)

theorem sbk_len (L : Bk) (key pre ctx layer : List UInt8) (size : Nat) : ∀ i, (sbk L key pre ctx layer size i).length = L.length + i
  | 0 => rfl
  | i + 1 => by rw [sbk, List.length_cons, sbk_len L key pre ctx layer size i]; rfl
theorem sbk_ok (L : Bk) (key pre ctx layer : List UInt8) (size : Nat) (h : BOk L) : ∀ i, L.length + i < 18446744073709551616 → BOk (sbk L key pre ctx layer size i)
  | 0, _ => h
  | i + 1, hi => by
    refine ⟨?_, sbk_ok L key pre ctx layer size h i (by omega)⟩
    rw [sbk_len]
    exact bbox_num _ _ (by omega) (by omega)
theorem sbk_mem {L : Bk} {key pre ctx layer : List UInt8} {size : Nat} {e : Sl × List UInt8} : ∀ {i}, e ∈ sbk L key pre ctx layer size i ↔ e ∈ L ∨ ∃ j, j < i ∧ e = ent L.length key pre ctx layer size j
  | 0 => by
    rw [sbk]
    exact ⟨.inl, fun h => h.elim id fun ⟨j, hj, _⟩ => absurd hj (Nat.not_lt_zero j)⟩
  | i + 1 => by
    rw [sbk, List.mem_cons, sbk_mem]
    constructor
    · rintro (rfl | h | ⟨j, hj, rfl⟩)
      · exact .inr ⟨i, by omega, rfl⟩
      · exact .inl h
      · exact .inr ⟨j, by omega, rfl⟩
    · rintro (h | ⟨j, hj, rfl⟩)
      · exact .inr (.inl h)
      · by_cases e : j = i
        · subst e; exact .inl rfl
        · exact .inr (.inr ⟨j, by omega, rfl⟩)
theorem sbx_succ (n0 : Nat) (layer : List UInt8) (size i : Nat) : sbx n0 layer size (i + 1) = sbx n0 layer size i ++ bbox (n0 + i) ((pc layer size i).length + 16) := by
  unfold sbx; rw [List.range_succ, List.flatMap_append]; simp
theorem sbx_len (n0 : Nat) (layer : List UInt8) (size : Nat) : ∀ i, (sbx n0 layer size i).length = ((List.range i).flatMap (pc layer size)).length + i * 16
  | 0 => by simp [sbx]
  | i + 1 => by
    rw [sbx_succ, List.length_append, sbx_len n0 layer size i, bbox_len, List.range_succ, List.flatMap_append, List.length_append]
    simp
    omega

/-- What is opened. -/
def osz (s : List UInt8) : Nat := gb (s.drop 8) 4
def onp (s : List UInt8) : Nat := np (s.length - 12) (osz s + 16)
def opc (s : List UInt8) (i : Nat) : List UInt8 := pc (s.drop 12) (osz s + 16) i
/-- Can it be cut? -/
def oOk (s : List UInt8) : Prop := 12 ≤ s.length ∧ s.getD 0 0 = 1 ∧ 1 ≤ osz s ∧ osz s ≤ 65536 ∧ ((onp s - 1) * (osz s + 16) + 16 < s.length - 12 ∨ ((onp s - 1) * (osz s + 16) + 16 = s.length - 12 ∧ (onp s - 1) * (osz s + 16) = 0))
def okey (key ctx s : List UInt8) (i : Nat) : Sl := (key, nonce ((s.drop 1).take 7) i (decide (i + 1 = onp s)), s.take 12 ++ ctx, opc s i)
def orun (L : Bk) (key ctx s : List UInt8) : Nat → Option (List UInt8)
  | 0 => some []
  | i + 1 => (orun L key ctx s i).bind fun t => (bget L (okey key ctx s i)).map (t ++ ·)

theorem orun_all {L : Bk} {key ctx s : List UInt8} : ∀ {i : Nat} {z : List UInt8}, orun L key ctx s i = some z → ∀ j, j < i → ∃ t, bget L (okey key ctx s j) = some t
  | 0, z, h, j, hj => absurd hj (Nat.not_lt_zero j)
  | i + 1, z, h, j, hj => by
    rw [orun] at h
    cases h1 : orun L key ctx s i with
    | none => rw [h1] at h; cases h
    | some t =>
      rw [h1] at h
      cases h2 : bget L (okey key ctx s i) with
      | none => rw [h2] at h; cases h
      | some u =>
        by_cases e : j = i
        · subst e; exact ⟨u, h2⟩
        · exact orun_all h1 j (by omega)
theorem orun_none {L : Bk} {key ctx s : List UInt8} {i : Nat} (h : bget L (okey key ctx s i) = none) : ∀ {m : Nat}, i < m → orun L key ctx s m = none := by
  intro m hm
  cases e : orun L key ctx s m with
  | none => rfl
  | some z =>
    obtain ⟨t, ht⟩ := orun_all e i hm
    rw [h] at ht
    cases ht

/-- The head of what was sealed. -/
theorem sealB_take {pre : List UInt8} (hp : pre.length = 7) (n0 : Nat) (layer : List UInt8) (size : Nat) : (sealB n0 pre layer size).take 12 = hd pre size := by
  unfold sealB
  rw [List.take_append_of_le_length (by rw [hd_len hp]; exact Nat.le_refl _), List.take_of_length_le (by rw [hd_len hp]; exact Nat.le_refl _)]
theorem sealB_drop {pre : List UInt8} (hp : pre.length = 7) (n0 : Nat) (layer : List UInt8) (size : Nat) : (sealB n0 pre layer size).drop 12 = sbx n0 layer size (np layer.length size) := by
  unfold sealB
  rw [List.drop_append_of_le_length (by rw [hd_len hp]; exact Nat.le_refl _), List.drop_of_length_le (by rw [hd_len hp]; exact Nat.le_refl _), List.nil_append]
theorem sealB_len {pre : List UInt8} (hp : pre.length = 7) (n0 : Nat) (layer : List UInt8) (size : Nat) (h : 1 ≤ size) : (sealB n0 pre layer size).length = 12 + layer.length + np layer.length size * 16 := by
  unfold sealB
  rw [List.length_append, hd_len hp, sbx_len, pc_flat _ _ h]
  omega
theorem head_of {s pre : List UInt8} {size : Nat} (hp : pre.length = 7) (hs : size < 4294967296) (h : s.take 12 = hd pre size) : 12 ≤ s.length ∧ (s.drop 1).take 7 = pre ∧ osz s = size := by
  have hl : 12 ≤ s.length := by
    have := congrArg List.length h
    rw [hd_len hp, List.length_take] at this
    omega
  have e : s = hd pre size ++ s.drop 12 := by rw [← h, List.take_append_drop]
  refine ⟨hl, ?_, ?_⟩
  · rw [e]
    have hh := hd_len hp size
    rw [List.drop_append_of_le_length (by omega), List.take_append_of_le_length (by rw [List.length_drop]; omega), hd_pre hp]
  · unfold osz
    rw [e]
    have hh := hd_len hp size
    rw [List.drop_append_of_le_length (by omega)]
    refine Eq.trans ?_ (hd_size hp size hs)
    apply gb_congr
    intro j hj
    rw [List.getD_eq_getElem?_getD, List.getD_eq_getElem?_getD, List.getElem?_append_left (by rw [List.length_drop]; omega)]

/-- Whatever is opened, with a book of two layers that were sealed with one key and context and other prefixes, is one of the two. -/
theorem opened {key ctx layer p q : List UInt8} {size n0 : Nat} {key' ctx' s : List UInt8} {L : Bk}
    (hp : p.length = 7) (hq : q.length = 7) (hpq : p ≠ q) (hsz : 1 ≤ size) (hsz2 : size ≤ 65536) (hl : layer.length < 4294967295) (hs : s.length < 4294967295)
    (hL : ∀ sl t, bget L sl = some t → (∃ j, j < np layer.length size ∧ sl = (ent 0 key p ctx layer size j).1) ∨ (∃ j, j < np layer.length size ∧ sl = (ent n0 key q ctx layer size j).1))
    (h12 : 12 ≤ s.length) {z : List UInt8} (hz : orun L key' ctx' s (onp s) = some z) : key' = key ∧ ctx' = ctx ∧ (s = sealB 0 p layer size ∨ s = sealB n0 q layer size) := by
  have hall := orun_all hz
  have hm : 1 ≤ onp s := np_pos _ _
  have hml : onp s ≤ s.length - 12 + 1 := np_le _ _ (by omega)
  have hkl : np layer.length size ≤ layer.length + 1 := np_le _ _ hsz
  have ht12 : (s.take 12).length = 12 := by rw [List.length_take]; omega
  have one : ∀ (r : List UInt8) (m0 : Nat), r.length = 7 → s.take 12 = hd r size → (∀ j, j < onp s → ∃ i, i < np layer.length size ∧ okey key' ctx' s j = (ent m0 key r ctx layer size i).1) → key' = key ∧ ctx' = ctx ∧ s = sealB m0 r layer size := by
    intro r m0 hr hh hj
    obtain ⟨_, hpre, hosz⟩ := head_of hr (by omega) hh
    have each : ∀ j, j < onp s → j < np layer.length size ∧ (decide (j + 1 = onp s) = decide (j + 1 = np layer.length size)) ∧ opc s j = bbox (m0 + j) ((pc layer size j).length + 16) ∧ key' = key ∧ ctx' = ctx := by
      intro j hjm
      obtain ⟨i, hi, e⟩ := hj j hjm
      unfold okey ent at e
      simp only [Prod.mk.injEq] at e
      obtain ⟨e1, e2, e3, e4⟩ := e
      rw [hpre] at e2
      obtain ⟨_, rfl, e5⟩ := nonce_inj hr hr (by omega) (by omega) e2
      have e6 := List.append_inj e3 (by rw [ht12, hd_len hr])
      exact ⟨hi, e5, e4, e1, e6.2⟩
    have hk : onp s = np layer.length size := by
      obtain ⟨h1, h2, _⟩ := each (onp s - 1) (by omega)
      rw [decide_eq_true (by omega)] at h2
      have := of_decide_eq_true h2.symm
      omega
    obtain ⟨_, _, _, ek, ec⟩ := each 0 (by omega)
    refine ⟨ek, ec, ?_⟩
    rw [← List.take_append_drop 12 s, hh]
    unfold sealB
    congr 1
    have hf := pc_flat (s.drop 12) (osz s + 16) (by omega)
    rw [List.length_drop] at hf
    rw [← hf]
    change (List.range (onp s)).flatMap _ = _
    unfold sbx
    rw [← hk]
    have : ∀ (n : Nat), n ≤ onp s → (List.range n).flatMap (pc (s.drop 12) (osz s + 16)) = (List.range n).flatMap fun j => bbox (m0 + j) ((pc layer size j).length + 16) := by
      intro n
      induction n with
      | zero => intro _; rfl
      | succ n ih =>
        intro hn
        rw [List.range_succ, List.flatMap_append, List.flatMap_append, ih (by omega)]
        have := (each n (by omega)).2.2.1
        unfold opc at this
        simp [this]
    exact this _ (Nat.le_refl _)
  have fam : ∀ j, j < onp s → (∃ i, i < np layer.length size ∧ okey key' ctx' s j = (ent 0 key p ctx layer size i).1) ∨ (∃ i, i < np layer.length size ∧ okey key' ctx' s j = (ent n0 key q ctx layer size i).1) := by
    intro j hj
    obtain ⟨t, ht⟩ := hall j hj
    rcases hL _ _ ht with h | h
    · exact .inl h
    · exact .inr h
  have hdOf : ∀ (r : List UInt8) (m0 i j : Nat), r.length = 7 → okey key' ctx' s j = (ent m0 key r ctx layer size i).1 → s.take 12 = hd r size := by
    intro r m0 i j hr e
    unfold okey ent at e
    simp only [Prod.mk.injEq] at e
    exact (List.append_inj e.2.2.1 (by rw [ht12, hd_len hr])).1
  have hne : hd p size ≠ hd q size := by
    intro e
    apply hpq
    rw [← hd_pre hp size, ← hd_pre hq size, e]
  rcases fam 0 (by omega) with ⟨i, hi, e⟩ | ⟨i, hi, e⟩
  · have hh := hdOf p 0 i 0 hp e
    have := one p 0 hp hh fun j hj => (fam j hj).elim id fun ⟨i2, hi2, e2⟩ => absurd (hh.symm.trans (hdOf q n0 i2 j hq e2)) hne
    exact ⟨this.1, this.2.1, .inl this.2.2⟩
  · have hh := hdOf q n0 i 0 hq e
    have := one q n0 hq hh fun j hj => (fam j hj).elim (fun ⟨i2, hi2, e2⟩ => absurd ((hdOf p 0 i2 j hp e2).symm.trans hh) hne) id
    exact ⟨this.1, this.2.1, .inr this.2.2⟩

end M
end Go.Proofs.YtdojalhaklkegaaDoor

namespace Go.Proofs.YtdojalhaklkegaaDoor.M
set_option linter.unusedVariables false

section
variable {α β : Type}

/-- A list by names. -/
abbrev KL (α : Type) := List (List UInt8 × α)
def KRise (l : KL α) : Prop := l.Pairwise fun p q => bytesBefore p.1 q.1 = true
def kget (l : KL α) (k : List UInt8) : Option α := (l.find? fun p => p.1 == k).map (·.2)
def kdel (l : KL α) (k : List UInt8) : KL α := l.filter fun p => !(p.1 == k)
def kins (k : List UInt8) (v : α) : KL α → KL α
  | [] => [(k, v)]
  | q :: r => if bytesBefore k q.1 = true then (k, v) :: q :: r else q :: kins k v r
def kput (l : KL α) (k : List UInt8) (v : α) : KL α := kins k v (kdel l k)

theorem kget_cons (p : List UInt8 × α) (l : KL α) (k : List UInt8) : kget (p :: l) k = if p.1 = k then some p.2 else kget l k := by
  rw [kget, List.find?_cons]
  by_cases h : p.1 = k
  · simp [h]
  · have : (p.1 == k) = false := by simpa using h
    rw [this, if_neg h]
    rfl

/-- Two lists by the same names, what stands there being of a kind. -/
def KRel (Q : List UInt8 → α → β → Prop) : KL α → KL β → Prop
  | [], [] => True
  | p :: l, q :: m => (p.1 = q.1 ∧ Q q.1 p.2 q.2) ∧ KRel Q l m
  | _, _ => False

theorem KRel.mono {Q Q' : List UInt8 → α → β → Prop} (hq : ∀ k x y, Q k x y → Q' k x y) : ∀ {l : KL α} {m : KL β}, KRel Q l m → KRel Q' l m
  | [], [], _ => trivial
  | p :: l, q :: m, h => ⟨⟨h.1.1, hq _ _ _ h.1.2⟩, KRel.mono hq h.2⟩

theorem KRel.keys {Q : List UInt8 → α → β → Prop} : ∀ {l : KL α} {m : KL β}, KRel Q l m → l.map (·.1) = m.map (·.1)
  | [], [], _ => rfl
  | p :: l, q :: m, h => by rw [List.map_cons, List.map_cons, h.1.1, KRel.keys h.2]

theorem KRel.len {Q : List UInt8 → α → β → Prop} {l : KL α} {m : KL β} (h : KRel Q l m) : l.length = m.length := by
  have := congrArg List.length h.keys
  rwa [List.length_map, List.length_map] at this

theorem KRel.del {Q : List UInt8 → α → β → Prop} (k : List UInt8) : ∀ {l : KL α} {m : KL β}, KRel Q l m → KRel Q (kdel l k) (kdel m k)
  | [], [], _ => trivial
  | p :: l, q :: m, h => by
    have ih := KRel.del k h.2
    by_cases e : q.1 = k
    · have e1 : kdel (p :: l) k = kdel l k := by rw [kdel, List.filter_cons_of_neg (by simp [h.1.1, e])]; rfl
      have e2 : kdel (q :: m) k = kdel m k := by rw [kdel, List.filter_cons_of_neg (by simp [e])]; rfl
      rw [e1, e2]; exact ih
    · have e1 : kdel (p :: l) k = p :: kdel l k := by rw [kdel, List.filter_cons_of_pos (by simp [h.1.1, e])]; rfl
      have e2 : kdel (q :: m) k = q :: kdel m k := by rw [kdel, List.filter_cons_of_pos (by simp [e])]; rfl
      rw [e1, e2]; exact ⟨h.1, ih⟩

theorem KRel.ins {Q : List UInt8 → α → β → Prop} (k : List UInt8) (x : α) (y : β) (hq : Q k x y) : ∀ {l : KL α} {m : KL β}, KRel Q l m → KRel Q (kins k x l) (kins k y m)
  | [], [], _ => ⟨⟨rfl, hq⟩, trivial⟩
  | p :: l, q :: m, h => by
    rw [kins, kins, h.1.1]
    by_cases e : bytesBefore k q.1 = true
    · rw [if_pos e, if_pos e]; exact ⟨⟨rfl, hq⟩, h⟩
    · rw [if_neg e, if_neg e]; exact ⟨h.1, KRel.ins k x y hq h.2⟩

theorem KRel.put {Q : List UInt8 → α → β → Prop} {l : KL α} {m : KL β} (h : KRel Q l m) (k : List UInt8) (x : α) (y : β) (hq : Q k x y) : KRel Q (kput l k x) (kput m k y) := KRel.ins k x y hq (h.del k)

end

end Go.Proofs.YtdojalhaklkegaaDoor.M
