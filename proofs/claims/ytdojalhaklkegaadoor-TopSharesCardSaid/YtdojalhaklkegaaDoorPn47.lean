/-
  CONTRACT OF wrap.Wrap, with a book: the document's packet, and the book behind it. Conditions: the tables of layer 2 lie as they were laid; what is shared isn't 0; the context has up to 1,000 bytes.
  CONTRACT OF wrap.Unwrap of a right packet, with the real crypt. Conditions: the tables of layers 2 and 4 lie as they were laid; what is shared isn't 0; the context has up to 1,000 bytes.
  CONTRACT OF wrap.Unwrap of a right packet, with a book. Conditions: the tables of layer 2 lie as they were laid; what is shared isn't 0; the context has up to 1,000 bytes.
-/
import Derived.Test.YtdojalhaklkegaaDoorPn36
import Derived.Test.YtdojalhaklkegaaDoorPn32
import Derived.Test.YtdojalhaklkegaaDoorPn46
import Derived.Deep.RegionHeld

namespace Go.Proofs.YtdojalhaklkegaaDoor
open Go.RowKit Go.Maps
set_option linter.unusedVariables false
set_option maxRecDepth 100000



set_option maxHeartbeats 16000000 in
theorem wrapBook_any {T : Nat → Prop} {w : World} {gb m1 m2 : Nat} {L : M.Bk} (hB : BkIs T w gb m1 m2 L) (ov pv kv xv : Value) (once point key ctx : List UInt8) (hS : Laid w) (ho : IsB w ov once) (hp : IsB w pv point) (hk : IsB w kv key) (hx : IsB w xv ctx)
    (hol : once.length = 32) (hpl : point.length = 32) (hkl : key.length = 32) (zx : ∀ n c, xv = .slice none n c → c = 0) (hxl : ctx.length ≤ 1000) (hsec : ¬ M.secret once point = 0) (hfew : L.length < 100000) :
    Calls Tryd.prog 17 #[.iface 72 (.pointer (some ⟨gb, 0, none⟩)), ov, pv, kv, xv] w fun e w' => ∃ g, e = .returned (.tuple #[.slice (some ⟨g, 0, none⟩) 113 113, .int .i64 0]) ∧
      Own w' w.heap.size (.slice (some ⟨g, 0, none⟩) 113 113) (M.pkt point (M.le (M.point once) 32) (M.bbox L.length 48)) ∧
      (∃ T', BkIs T' w' gb m1 m2 (((M.wkey (M.le (M.secret once point) 32) (M.le (M.point once) 32) point, List.replicate 12 0, ctx, M.bbox L.length 48), key) :: L) ∧ ∀ k, T' k → T k ∨ w.heap.size ≤ k) ∧ Chg (fun b => b = m2) w w' := by
  obtain ⟨oa, oc, rfl⟩ := ho.shape
  obtain ⟨pa, pc, rfl⟩ := hp.shape
  obtain ⟨ka, kc, rfl⟩ := hk.shape
  obtain ⟨xa, xc, rfl⟩ := hx.shape
  obtain ⟨xn, hxn⟩ : ∃ n, n = ctx.length := ⟨_, rfl⟩
  rw [hol] at ho ⊢
  rw [hpl] at hp ⊢
  rw [hkl] at hk ⊢
  rw [← hxn] at hx zx ⊢
  obtain ⟨Z, hZ⟩ : ∃ Z, Hid (Z = (Lib.byteCells (List.replicate 113 0)).toArray) := ⟨_, rfl⟩
  have hmk : ∀ w : World, (Instr.makeSlice 24 (.int .i64 113) (.int .i64 113)).run Tryd.prog w = .ok (.slice (some ⟨w.heap.size, 0, none⟩) 113 113) (w.alloc (.cells Z 5)) := fun w => by rw [hZ.out]; exact make113 w
  obtain ⟨sec, hsc⟩ : ∃ s, Hid (s = M.le (M.secret once point) 32) := ⟨_, rfl⟩
  obtain ⟨pub, hpb⟩ : ∃ s, Hid (s = M.le (M.point once) 32) := ⟨_, rfl⟩
  have CSH : Hid (Calls Tryd.prog 14 #[.slice oa 32 oc, .slice pa 32 pc] w (MakesOk w sec)) := by
    rw [Hid, hsc.out]
    exact (shared_any field_ok _ _ once point w ho hp hol hpl).mono fun e w' h => h.2 hsec
  have CPU : Hid (∀ W, Below w.heap.size w W → Calls Tryd.prog 13 #[.slice oa 32 oc] W (MakesOk W pub)) := by
    intro W k
    rw [hpb.out]
    exact publicOk_any field_ok _ once W (ho.below k) hol
  rw [← hsc.out, ← hpb.out]
  have HPB : Hid (pub.length = 32) := by rw [Hid, hpb.out, M.le_length]
  have HSC : Hid (sec.length = 32) := by rw [Hid, hsc.out, M.le_length]
  obtain ⟨K, hK⟩ : ∃ K, Hid (K = M.wkey sec pub point) := ⟨_, rfl⟩
  rw [← hK.out]
  have HKL : Hid (K.length = 32) := by rw [Hid, hK.out]; exact M.wkey_len _ _ _
  have HP := Lib.hid hp
  have HPL := Lib.hid hpl
  have HKK := Lib.hid hk
  have HX := Lib.hid hx
  have ZX := Lib.hid zx
  have HS := Lib.hid hS
  have HXL : Hid (ctx.length ≤ 1000 ∧ key.length = 32 ∧ L.length < 100000) := ⟨hxl, hkl, hfew⟩
  have HBB := Lib.hid hB
  have HM2 : Hid (m2 < w.heap.size) := hB.up _ hB.tm
  obtain ⟨bx, hbx⟩ : ∃ b, Hid (b = M.bbox L.length 48) := ⟨_, rfl⟩
  have HBX : Hid (bx.length = 48) := by rw [Hid, hbx.out, M.bbox_len]
  rw [← hbx.out]
  clear hS hB ho hp hk hx hol hpl hkl zx hxl hsec hxn hfew
  go_enter Tryd.func17, Tryd.ntmps17
  go_wp2_with fail
  refine CSH.out.mono ?_
  rintro e w1 ⟨sv, rfl, o1, k1⟩
  have O1 := Lib.hid o1
  have K1 := Lib.hid k1
  clear o1 k1 CSH
  go_wp2_with fail
  refine (CPU.out w1 K1.out).mono ?_
  rintro e w2 ⟨uv, rfl, o2, k2⟩
  obtain ⟨ua, uc, rfl⟩ := o2.shape'
  rw [HPB.out] at o2 ⊢
  have O2 := Lib.hid o2
  have K2 : Hid (Below w.heap.size w w2) := K1.out.trans (k2.mono K1.out.size)
  have O12 : Hid (Own w2 w.heap.size sv sec) := O1.out.below k2
  have HO2 : Hid (Own w2 w.heap.size (.slice ua 32 uc) pub) := O2.out.mono K1.out.size
  clear o2 k2 CPU O1 K1 O2
  obtain ⟨W3, hW3⟩ : ∃ x, x = w2.alloc (.cells Z 5) := ⟨_, rfl⟩
  have k23 : Below w2.heap.size w2 W3 := by rw [hW3]; exact (Below.refl _ _).alloc (Nat.le_refl _) _
  have BP3 : Hid (Blk W3 w2.heap.size 5 (Lib.byteCells (List.replicate 113 0))) := by
    rw [Hid, hW3, hZ.out]
    exact Blk.newAt _ _ _ _ _ rfl (by simp)
  have K23 := Lib.hid k23
  have E3 := Lib.hid hW3
  have CC := Lib.hid (cut18_any w2.heap.size 113 (Nat.le_refl _) W3)
  clear k23 hW3
  go_wp2_with fail
  rw [← E3.out]
  clear E3 hmk
  obtain ⟨gp, hgp⟩ : ∃ g, g = w2.heap.size := ⟨_, rfl⟩
  have HGP : Hid (w.heap.size ≤ gp ∧ gp < W3.heap.size ∧ gp = w2.heap.size) := ⟨by rw [hgp]; exact K2.out.size, by rw [hgp]; exact BP3.out.lt, hgp⟩
  rw [← hgp] at CC BP3 ⊢
  clear hgp
  refine CC.out.mono ?_
  rintro e w4 ⟨rfl, k4⟩
  have BP4 : Hid (Blk w4 gp 5 (Lib.byteCells (List.replicate 113 0))) := BP3.out.below k4 BP3.out.lt
  have K24 : Hid (Below w2.heap.size w2 w4) := K23.out.trans (k4.mono K23.out.size)
  have HG4 : Hid (gp < w4.heap.size) := BP4.out.lt
  clear k4 CC BP3 K23
  obtain ⟨gs, hgs⟩ : ∃ g, g = w4.heap.size := ⟨_, rfl⟩
  go_upto_region 11 with (refine wpList_store_blk rfl 78 (.tmp 16) (.tmp 50) rfl w4.heap.size (ptsL gp).toArray rfl rfl 78 (List.replicate 4 (.slice none 0 0)) (Blk.newAt _ _ _ _ _ rfl rfl) (by kernel_rfl) rfl (by intro v hv; simp [ptsL] at hv; rcases hv with rfl | rfl | rfl | rfl <;> rfl) ?_; intro w5 hb5 ho5)
  have k45 : Below w4.heap.size w4 w5 := ((Below.refl _ _).alloc (Nat.le_refl _) _).trans (ho5.below (by simp) (Nat.le_refl _))
  rw [← hgs] at hb5 ⊢
  have HGS : Hid (gp < gs ∧ w2.heap.size ≤ gs) := ⟨by rw [hgs]; exact HG4.out, by rw [hgs]; exact K24.out.size⟩
  have BS5 : Hid (Blk w5 gs 78 (ptsL gp)) := hb5.eq_ (by simp)
  have BP5 : Hid (Blk w5 gp 5 (Lib.byteCells (List.replicate 113 0))) := BP4.out.below k45 BP4.out.lt
  have K25 : Hid (Below w2.heap.size w2 w5) := K24.out.trans (k45.mono K24.out.size)
  clear hb5 ho5 k45 BP4 K24 HG4 hgs
  have c0 : w5.cell? ⟨gs, 0, none⟩ = some (.slice (some ⟨gp, 0, none⟩) 1 1) := BS5.out.cell 0
  have hfz : w5.frozen? ⟨gp, 0, none⟩ = false := BP5.out.frozen 0
  have c00 : w5.cell? ⟨gp, 0, none⟩ = some (.int .u8 0) := BP5.out.cell 0
  go_upto_region 12 with fail
  clear c0 c00 hfz
  obtain ⟨w6, hw6⟩ : ∃ x, x = w5.setCell ⟨gp, 0, none⟩ (.int .u8 1) := ⟨_, rfl⟩
  rw [← hw6]
  have BS6 : Hid (Blk w6 gs 78 (ptsL gp)) := by
    rw [Hid, hw6]
    exact BS5.out.far (p := ⟨gp, 0, none⟩) (by have := HGS.out; show gs ≠ gp; omega) _
  have BP6 : Hid (Blk w6 gp 5 (Lib.byteCells ([1] ++ List.replicate 112 0))) := by
    rw [Hid, hw6]
    exact (BP5.out.set_ 0 (.int .u8 1)).eq_ rfl
  have K26 : Hid (Below w2.heap.size w2 w6) := by
    rw [Hid, hw6]
    exact K25.out.setCell (p := ⟨gp, 0, none⟩) (by have := HGP.out; show w2.heap.size ≤ gp; omega) _
  clear hw6 BS5 BP5 K25
  have HP6 := Lib.hid (HP.out.below (K2.out.trans (K26.out.mono K2.out.size)))
  have c1 : w6.cell? ⟨gs, 1, none⟩ = some (.slice (some ⟨gp, 1, none⟩) 32 32) := BS6.out.cell 1
  go_upto_region 13 with (refine wpList_copy_blk rfl (.tmp 55) (.tmp 56) 24 24 rfl 5 Tryd.underlying24 (by kernel_rfl) (some ⟨gp, 1, none⟩) pa 32 32 32 pc rfl rfl gp 1 _ 5 BP6.out (Lib.byteCells point) (by rw [byteCells_length, HPL.out]; rfl) (fun _ => ⟨rfl, isB_there HP6.out (by rw [HPL.out]; decide)⟩) (by rw [byteCells_length, HPL.out, byteCells_length]; decide) (byteCells_oneCell _) ?_; intro w7 hb7 ho7)
  clear c1
  rw [splice_bytes [1] point _ 1 rfl, HPL.out, List.drop_replicate] at hb7
  have BP7 := Lib.hid hb7
  have BS7 : Hid (Blk w7 gs 78 (ptsL gp)) := BS6.out.grown ho7 (by have := HGS.out; intro e; injection e with e; omega)
  have K27 : Hid (Below w2.heap.size w2 w7) := K26.out.trans (ho7.below K26.out.size (by have := HGP.out; omega))
  have HU7 : Hid (Own w7 w.heap.size (.slice ua 32 uc) pub) := HO2.out.below K27.out
  clear hb7 ho7 BP6 BS6 K26 HP6
  have c2 : w7.cell? ⟨gs, 2, none⟩ = some (.slice (some ⟨gp, 33, none⟩) 32 32) := BS7.out.cell 2
  go_upto_region 14 with (refine wpList_copy_blk rfl (.tmp 59) (.tmp 60) 24 24 rfl 5 Tryd.underlying24 (by kernel_rfl) (some ⟨gp, 33, none⟩) ua 32 32 32 uc rfl rfl gp 33 _ 5 BP7.out (Lib.byteCells pub) (by rw [byteCells_length, HPB.out]; rfl) (fun _ => ⟨rfl, isB_there HU7.out.isB (by rw [HPB.out]; decide)⟩) (by rw [byteCells_length, HPB.out, byteCells_length]; simp [HPL.out]) (byteCells_oneCell _) ?_; intro w8 hb8 ho8)
  clear c2
  rw [← List.append_assoc, splice_bytes ([1] ++ point) pub _ 33 (by simp [HPL.out]), HPB.out, List.drop_replicate, List.append_assoc] at hb8
  have BP8 : Hid (Blk w8 gp 5 (Lib.byteCells ([1] ++ (point ++ (pub ++ List.replicate 48 0))))) := hb8
  have BS8 : Hid (Blk w8 gs 78 (ptsL gp)) := BS7.out.grown ho8 (by have := HGS.out; intro e; injection e with e; omega)
  have K28 : Hid (Below w2.heap.size w2 w8) := K27.out.trans (ho8.below K27.out.size (by have := HGP.out; omega))
  have K08 : Hid (Below w.heap.size w w8) := K2.out.trans (K28.out.mono K2.out.size)
  clear hb8 ho8 BP7 BS7 K27 HU7 HO2
  have HSV : Hid (IsB w8 sv sec) := (O12.out.below K28.out).isB
  clear O12
  have HPT : Hid (IsB w8 (.slice (some ⟨gp, 1, none⟩) 32 32) point) := isB_mid [1] point (pub ++ List.replicate 48 0) 1 32 BP8.out rfl HPL.out (by decide)
  have HPU : Hid (IsB w8 (.slice (some ⟨gp, 33, none⟩) 32 32) pub) := isB_mid ([1] ++ point) pub (List.replicate 48 0) 33 32 (BP8.out.eq_ (by simp)) (by simp [HPL.out]) HPB.out (by decide)
  have CKEY : Hid (∀ W, Below w8.heap.size w8 W → Calls Tryd.prog 35 #[.agg (ptsL gp).toArray, sv] W (Makes W K)) := by
    intro W k
    rw [hK.out]
    exact wkey_any gp sv sec pub point W ((HS.out.below K08.out HS.out.size).below k (Nat.le_trans HS.out.size K08.out.size)) (HPT.out.below k) (HPU.out.below k) (HSV.out.below k) HSC.out
  have HK8 := Lib.hid (HKK.out.below K08.out)
  have HX8 := Lib.hid (HX.out.below K08.out)
  clear HSV HPT HPU HP HX HKK
  have hmf : ∀ (fn : Fn) (first cap : Array Value) (w : World), (Instr.makeFunc fn first cap).run Tryd.prog w = .ok (.func fn first cap) w := fun _ _ _ _ => rfl
  have HNM : Hid (gs ≠ m2 ∧ gp ≠ m2) := by
    have := HGS.out; have := HGP.out; have := HM2.out; have := K2.out.size
    exact ⟨by omega, by omega⟩
  have CSL : Hid (∀ W kv nv, Below w8.heap.size w8 W → IsB W kv K → IsB W nv (List.replicate 12 0) → Calls Tryd.prog 136 #[.pointer (some ⟨gb, 0, none⟩), kv, nv, .slice xa xn xc, .slice ka 32 kc] W fun e w' => ∃ r, e = .returned (.tuple #[r, .int .i64 0]) ∧ Own w' W.heap.size r bx ∧
      BkIs (Wider T W w') w' gb m1 m2 (((K, List.replicate 12 0, ctx, bx), key) :: L) ∧ Chg (fun b => b = m2) W w') := by
    intro W kv nv k h1 h2
    have hl := HXL.out
    have := bkSeal_any ((HBB.out.below K08.out).below k) hl.2.2 kv nv _ _ K (List.replicate 12 0) ctx key h1 h2 (HX8.out.below k) (HK8.out.below k) HKL.out (by simp) (by omega) (by omega)
    rw [hl.2.1, ← hbx.out] at this
    exact this
  have HRG : Hid (∀ W, Chg (fun b => b = m2) w8 W → W.rangeAt gs 0 (ptsL gp)) := fun W k => (BS8.out.chg k HNM.out.1).range 0 _ [] (by simp)
  have hmt : ∀ w, (method 278 72 (.pointer (some ⟨gb, 0, none⟩)) "Seal").run Tryd.prog w = .ok (136, .pointer (some ⟨gb, 0, none⟩)) w := fun w => meth_bseal w _
  have hna : ∀ w, (nilAhead 278 72 (.pointer (some ⟨gb, 0, none⟩)) "Seal").run Tryd.prog w = .ok (some false) w := fun w => nil_bseal w _
  go_upto_region 14 with fail
  refine wp_region_any (by kernel_rfl) ?_
  change wpAny _ _ _ _ _ _ _ (World.drew _)
  refine wpAny_of_held (S := fun W => Chg (fun b => b = m2) w8 W) _ _ _ _ ?_
  have D0 : Below w8.heap.size w8 w8.drew := (Below.refl _ _).drew
  have S0 : Chg (fun b => b = m2) w8 w8.drew := Chg.of_below D0
  refine wpAnyH_take_at (i := 0) (v := .iface 72 (.pointer (some ⟨gb, 0, none⟩))) rfl rfl (by kernel_rfl) (by kernel_rfl) (by kernel_rfl) (fun _ _ _ h => h) (Or.inl ⟨by rfl, fun w hS => by go_simp⟩) S0 ?_
  try simp only [List.setIfInBounds_toArray, List.set_cons_zero, List.set_cons_succ]
  refine wpAnyH_take_at (i := 1) (v := .agg (ptsL gp).toArray) rfl rfl (by kernel_rfl) (by kernel_rfl) (by kernel_rfl) (fun _ _ _ h => h) (yieldsIf_load_mid (by rfl) 78 (.tmp 16) rfl gs 0 rfl (ptsL gp) _ (fun w h => HRG.out w h) Tryd.underlying78 rfl (by kernel_rfl)) S0 ?_
  try simp only [List.setIfInBounds_toArray, List.set_cons_zero, List.set_cons_succ]
  refine wpAnyH_take_at (i := 2) (v := sv) rfl rfl (by kernel_rfl) (by kernel_rfl) (by kernel_rfl) (fun _ _ _ h => h) (Or.inl ⟨by rfl, fun w hS => by go_simp⟩) S0 ?_
  try simp only [List.setIfInBounds_toArray, List.set_cons_zero, List.set_cons_succ]
  refine wpAnyH_take_at (i := 5) (v := .slice xa xn xc) rfl rfl (by kernel_rfl) (by kernel_rfl) (by kernel_rfl) (fun _ _ _ h => h) (Or.inl ⟨by rfl, fun w hS => by go_simp⟩) S0 ?_
  try simp only [List.setIfInBounds_toArray, List.set_cons_zero, List.set_cons_succ]
  refine wpAnyH_take_at (i := 6) (v := .slice ka 32 kc) rfl rfl (by kernel_rfl) (by kernel_rfl) (by kernel_rfl) (fun _ _ _ h => h) (Or.inl ⟨by rfl, fun w hS => by go_simp⟩) S0 ?_
  try simp only [List.setIfInBounds_toArray, List.set_cons_zero, List.set_cons_succ]
  refine wpAnyH_take_at (i := 7) (v := .func (.method "Seal") #[.iface 72 (.pointer (some ⟨gb, 0, none⟩))] #[]) rfl rfl (by kernel_rfl) (by kernel_rfl) (by kernel_rfl) (fun _ _ _ h => h) (Or.inl ⟨by rfl, fun w hS => by go_simp⟩) S0 ?_
  try simp only [List.setIfInBounds_toArray, List.set_cons_zero, List.set_cons_succ]
  refine wpAnyH_take_at (i := 8) (v := .func (.method "Seal") #[.iface 72 (.pointer (some ⟨gb, 0, none⟩))] #[]) rfl rfl (by kernel_rfl) (by kernel_rfl) (by kernel_rfl) (fun _ _ _ h => h) (Or.inl ⟨by rfl, fun w hS => by go_simp⟩) S0 ?_
  try simp only [List.setIfInBounds_toArray, List.set_cons_zero, List.set_cons_succ]
  refine wpAnyH_take_at (i := 9) (v := .iface 72 (.pointer (some ⟨gb, 0, none⟩))) rfl rfl (by kernel_rfl) (by kernel_rfl) (by kernel_rfl) (fun _ _ _ h => h) (Or.inl ⟨by rfl, fun w hS => by go_simp⟩) S0 ?_
  try simp only [List.setIfInBounds_toArray, List.set_cons_zero, List.set_cons_succ]
  refine wpAnyH_ready (rs := [3]) (by kernel_rfl) (by simp) ?_
  refine AllReadyH.cons rfl (fun K hK => ?_) AllReadyH.nil
  go_simp
  refine (CKEY.out _ D0).mono ?_
  rintro e w9 ⟨rk, rfl, o9, k9⟩
  have D1 : Below w8.heap.size w8 w9 := D0.trans (k9.mono D0.size)
  refine hK.out _ _ (Chg.of_below D1) (fun _ => ?_)
  clear hK K
  refine wpAnyH_ready (rs := [4]) (by kernel_rfl) (by simp) ?_
  refine AllReadyH.cons rfl (fun K hK => ?_) AllReadyH.nil
  go_simp
  refine (wnonce_any _).mono ?_
  rintro e w10 ⟨rn, rfl, o10, k10⟩
  have D2 : Below w8.heap.size w8 w10 := D1.trans (k10.mono D1.size)
  refine hK.out _ _ (Chg.of_below D2) (fun _ => ?_)
  clear hK K
  refine wpAnyH_ready (rs := [10]) (by kernel_rfl) (by simp) ?_
  refine AllReadyH.cons rfl (fun K hK => ?_) AllReadyH.nil
  go_simp
  refine (CSL.out _ _ _ D2 (o9.isB.below k10) o10.isB).mono ?_
  rintro e w11 ⟨rb, rfl, o11, b11, c11⟩
  have S3 : Chg (fun b => b = m2) w8 w11 := (Chg.of_below D2).trans c11 (fun _ _ h => h)
  refine hK.out _ _ S3 (fun _ => ?_)
  clear hK K
  refine wpAnyH_take_at (i := 11) (v := .tuple #[rb, .int .i64 0]) rfl rfl (by kernel_rfl) (by kernel_rfl) (by kernel_rfl) (fun _ _ _ h => h) (Or.inl ⟨by rfl, fun w hS => by go_simp⟩) S3 ?_
  try simp only [List.setIfInBounds_toArray, List.set_cons_zero, List.set_cons_succ]
  refine wpAnyH_take_at (i := 12) (v := rb) rfl rfl (by kernel_rfl) (by kernel_rfl) (by kernel_rfl) (fun _ _ _ h => h) (Or.inl ⟨by rfl, fun w hS => by go_simp⟩) S3 ?_
  try simp only [List.setIfInBounds_toArray, List.set_cons_zero, List.set_cons_succ]
  refine wpAnyH_take_at (i := 13) (v := .int .i64 0) rfl rfl (by kernel_rfl) (by kernel_rfl) (by kernel_rfl) (fun _ _ _ h => h) (Or.inl ⟨by rfl, fun w hS => by go_simp⟩) S3 ?_
  try simp only [List.setIfInBounds_toArray, List.set_cons_zero, List.set_cons_succ]
  refine wpAnyH_take_at (i := 14) (v := rb) rfl rfl (by kernel_rfl) (by kernel_rfl) (by kernel_rfl) (fun _ _ _ h => h) (Or.inl ⟨by rfl, fun w hS => by go_simp⟩) S3 ?_
  try simp only [List.setIfInBounds_toArray, List.set_cons_zero, List.set_cons_succ]
  refine wpAnyH_take_at (i := 15) (v := .int .i64 0) rfl rfl (by kernel_rfl) (by kernel_rfl) (by kernel_rfl) (fun _ _ _ h => h) (Or.inl ⟨by rfl, fun w hS => by go_simp⟩) S3 ?_
  try simp only [List.setIfInBounds_toArray, List.set_cons_zero, List.set_cons_succ]
  refine wpAnyH_done (by kernel_rfl) ?_ _
  have BP11 : Hid (Blk w11 gp 5 (Lib.byteCells ([1] ++ (point ++ (pub ++ List.replicate 48 0))))) := BP8.out.chg S3 HNM.out.2
  have BS11 : Hid (Blk w11 gs 78 (ptsL gp)) := BS8.out.chg S3 HNM.out.1
  have C11 : Hid (Chg (fun b => b = m2) w w11) := (Chg.of_below K08.out).trans S3 (fun _ _ h => h)
  obtain ⟨rba, rbc, rfl⟩ := o11.shape'
  rw [HBX.out] at o11 ⊢
  have O11 := Lib.hid o11
  have B11 := Lib.hid b11
  have HZ10 : Hid (gp < w10.heap.size) := Nat.lt_of_lt_of_le BP8.out.lt D2.size
  have c3 : w11.cell? ⟨gs, 3, none⟩ = some (.slice (some ⟨gp, 65, none⟩) 48 48) := BS11.out.cell 3
  clear S0 S3 D0 D1 D2 k9 k10 c11 b11 o9 o10 o11 BP8 BS8 CSL CKEY hmt hna hmf HRG
  go_upto_region 18 with (refine wpList_copy_blk rfl (.tmp 80) (.tmp 81) 24 24 rfl 5 Tryd.underlying24 (by kernel_rfl) (some ⟨gp, 65, none⟩) rba 48 48 48 rbc rfl rfl gp 65 _ 5 BP11.out (Lib.byteCells bx) (by rw [byteCells_length, HBX.out]; rfl) (fun _ => ⟨rfl, isB_there O11.out.isB (by rw [HBX.out]; decide)⟩) (by rw [byteCells_length, HBX.out, byteCells_length]; simp [HPL.out, HPB.out]) (byteCells_oneCell _) ?_; intro w12 hb12 ho12)
  clear c3
  rw [show [1] ++ (point ++ (pub ++ List.replicate 48 0)) = ([1] ++ (point ++ pub)) ++ List.replicate 48 (0 : UInt8) by simp, splice_bytes _ bx _ 65 (by simp [HPL.out, HPB.out]), HBX.out, List.drop_replicate] at hb12
  have OE : Hid (Own w12 w.heap.size (.slice (some ⟨gp, 0, none⟩) 113 113) (M.pkt point pub bx)) := own_blk (hb12.eq_ (by simp [M.pkt])) HGP.out.1 (M.pkt_len HPL.out HPB.out HBX.out) (by decide)
  have hc12 : Chg (fun b => b = gp) w11 w12 := Chg.of_grown ho12 fun k hk => by injection hk with hk; exact hk.symm
  have KE : Hid (Chg (fun b => b = m2) w w12) := C11.out.trans hc12 (fun k hk e => by have := HGP.out; omega)
  have BE : Hid (∃ T', BkIs T' w12 gb m1 m2 (((K, List.replicate 12 0, ctx, bx), key) :: L) ∧ ∀ k, T' k → T k ∨ w.heap.size ≤ k) := by
    refine ⟨_, B11.out.chg hc12 (fun k hk e => ?_), fun k hk => ?_⟩
    · rcases hk with h | h
      · have := HBB.out.up k h; have := HGP.out; omega
      · have := HZ10.out; omega
    · rcases hk with h | h
      · exact .inl h
      · have := HZ10.out; have := HGP.out; exact .inr (by omega)
  clear hb12 ho12 hc12
  go_wp2
  go_ret2
  exact ⟨gp, rfl, OE.out, BE.out, KE.out⟩

end Go.Proofs.YtdojalhaklkegaaDoor

namespace Go.Proofs.YtdojalhaklkegaaDoor
open Go.RowKit
set_option linter.unusedVariables false
set_option maxRecDepth 100000






/-- How Unwrap of a right packet ends. -/
def UnwrapEnds (w : World) (mine : Prop) (o : Option (List UInt8)) (e : Ending) (w' : World) : Prop :=
  (mine → OpensTo w o e w') ∧ (¬ mine → e = .returned (.tuple #[.slice none 0 0, .int .i64 9]) ∧ Below w.heap.size w w')

set_option maxHeartbeats 16000000 in
theorem unwrapReal_any (g : Nat) (sv xv : Value) (scalar point pub bx ctx : List UInt8) (w : World) (hS : Laid w) (hP : LaidP w) (hs : IsB w sv scalar) (hx : IsB w xv ctx) (hp : IsB w (.slice (some ⟨g, 0, none⟩) 113 113) (M.pkt point pub bx))
    (hsl : scalar.length = 32) (hpl : point.length = 32) (hul : pub.length = 32) (hbl : bx.length = 48) (zx : ∀ n c, xv = .slice none n c → c = 0) (hxl : ctx.length ≤ 1000) (hsec : ¬ M.secret scalar pub = 0) :
    Calls Tryd.prog 18 #[.iface 71 (.agg #[]), sv, .slice (some ⟨g, 0, none⟩) 113 113, xv] w
      (UnwrapEnds w (point = M.le (M.point scalar) 32) (M.ropn (M.wkey (M.le (M.secret scalar pub) 32) pub point) (List.replicate 12 0) ctx bx)) := by
  obtain ⟨sa, scp, rfl⟩ := hs.shape
  obtain ⟨xa, xc, rfl⟩ := hx.shape
  obtain ⟨xn, hxn⟩ : ∃ n, n = ctx.length := ⟨_, rfl⟩
  rw [hsl] at hs ⊢
  rw [← hxn] at hx zx ⊢
  have hpkl : (M.pkt point pub bx).length = 113 := M.pkt_len hpl hul hbl
  obtain ⟨sec, hsc⟩ : ∃ s, Hid (s = M.le (M.secret scalar pub) 32) := ⟨_, rfl⟩
  obtain ⟨own, how⟩ : ∃ s, Hid (s = M.le (M.point scalar) 32) := ⟨_, rfl⟩
  have CPU : Hid (Calls Tryd.prog 13 #[.slice sa 32 scp] w (MakesOk w own)) := by
    rw [Hid, how.out]
    exact publicOk_any field_ok _ scalar w hs hsl
  have CSH : Hid (∀ W v, Below w.heap.size w W → IsB W v pub → Calls Tryd.prog 14 #[.slice sa 32 scp, v] W (MakesOk W sec)) := by
    intro W v k hv
    rw [hsc.out]
    exact (shared_any field_ok _ _ scalar pub W (hs.below k) hv hsl hul).mono fun e w' h => h.2 hsec
  rw [← hsc.out, ← how.out]
  have HOW : Hid (own.length = 32) := by rw [Hid, how.out, M.le_length]
  have HSC : Hid (sec.length = 32) := by rw [Hid, hsc.out, M.le_length]
  obtain ⟨K, hK⟩ : ∃ K, Hid (K = M.wkey sec pub point) := ⟨_, rfl⟩
  rw [← hK.out]
  have HKL : Hid (K.length = 32) := by rw [Hid, hK.out]; exact M.wkey_len _ _ _
  have hcells : ∀ i, i < (M.pkt point pub bx).length → w.cell? ⟨g, 0 + i, none⟩ = some (.int .u8 (((M.pkt point pub bx).getD i 0).toNat : Int)) := by
    intro i hi
    obtain ⟨_, _, hc⟩ := hp.cells
    have := hc _ rfl i _ (byteCells_getElem? _ _ hi)
    rwa [Addr.add_lit] at this
  have hpt := isB_part hcells 1 32 32 (by omega) (Nat.le_refl _) (by unfold maxLen; omega)
  have hpu := isB_part hcells 33 32 32 (by omega) (Nat.le_refl _) (by unfold maxLen; omega)
  have hpb := isB_part hcells 65 48 48 (by omega) (Nat.le_refl _) (by unfold maxLen; omega)
  rw [show ((M.pkt point pub bx).drop 1).take 32 = point by unfold M.pkt; simp [hpl]] at hpt
  rw [show ((M.pkt point pub bx).drop 33).take 32 = pub by unfold M.pkt; rw [← List.append_assoc, List.drop_append_of_le_length (by simp [hpl]), List.drop_of_length_le (by simp [hpl]), List.nil_append, List.take_append_of_le_length (by omega), List.take_of_length_le (by omega)]] at hpu
  rw [show ((M.pkt point pub bx).drop 65).take 48 = bx by unfold M.pkt; rw [show [1] ++ (point ++ (pub ++ bx)) = ([1] ++ point ++ pub) ++ bx by simp, List.drop_append_of_le_length (by simp [hpl, hul]), List.drop_of_length_le (by simp [hpl, hul]), List.nil_append, List.take_of_length_le (by omega)]] at hpb
  have h0 : w.cell? ⟨g, 0, none⟩ = some (.int .u8 1) := (hcells 0 (by omega)).trans rfl
  have HPT : Hid (IsB w (.slice (some ⟨g, 1, none⟩) 32 32) point) := by rw [Hid]; simpa using hpt
  have HPU : Hid (IsB w (.slice (some ⟨g, 33, none⟩) 32 32) pub) := by rw [Hid]; simpa using hpu
  have HPX : Hid (IsB w (.slice (some ⟨g, 65, none⟩) 48 48) bx) := by rw [Hid]; simpa using hpb
  have CRD : Hid (∀ W, Below w.heap.size w W → Calls Tryd.prog 37 #[.slice (some ⟨g, 0, none⟩) 113 113] W fun e w' => e = .returned (.tuple #[.agg (ptsL g).toArray, .bool true]) ∧ Below W.heap.size W w') := fun W k => read18_any g 113 (Nat.le_refl _) W (by rw [k.cell (World.block_lt_of_cell? w _ h0)]; exact h0)
  have HX := Lib.hid hx
  have ZX := Lib.hid zx
  have HS := Lib.hid hS
  have HBL := Lib.hid hbl
  have HPT0 := Lib.hid hP
  have HXL : Hid (ctx.length ≤ 1000) := hxl
  obtain ⟨OP, hop⟩ : ∃ o, Hid (o = M.ropn K (List.replicate 12 0) ctx bx) := ⟨_, rfl⟩
  rw [← hop.out]
  clear hS hP hs hx hp hsl hpl hul hbl zx hxl hsec hxn hpkl hcells hpt hpu hpb h0
  go_enter Tryd.func18, Tryd.ntmps18
  go_wp2_with fail
  refine CPU.out.mono ?_
  rintro e w1 ⟨ov, rfl, o1, k1⟩
  have O1 := Lib.hid o1
  have K1 := Lib.hid k1
  clear o1 k1 CPU
  go_wp2_with fail
  refine (CRD.out w1 K1.out).mono ?_
  rintro e w2 ⟨rfl, k2⟩
  have O2 := Lib.hid (O1.out.below k2)
  have K2 : Hid (Below w.heap.size w w2) := K1.out.trans (k2.mono K1.out.size)
  clear k2 O1 K1 CRD
  obtain ⟨gs, hgs⟩ : ∃ g, g = w2.heap.size := ⟨_, rfl⟩
  go_upto_region 5 with (refine wpList_store_blk rfl 78 (.tmp 12) (.tmp 27) rfl w2.heap.size (ptsL g).toArray rfl rfl 78 (List.replicate 4 (.slice none 0 0)) (Blk.newAt _ _ _ _ _ rfl rfl) (by kernel_rfl) rfl (by intro v hv; simp [ptsL] at hv; rcases hv with rfl | rfl | rfl | rfl <;> rfl) ?_; intro w3 hb3 ho3)
  have k23 : Below w2.heap.size w2 w3 := ((Below.refl _ _).alloc (Nat.le_refl _) _).trans (ho3.below (by simp) (Nat.le_refl _))
  rw [← hgs] at hb3 ⊢
  have BS3 : Hid (Blk w3 gs 78 (ptsL g)) := hb3.eq_ (by simp)
  have K3 : Hid (Below w.heap.size w w3) := K2.out.trans (k23.mono K2.out.size)
  have O3 := Lib.hid (O2.out.below k23)
  clear hb3 ho3 k23 O2 hgs
  have c1 : w3.cell? ⟨gs, 1, none⟩ = some (.slice (some ⟨g, 1, none⟩) 32 32) := BS3.out.cell 1
  have c2 : w3.cell? ⟨gs, 2, none⟩ = some (.slice (some ⟨g, 33, none⟩) 32 32) := BS3.out.cell 2
  have HPT3 := Lib.hid (HPT.out.below K3.out)
  by_cases hown : point = own
  · have HYE : Hid (point = own) := hown
    have CE := Lib.hid (wequal_yes (.slice (some ⟨g, 1, none⟩) 32 32) ov own w3 (hown ▸ HPT3.out) O3.out.isB)
    clear hown
    go_wp2_with fail
    refine CE.out.mono ?_
    rintro e w4 ⟨rfl, k4⟩
    have K4 : Hid (Below w.heap.size w w4) := K3.out.trans (k4.mono K3.out.size)
    have BS4 : Hid (Blk w4 gs 78 (ptsL g)) := BS3.out.below k4 BS3.out.lt
    clear k4 CE c1 c2 BS3 O3 HPT3
    have c2 : w4.cell? ⟨gs, 2, none⟩ = some (.slice (some ⟨g, 33, none⟩) 32 32) := BS4.out.cell 2
    have CS := Lib.hid (CSH.out w4 (.slice (some ⟨g, 33, none⟩) 32 32) K4.out (HPU.out.below K4.out))
    go_wp2_with fail
    refine CS.out.mono ?_
    rintro e w8 ⟨sv, rfl, o8, k8⟩
    have K08 : Hid (Below w.heap.size w w8) := K4.out.trans (k8.mono K4.out.size)
    have BS8 : Hid (Blk w8 gs 78 (ptsL g)) := BS4.out.below k8 BS4.out.lt
    have HSV := Lib.hid o8.isB
    clear c2 k8 o8 CS CSH BS4 K4
    have HPT8 := Lib.hid (HPT.out.below K08.out)
    have HPU8 := Lib.hid (HPU.out.below K08.out)
    have HPX8 := Lib.hid (HPX.out.below K08.out)
    have HX8 := Lib.hid (HX.out.below K08.out)
    have CKEY : Hid (∀ W, Below w8.heap.size w8 W → Calls Tryd.prog 35 #[.agg (ptsL g).toArray, sv] W (Makes W K)) := by
      intro W k
      rw [hK.out]
      exact wkey_any g sv sec pub point W ((HS.out.below K08.out HS.out.size).below k (Nat.le_trans HS.out.size K08.out.size)) (HPT8.out.below k) (HPU8.out.below k) (HSV.out.below k) HSC.out
    have hmf : ∀ (fn : Fn) (first cap : Array Value) (w : World), (Instr.makeFunc fn first cap).run Tryd.prog w = .ok (.func fn first cap) w := fun _ _ _ _ => rfl
    have HRG : Hid (∀ W, Below w8.heap.size w8 W → W.rangeAt gs 0 (ptsL g)) := fun W k => (BS8.out.below k BS8.out.lt).range 0 _ [] (by simp)
    have HC3 : Hid (∀ W, Below w8.heap.size w8 W → W.cell? ⟨gs, 3, none⟩ = some (.slice (some ⟨g, 65, none⟩) 48 48)) := fun W k => (BS8.out.below k BS8.out.lt).cell 3
    have COP : Hid (∀ W kv nv, Below w8.heap.size w8 W → IsB W kv K → IsB W nv (List.replicate 12 0) → Calls Tryd.prog 132 #[.agg #[], kv, nv, .slice xa xn xc, .slice (some ⟨g, 65, none⟩) 48 48] W (OpensTo W OP)) := by
      intro W kv nv k h1 h2
      rw [hop.out]
      have hl := HXL.out
      have hb := HBL.out
      exact realOpen_any kv nv _ _ K (List.replicate 12 0) ctx bx W ((HPT0.out.below K08.out HPT0.out.size).below k (Nat.le_trans HPT0.out.size K08.out.size)) h1 h2 (HX8.out.below k) (HPX8.out.below k) HKL.out (by simp) ZX.out (fun n c e => by cases e) (by omega) (by omega)
    have hmt := meth_ropen
    have hna := nil_ropen
    clear hop
    go_upto_region 12 with fail
    refine wp_region_any (by kernel_rfl) ?_
    change wpAny _ _ _ _ _ _ _ (World.drew _)
    refine wpAny_of_held (S := fun W => Below w8.heap.size w8 W) _ _ _ _ ?_
    have S0 : Below w8.heap.size w8 w8.drew := (Below.refl _ _).drew
    refine wpAnyH_take_at (i := 0) (v := .iface 71 (.agg #[])) rfl rfl (by kernel_rfl) (by kernel_rfl) (by kernel_rfl) (fun _ _ _ h => h) (Or.inl ⟨by rfl, fun w hS => by go_simp⟩) S0 ?_
    try simp only [List.setIfInBounds_toArray, List.set_cons_zero, List.set_cons_succ]
    refine wpAnyH_take_at (i := 1) (v := .agg (ptsL g).toArray) rfl rfl (by kernel_rfl) (by kernel_rfl) (by kernel_rfl) (fun _ _ _ h => h) (yieldsIf_load_mid (by rfl) 78 (.tmp 12) rfl gs 0 rfl (ptsL g) _ (fun w h => HRG.out w h) Tryd.underlying78 rfl (by kernel_rfl)) S0 ?_
    try simp only [List.setIfInBounds_toArray, List.set_cons_zero, List.set_cons_succ]
    refine wpAnyH_take_at (i := 2) (v := sv) rfl rfl (by kernel_rfl) (by kernel_rfl) (by kernel_rfl) (fun _ _ _ h => h) (Or.inl ⟨by rfl, fun w hS => by go_simp⟩) S0 ?_
    try simp only [List.setIfInBounds_toArray, List.set_cons_zero, List.set_cons_succ]
    refine wpAnyH_take_at (i := 5) (v := .slice xa xn xc) rfl rfl (by kernel_rfl) (by kernel_rfl) (by kernel_rfl) (fun _ _ _ h => h) (Or.inl ⟨by rfl, fun w hS => by go_simp⟩) S0 ?_
    try simp only [List.setIfInBounds_toArray, List.set_cons_zero, List.set_cons_succ]
    refine wpAnyH_take_at (i := 6) (v := .pointer (some ⟨gs, 3, none⟩)) rfl rfl (by kernel_rfl) (by kernel_rfl) (by kernel_rfl) (fun _ _ _ h => h) (Or.inl ⟨by rfl, fun w hS => by go_simp⟩) S0 ?_
    try simp only [List.setIfInBounds_toArray, List.set_cons_zero, List.set_cons_succ]
    refine wpAnyH_take_at (i := 7) (v := .slice (some ⟨g, 65, none⟩) 48 48) rfl rfl (by kernel_rfl) (by kernel_rfl) (by kernel_rfl) (fun _ _ _ h => h) (Or.inl ⟨by rfl, fun w hS => by have c := HC3.out w hS; go_simp⟩) S0 ?_
    try simp only [List.setIfInBounds_toArray, List.set_cons_zero, List.set_cons_succ]
    refine wpAnyH_take_at (i := 8) (v := .func (.method "Open") #[.iface 71 (.agg #[])] #[]) rfl rfl (by kernel_rfl) (by kernel_rfl) (by kernel_rfl) (fun _ _ _ h => h) (Or.inl ⟨by rfl, fun w hS => by go_simp⟩) S0 ?_
    try simp only [List.setIfInBounds_toArray, List.set_cons_zero, List.set_cons_succ]
    refine wpAnyH_take_at (i := 9) (v := .func (.method "Open") #[.iface 71 (.agg #[])] #[]) rfl rfl (by kernel_rfl) (by kernel_rfl) (by kernel_rfl) (fun _ _ _ h => h) (Or.inl ⟨by rfl, fun w hS => by go_simp⟩) S0 ?_
    try simp only [List.setIfInBounds_toArray, List.set_cons_zero, List.set_cons_succ]
    refine wpAnyH_take_at (i := 10) (v := .iface 71 (.agg #[])) rfl rfl (by kernel_rfl) (by kernel_rfl) (by kernel_rfl) (fun _ _ _ h => h) (Or.inl ⟨by rfl, fun w hS => by go_simp⟩) S0 ?_
    try simp only [List.setIfInBounds_toArray, List.set_cons_zero, List.set_cons_succ]
    refine wpAnyH_ready (rs := [3]) (by kernel_rfl) (by simp) ?_
    refine AllReadyH.cons rfl (fun K hK => ?_) AllReadyH.nil
    go_simp
    refine (CKEY.out _ S0).mono ?_
    rintro e w9 ⟨rk, rfl, o9, k9⟩
    have S1 : Below w8.heap.size w8 w9 := S0.trans (k9.mono S0.size)
    refine hK.out _ _ S1 (fun _ => ?_)
    clear hK K
    refine wpAnyH_ready (rs := [4]) (by kernel_rfl) (by simp) ?_
    refine AllReadyH.cons rfl (fun K hK => ?_) AllReadyH.nil
    go_simp
    refine (wnonce_any _).mono ?_
    rintro e w10 ⟨rn, rfl, o10, k10⟩
    have S2 : Below w8.heap.size w8 w10 := S1.trans (k10.mono S1.size)
    refine hK.out _ _ S2 (fun _ => ?_)
    clear hK K
    refine wpAnyH_ready (rs := [11]) (by kernel_rfl) (by simp) ?_
    refine AllReadyH.cons rfl (fun K hK => ?_) AllReadyH.nil
    go_simp
    refine (COP.out _ _ _ S2 (o9.isB.below k10) o10.isB).mono ?_
    intro e w11 h11
    obtain ⟨k11, hm11⟩ := h11
    have S3 : Below w8.heap.size w8 w11 := S2.trans (k11.mono S2.size)
    cases OP with
    | none =>
      obtain rfl := hm11
      refine hK.out _ _ S3 (fun _ => ?_)
      clear hK K
      refine wpAnyH_take_at (i := 12) (v := .tuple #[.slice none 0 0, .int .i64 7]) rfl rfl (by kernel_rfl) (by kernel_rfl) (by kernel_rfl) (fun _ _ _ h => h) (Or.inl ⟨by rfl, fun w hS => by go_simp⟩) S3 ?_
      try simp only [List.setIfInBounds_toArray, List.set_cons_zero, List.set_cons_succ]
      refine wpAnyH_take_at (i := 13) (v := .slice none 0 0) rfl rfl (by kernel_rfl) (by kernel_rfl) (by kernel_rfl) (fun _ _ _ h => h) (Or.inl ⟨by rfl, fun w hS => by go_simp⟩) S3 ?_
      try simp only [List.setIfInBounds_toArray, List.set_cons_zero, List.set_cons_succ]
      refine wpAnyH_take_at (i := 14) (v := .int .i64 7) rfl rfl (by kernel_rfl) (by kernel_rfl) (by kernel_rfl) (fun _ _ _ h => h) (Or.inl ⟨by rfl, fun w hS => by go_simp⟩) S3 ?_
      try simp only [List.setIfInBounds_toArray, List.set_cons_zero, List.set_cons_succ]
      refine wpAnyH_take_at (i := 15) (v := .slice none 0 0) rfl rfl (by kernel_rfl) (by kernel_rfl) (by kernel_rfl) (fun _ _ _ h => h) (Or.inl ⟨by rfl, fun w hS => by go_simp⟩) S3 ?_
      try simp only [List.setIfInBounds_toArray, List.set_cons_zero, List.set_cons_succ]
      refine wpAnyH_take_at (i := 16) (v := .int .i64 7) rfl rfl (by kernel_rfl) (by kernel_rfl) (by kernel_rfl) (fun _ _ _ h => h) (Or.inl ⟨by rfl, fun w hS => by go_simp⟩) S3 ?_
      try simp only [List.setIfInBounds_toArray, List.set_cons_zero, List.set_cons_succ]
      refine wpAnyH_done (by kernel_rfl) ?_ _
      have KE : Hid (Below w.heap.size w w11) := K08.out.trans (S3.mono K08.out.size)
      clear S0 S1 S2 S3 k9 k10 k11 o9 o10 COP CKEY hmt hna hmf HRG HC3
      go_wp2
      go_ret2
      exact ⟨fun _ => OpensTo.no rfl KE.out, fun h => absurd HYE.out h⟩
    | some t =>
      obtain ⟨rb, rfl, o11⟩ := hm11
      refine hK.out _ _ S3 (fun _ => ?_)
      clear hK K
      refine wpAnyH_take_at (i := 12) (v := .tuple #[rb, .int .i64 0]) rfl rfl (by kernel_rfl) (by kernel_rfl) (by kernel_rfl) (fun _ _ _ h => h) (Or.inl ⟨by rfl, fun w hS => by go_simp⟩) S3 ?_
      try simp only [List.setIfInBounds_toArray, List.set_cons_zero, List.set_cons_succ]
      refine wpAnyH_take_at (i := 13) (v := rb) rfl rfl (by kernel_rfl) (by kernel_rfl) (by kernel_rfl) (fun _ _ _ h => h) (Or.inl ⟨by rfl, fun w hS => by go_simp⟩) S3 ?_
      try simp only [List.setIfInBounds_toArray, List.set_cons_zero, List.set_cons_succ]
      refine wpAnyH_take_at (i := 14) (v := .int .i64 0) rfl rfl (by kernel_rfl) (by kernel_rfl) (by kernel_rfl) (fun _ _ _ h => h) (Or.inl ⟨by rfl, fun w hS => by go_simp⟩) S3 ?_
      try simp only [List.setIfInBounds_toArray, List.set_cons_zero, List.set_cons_succ]
      refine wpAnyH_take_at (i := 15) (v := rb) rfl rfl (by kernel_rfl) (by kernel_rfl) (by kernel_rfl) (fun _ _ _ h => h) (Or.inl ⟨by rfl, fun w hS => by go_simp⟩) S3 ?_
      try simp only [List.setIfInBounds_toArray, List.set_cons_zero, List.set_cons_succ]
      refine wpAnyH_take_at (i := 16) (v := .int .i64 0) rfl rfl (by kernel_rfl) (by kernel_rfl) (by kernel_rfl) (fun _ _ _ h => h) (Or.inl ⟨by rfl, fun w hS => by go_simp⟩) S3 ?_
      try simp only [List.setIfInBounds_toArray, List.set_cons_zero, List.set_cons_succ]
      refine wpAnyH_done (by kernel_rfl) ?_ _
      have KE : Hid (Below w.heap.size w w11) := K08.out.trans (S3.mono K08.out.size)
      have OE : Hid (Own w11 w.heap.size rb t) := o11.mono (Nat.le_trans K08.out.size S2.size)
      clear S0 S1 S2 S3 k9 k10 k11 o9 o10 o11 COP CKEY hmt hna hmf HRG HC3
      go_wp2
      go_ret2
      exact ⟨fun _ => OpensTo.yes rfl KE.out OE.out, fun h => absurd HYE.out h⟩
  · have HNO : Hid (¬ point = own) := hown
    have CE := Lib.hid (wequal_no (.slice (some ⟨g, 1, none⟩) 32 32) ov point own w3 HPT3.out O3.out.isB hown)
    clear hown
    go_wp2_with fail
    refine CE.out.mono ?_
    rintro e w4 ⟨rfl, k4⟩
    have KE : Hid (Below w.heap.size w w4) := K3.out.trans (k4.mono K3.out.size)
    clear k4 CE c1 c2
    go_wp2
    go_ret2
    exact ⟨fun h => absurd h HNO.out, fun _ => ⟨rfl, KE.out⟩⟩

end Go.Proofs.YtdojalhaklkegaaDoor

namespace Go.Proofs.YtdojalhaklkegaaDoor
open Go.RowKit Go.Maps
set_option linter.unusedVariables false
set_option maxRecDepth 100000






set_option maxHeartbeats 16000000 in
theorem unwrapBook_any {T : Nat → Prop} {w : World} {gb m1 m2 : Nat} {L : M.Bk} (hB : BkIs T w gb m1 m2 L) (g : Nat) (sv xv : Value) (scalar point pub bx ctx : List UInt8) (hS : Laid w) (hs : IsB w sv scalar) (hx : IsB w xv ctx) (hp : IsB w (.slice (some ⟨g, 0, none⟩) 113 113) (M.pkt point pub bx))
    (hsl : scalar.length = 32) (hpl : point.length = 32) (hul : pub.length = 32) (hbl : bx.length = 48) (zx : ∀ n c, xv = .slice none n c → c = 0) (hxl : ctx.length ≤ 1000) (hsec : ¬ M.secret scalar pub = 0) :
    Calls Tryd.prog 18 #[.iface 72 (.pointer (some ⟨gb, 0, none⟩)), sv, .slice (some ⟨g, 0, none⟩) 113 113, xv] w
      (UnwrapEnds w (point = M.le (M.point scalar) 32) (M.bget L (M.wkey (M.le (M.secret scalar pub) 32) pub point, List.replicate 12 0, ctx, bx))) := by
  obtain ⟨sa, scp, rfl⟩ := hs.shape
  obtain ⟨xa, xc, rfl⟩ := hx.shape
  obtain ⟨xn, hxn⟩ : ∃ n, n = ctx.length := ⟨_, rfl⟩
  rw [hsl] at hs ⊢
  rw [← hxn] at hx zx ⊢
  have hpkl : (M.pkt point pub bx).length = 113 := M.pkt_len hpl hul hbl
  obtain ⟨sec, hsc⟩ : ∃ s, Hid (s = M.le (M.secret scalar pub) 32) := ⟨_, rfl⟩
  obtain ⟨own, how⟩ : ∃ s, Hid (s = M.le (M.point scalar) 32) := ⟨_, rfl⟩
  have CPU : Hid (Calls Tryd.prog 13 #[.slice sa 32 scp] w (MakesOk w own)) := by
    rw [Hid, how.out]
    exact publicOk_any field_ok _ scalar w hs hsl
  have CSH : Hid (∀ W v, Below w.heap.size w W → IsB W v pub → Calls Tryd.prog 14 #[.slice sa 32 scp, v] W (MakesOk W sec)) := by
    intro W v k hv
    rw [hsc.out]
    exact (shared_any field_ok _ _ scalar pub W (hs.below k) hv hsl hul).mono fun e w' h => h.2 hsec
  rw [← hsc.out, ← how.out]
  have HOW : Hid (own.length = 32) := by rw [Hid, how.out, M.le_length]
  have HSC : Hid (sec.length = 32) := by rw [Hid, hsc.out, M.le_length]
  obtain ⟨K, hK⟩ : ∃ K, Hid (K = M.wkey sec pub point) := ⟨_, rfl⟩
  rw [← hK.out]
  have HKL : Hid (K.length = 32) := by rw [Hid, hK.out]; exact M.wkey_len _ _ _
  have hcells : ∀ i, i < (M.pkt point pub bx).length → w.cell? ⟨g, 0 + i, none⟩ = some (.int .u8 (((M.pkt point pub bx).getD i 0).toNat : Int)) := by
    intro i hi
    obtain ⟨_, _, hc⟩ := hp.cells
    have := hc _ rfl i _ (byteCells_getElem? _ _ hi)
    rwa [Addr.add_lit] at this
  have hpt := isB_part hcells 1 32 32 (by omega) (Nat.le_refl _) (by unfold maxLen; omega)
  have hpu := isB_part hcells 33 32 32 (by omega) (Nat.le_refl _) (by unfold maxLen; omega)
  have hpb := isB_part hcells 65 48 48 (by omega) (Nat.le_refl _) (by unfold maxLen; omega)
  rw [show ((M.pkt point pub bx).drop 1).take 32 = point by unfold M.pkt; simp [hpl]] at hpt
  rw [show ((M.pkt point pub bx).drop 33).take 32 = pub by unfold M.pkt; rw [← List.append_assoc, List.drop_append_of_le_length (by simp [hpl]), List.drop_of_length_le (by simp [hpl]), List.nil_append, List.take_append_of_le_length (by omega), List.take_of_length_le (by omega)]] at hpu
  rw [show ((M.pkt point pub bx).drop 65).take 48 = bx by unfold M.pkt; rw [show [1] ++ (point ++ (pub ++ bx)) = ([1] ++ point ++ pub) ++ bx by simp, List.drop_append_of_le_length (by simp [hpl, hul]), List.drop_of_length_le (by simp [hpl, hul]), List.nil_append, List.take_of_length_le (by omega)]] at hpb
  have h0 : w.cell? ⟨g, 0, none⟩ = some (.int .u8 1) := (hcells 0 (by omega)).trans rfl
  have HPT : Hid (IsB w (.slice (some ⟨g, 1, none⟩) 32 32) point) := by rw [Hid]; simpa using hpt
  have HPU : Hid (IsB w (.slice (some ⟨g, 33, none⟩) 32 32) pub) := by rw [Hid]; simpa using hpu
  have HPX : Hid (IsB w (.slice (some ⟨g, 65, none⟩) 48 48) bx) := by rw [Hid]; simpa using hpb
  have CRD : Hid (∀ W, Below w.heap.size w W → Calls Tryd.prog 37 #[.slice (some ⟨g, 0, none⟩) 113 113] W fun e w' => e = .returned (.tuple #[.agg (ptsL g).toArray, .bool true]) ∧ Below W.heap.size W w') := fun W k => read18_any g 113 (Nat.le_refl _) W (by rw [k.cell (World.block_lt_of_cell? w _ h0)]; exact h0)
  have HX := Lib.hid hx
  have ZX := Lib.hid zx
  have HS := Lib.hid hS
  have HBL := Lib.hid hbl
  have HBB := Lib.hid hB
  have HXL : Hid (ctx.length ≤ 1000) := hxl
  obtain ⟨OP, hop⟩ : ∃ o, Hid (o = M.bget L (K, List.replicate 12 0, ctx, bx)) := ⟨_, rfl⟩
  rw [← hop.out]
  clear hS hB hs hx hp hsl hpl hul hbl zx hxl hsec hxn hpkl hcells hpt hpu hpb h0
  go_enter Tryd.func18, Tryd.ntmps18
  go_wp2_with fail
  refine CPU.out.mono ?_
  rintro e w1 ⟨ov, rfl, o1, k1⟩
  have O1 := Lib.hid o1
  have K1 := Lib.hid k1
  clear o1 k1 CPU
  go_wp2_with fail
  refine (CRD.out w1 K1.out).mono ?_
  rintro e w2 ⟨rfl, k2⟩
  have O2 := Lib.hid (O1.out.below k2)
  have K2 : Hid (Below w.heap.size w w2) := K1.out.trans (k2.mono K1.out.size)
  clear k2 O1 K1 CRD
  obtain ⟨gs, hgs⟩ : ∃ g, g = w2.heap.size := ⟨_, rfl⟩
  go_upto_region 5 with (refine wpList_store_blk rfl 78 (.tmp 12) (.tmp 27) rfl w2.heap.size (ptsL g).toArray rfl rfl 78 (List.replicate 4 (.slice none 0 0)) (Blk.newAt _ _ _ _ _ rfl rfl) (by kernel_rfl) rfl (by intro v hv; simp [ptsL] at hv; rcases hv with rfl | rfl | rfl | rfl <;> rfl) ?_; intro w3 hb3 ho3)
  have k23 : Below w2.heap.size w2 w3 := ((Below.refl _ _).alloc (Nat.le_refl _) _).trans (ho3.below (by simp) (Nat.le_refl _))
  rw [← hgs] at hb3 ⊢
  have BS3 : Hid (Blk w3 gs 78 (ptsL g)) := hb3.eq_ (by simp)
  have K3 : Hid (Below w.heap.size w w3) := K2.out.trans (k23.mono K2.out.size)
  have O3 := Lib.hid (O2.out.below k23)
  clear hb3 ho3 k23 O2 hgs
  have c1 : w3.cell? ⟨gs, 1, none⟩ = some (.slice (some ⟨g, 1, none⟩) 32 32) := BS3.out.cell 1
  have c2 : w3.cell? ⟨gs, 2, none⟩ = some (.slice (some ⟨g, 33, none⟩) 32 32) := BS3.out.cell 2
  have HPT3 := Lib.hid (HPT.out.below K3.out)
  by_cases hown : point = own
  · have HYE : Hid (point = own) := hown
    have CE := Lib.hid (wequal_yes (.slice (some ⟨g, 1, none⟩) 32 32) ov own w3 (hown ▸ HPT3.out) O3.out.isB)
    clear hown
    go_wp2_with fail
    refine CE.out.mono ?_
    rintro e w4 ⟨rfl, k4⟩
    have K4 : Hid (Below w.heap.size w w4) := K3.out.trans (k4.mono K3.out.size)
    have BS4 : Hid (Blk w4 gs 78 (ptsL g)) := BS3.out.below k4 BS3.out.lt
    clear k4 CE c1 c2 BS3 O3 HPT3
    have c2 : w4.cell? ⟨gs, 2, none⟩ = some (.slice (some ⟨g, 33, none⟩) 32 32) := BS4.out.cell 2
    have CS := Lib.hid (CSH.out w4 (.slice (some ⟨g, 33, none⟩) 32 32) K4.out (HPU.out.below K4.out))
    go_wp2_with fail
    refine CS.out.mono ?_
    rintro e w8 ⟨sv, rfl, o8, k8⟩
    have K08 : Hid (Below w.heap.size w w8) := K4.out.trans (k8.mono K4.out.size)
    have BS8 : Hid (Blk w8 gs 78 (ptsL g)) := BS4.out.below k8 BS4.out.lt
    have HSV := Lib.hid o8.isB
    clear c2 k8 o8 CS CSH BS4 K4
    have HPT8 := Lib.hid (HPT.out.below K08.out)
    have HPU8 := Lib.hid (HPU.out.below K08.out)
    have HPX8 := Lib.hid (HPX.out.below K08.out)
    have HX8 := Lib.hid (HX.out.below K08.out)
    have CKEY : Hid (∀ W, Below w8.heap.size w8 W → Calls Tryd.prog 35 #[.agg (ptsL g).toArray, sv] W (Makes W K)) := by
      intro W k
      rw [hK.out]
      exact wkey_any g sv sec pub point W ((HS.out.below K08.out HS.out.size).below k (Nat.le_trans HS.out.size K08.out.size)) (HPT8.out.below k) (HPU8.out.below k) (HSV.out.below k) HSC.out
    have hmf : ∀ (fn : Fn) (first cap : Array Value) (w : World), (Instr.makeFunc fn first cap).run Tryd.prog w = .ok (.func fn first cap) w := fun _ _ _ _ => rfl
    have HRG : Hid (∀ W, Below w8.heap.size w8 W → W.rangeAt gs 0 (ptsL g)) := fun W k => (BS8.out.below k BS8.out.lt).range 0 _ [] (by simp)
    have HC3 : Hid (∀ W, Below w8.heap.size w8 W → W.cell? ⟨gs, 3, none⟩ = some (.slice (some ⟨g, 65, none⟩) 48 48)) := fun W k => (BS8.out.below k BS8.out.lt).cell 3
    have COP : Hid (∀ W kv nv, Below w8.heap.size w8 W → IsB W kv K → IsB W nv (List.replicate 12 0) → Calls Tryd.prog 135 #[.pointer (some ⟨gb, 0, none⟩), kv, nv, .slice xa xn xc, .slice (some ⟨g, 65, none⟩) 48 48] W (OpensTo W OP)) := by
      intro W kv nv k h1 h2
      rw [hop.out]
      have hl := HXL.out
      have hb := HBL.out
      exact bkOpen_any ((HBB.out.below K08.out).below k) kv nv _ _ K (List.replicate 12 0) ctx bx h1 h2 (HX8.out.below k) (HPX8.out.below k) HKL.out (by simp) (by omega) (by omega) (by omega)
    have hmt : ∀ w, (method 278 72 (.pointer (some ⟨gb, 0, none⟩)) "Open").run Tryd.prog w = .ok (135, .pointer (some ⟨gb, 0, none⟩)) w := fun w => meth_bopen w _
    have hna : ∀ w, (nilAhead 278 72 (.pointer (some ⟨gb, 0, none⟩)) "Open").run Tryd.prog w = .ok (some false) w := fun w => nil_bopen w _
    clear hop
    go_upto_region 12 with fail
    refine wp_region_any (by kernel_rfl) ?_
    change wpAny _ _ _ _ _ _ _ (World.drew _)
    refine wpAny_of_held (S := fun W => Below w8.heap.size w8 W) _ _ _ _ ?_
    have S0 : Below w8.heap.size w8 w8.drew := (Below.refl _ _).drew
    refine wpAnyH_take_at (i := 0) (v := .iface 72 (.pointer (some ⟨gb, 0, none⟩))) rfl rfl (by kernel_rfl) (by kernel_rfl) (by kernel_rfl) (fun _ _ _ h => h) (Or.inl ⟨by rfl, fun w hS => by go_simp⟩) S0 ?_
    try simp only [List.setIfInBounds_toArray, List.set_cons_zero, List.set_cons_succ]
    refine wpAnyH_take_at (i := 1) (v := .agg (ptsL g).toArray) rfl rfl (by kernel_rfl) (by kernel_rfl) (by kernel_rfl) (fun _ _ _ h => h) (yieldsIf_load_mid (by rfl) 78 (.tmp 12) rfl gs 0 rfl (ptsL g) _ (fun w h => HRG.out w h) Tryd.underlying78 rfl (by kernel_rfl)) S0 ?_
    try simp only [List.setIfInBounds_toArray, List.set_cons_zero, List.set_cons_succ]
    refine wpAnyH_take_at (i := 2) (v := sv) rfl rfl (by kernel_rfl) (by kernel_rfl) (by kernel_rfl) (fun _ _ _ h => h) (Or.inl ⟨by rfl, fun w hS => by go_simp⟩) S0 ?_
    try simp only [List.setIfInBounds_toArray, List.set_cons_zero, List.set_cons_succ]
    refine wpAnyH_take_at (i := 5) (v := .slice xa xn xc) rfl rfl (by kernel_rfl) (by kernel_rfl) (by kernel_rfl) (fun _ _ _ h => h) (Or.inl ⟨by rfl, fun w hS => by go_simp⟩) S0 ?_
    try simp only [List.setIfInBounds_toArray, List.set_cons_zero, List.set_cons_succ]
    refine wpAnyH_take_at (i := 6) (v := .pointer (some ⟨gs, 3, none⟩)) rfl rfl (by kernel_rfl) (by kernel_rfl) (by kernel_rfl) (fun _ _ _ h => h) (Or.inl ⟨by rfl, fun w hS => by go_simp⟩) S0 ?_
    try simp only [List.setIfInBounds_toArray, List.set_cons_zero, List.set_cons_succ]
    refine wpAnyH_take_at (i := 7) (v := .slice (some ⟨g, 65, none⟩) 48 48) rfl rfl (by kernel_rfl) (by kernel_rfl) (by kernel_rfl) (fun _ _ _ h => h) (Or.inl ⟨by rfl, fun w hS => by have c := HC3.out w hS; go_simp⟩) S0 ?_
    try simp only [List.setIfInBounds_toArray, List.set_cons_zero, List.set_cons_succ]
    refine wpAnyH_take_at (i := 8) (v := .func (.method "Open") #[.iface 72 (.pointer (some ⟨gb, 0, none⟩))] #[]) rfl rfl (by kernel_rfl) (by kernel_rfl) (by kernel_rfl) (fun _ _ _ h => h) (Or.inl ⟨by rfl, fun w hS => by go_simp⟩) S0 ?_
    try simp only [List.setIfInBounds_toArray, List.set_cons_zero, List.set_cons_succ]
    refine wpAnyH_take_at (i := 9) (v := .func (.method "Open") #[.iface 72 (.pointer (some ⟨gb, 0, none⟩))] #[]) rfl rfl (by kernel_rfl) (by kernel_rfl) (by kernel_rfl) (fun _ _ _ h => h) (Or.inl ⟨by rfl, fun w hS => by go_simp⟩) S0 ?_
    try simp only [List.setIfInBounds_toArray, List.set_cons_zero, List.set_cons_succ]
    refine wpAnyH_take_at (i := 10) (v := .iface 72 (.pointer (some ⟨gb, 0, none⟩))) rfl rfl (by kernel_rfl) (by kernel_rfl) (by kernel_rfl) (fun _ _ _ h => h) (Or.inl ⟨by rfl, fun w hS => by go_simp⟩) S0 ?_
    try simp only [List.setIfInBounds_toArray, List.set_cons_zero, List.set_cons_succ]
    refine wpAnyH_ready (rs := [3]) (by kernel_rfl) (by simp) ?_
    refine AllReadyH.cons rfl (fun K hK => ?_) AllReadyH.nil
    go_simp
    refine (CKEY.out _ S0).mono ?_
    rintro e w9 ⟨rk, rfl, o9, k9⟩
    have S1 : Below w8.heap.size w8 w9 := S0.trans (k9.mono S0.size)
    refine hK.out _ _ S1 (fun _ => ?_)
    clear hK K
    refine wpAnyH_ready (rs := [4]) (by kernel_rfl) (by simp) ?_
    refine AllReadyH.cons rfl (fun K hK => ?_) AllReadyH.nil
    go_simp
    refine (wnonce_any _).mono ?_
    rintro e w10 ⟨rn, rfl, o10, k10⟩
    have S2 : Below w8.heap.size w8 w10 := S1.trans (k10.mono S1.size)
    refine hK.out _ _ S2 (fun _ => ?_)
    clear hK K
    refine wpAnyH_ready (rs := [11]) (by kernel_rfl) (by simp) ?_
    refine AllReadyH.cons rfl (fun K hK => ?_) AllReadyH.nil
    go_simp
    refine (COP.out _ _ _ S2 (o9.isB.below k10) o10.isB).mono ?_
    intro e w11 h11
    obtain ⟨k11, hm11⟩ := h11
    have S3 : Below w8.heap.size w8 w11 := S2.trans (k11.mono S2.size)
    cases OP with
    | none =>
      obtain rfl := hm11
      refine hK.out _ _ S3 (fun _ => ?_)
      clear hK K
      refine wpAnyH_take_at (i := 12) (v := .tuple #[.slice none 0 0, .int .i64 7]) rfl rfl (by kernel_rfl) (by kernel_rfl) (by kernel_rfl) (fun _ _ _ h => h) (Or.inl ⟨by rfl, fun w hS => by go_simp⟩) S3 ?_
      try simp only [List.setIfInBounds_toArray, List.set_cons_zero, List.set_cons_succ]
      refine wpAnyH_take_at (i := 13) (v := .slice none 0 0) rfl rfl (by kernel_rfl) (by kernel_rfl) (by kernel_rfl) (fun _ _ _ h => h) (Or.inl ⟨by rfl, fun w hS => by go_simp⟩) S3 ?_
      try simp only [List.setIfInBounds_toArray, List.set_cons_zero, List.set_cons_succ]
      refine wpAnyH_take_at (i := 14) (v := .int .i64 7) rfl rfl (by kernel_rfl) (by kernel_rfl) (by kernel_rfl) (fun _ _ _ h => h) (Or.inl ⟨by rfl, fun w hS => by go_simp⟩) S3 ?_
      try simp only [List.setIfInBounds_toArray, List.set_cons_zero, List.set_cons_succ]
      refine wpAnyH_take_at (i := 15) (v := .slice none 0 0) rfl rfl (by kernel_rfl) (by kernel_rfl) (by kernel_rfl) (fun _ _ _ h => h) (Or.inl ⟨by rfl, fun w hS => by go_simp⟩) S3 ?_
      try simp only [List.setIfInBounds_toArray, List.set_cons_zero, List.set_cons_succ]
      refine wpAnyH_take_at (i := 16) (v := .int .i64 7) rfl rfl (by kernel_rfl) (by kernel_rfl) (by kernel_rfl) (fun _ _ _ h => h) (Or.inl ⟨by rfl, fun w hS => by go_simp⟩) S3 ?_
      try simp only [List.setIfInBounds_toArray, List.set_cons_zero, List.set_cons_succ]
      refine wpAnyH_done (by kernel_rfl) ?_ _
      have KE : Hid (Below w.heap.size w w11) := K08.out.trans (S3.mono K08.out.size)
      clear S0 S1 S2 S3 k9 k10 k11 o9 o10 COP CKEY hmt hna hmf HRG HC3
      go_wp2
      go_ret2
      exact ⟨fun _ => OpensTo.no rfl KE.out, fun h => absurd HYE.out h⟩
    | some t =>
      obtain ⟨rb, rfl, o11⟩ := hm11
      refine hK.out _ _ S3 (fun _ => ?_)
      clear hK K
      refine wpAnyH_take_at (i := 12) (v := .tuple #[rb, .int .i64 0]) rfl rfl (by kernel_rfl) (by kernel_rfl) (by kernel_rfl) (fun _ _ _ h => h) (Or.inl ⟨by rfl, fun w hS => by go_simp⟩) S3 ?_
      try simp only [List.setIfInBounds_toArray, List.set_cons_zero, List.set_cons_succ]
      refine wpAnyH_take_at (i := 13) (v := rb) rfl rfl (by kernel_rfl) (by kernel_rfl) (by kernel_rfl) (fun _ _ _ h => h) (Or.inl ⟨by rfl, fun w hS => by go_simp⟩) S3 ?_
      try simp only [List.setIfInBounds_toArray, List.set_cons_zero, List.set_cons_succ]
      refine wpAnyH_take_at (i := 14) (v := .int .i64 0) rfl rfl (by kernel_rfl) (by kernel_rfl) (by kernel_rfl) (fun _ _ _ h => h) (Or.inl ⟨by rfl, fun w hS => by go_simp⟩) S3 ?_
      try simp only [List.setIfInBounds_toArray, List.set_cons_zero, List.set_cons_succ]
      refine wpAnyH_take_at (i := 15) (v := rb) rfl rfl (by kernel_rfl) (by kernel_rfl) (by kernel_rfl) (fun _ _ _ h => h) (Or.inl ⟨by rfl, fun w hS => by go_simp⟩) S3 ?_
      try simp only [List.setIfInBounds_toArray, List.set_cons_zero, List.set_cons_succ]
      refine wpAnyH_take_at (i := 16) (v := .int .i64 0) rfl rfl (by kernel_rfl) (by kernel_rfl) (by kernel_rfl) (fun _ _ _ h => h) (Or.inl ⟨by rfl, fun w hS => by go_simp⟩) S3 ?_
      try simp only [List.setIfInBounds_toArray, List.set_cons_zero, List.set_cons_succ]
      refine wpAnyH_done (by kernel_rfl) ?_ _
      have KE : Hid (Below w.heap.size w w11) := K08.out.trans (S3.mono K08.out.size)
      have OE : Hid (Own w11 w.heap.size rb t) := o11.mono (Nat.le_trans K08.out.size S2.size)
      clear S0 S1 S2 S3 k9 k10 k11 o9 o10 o11 COP CKEY hmt hna hmf HRG HC3
      go_wp2
      go_ret2
      exact ⟨fun _ => OpensTo.yes rfl KE.out OE.out, fun h => absurd HYE.out h⟩
  · have HNO : Hid (¬ point = own) := hown
    have CE := Lib.hid (wequal_no (.slice (some ⟨g, 1, none⟩) 32 32) ov point own w3 HPT3.out O3.out.isB hown)
    clear hown
    go_wp2_with fail
    refine CE.out.mono ?_
    rintro e w4 ⟨rfl, k4⟩
    have KE : Hid (Below w.heap.size w w4) := K3.out.trans (k4.mono K3.out.size)
    clear k4 CE c1 c2
    go_wp2
    go_ret2
    exact ⟨fun h => absurd h HNO.out, fun _ => ⟨rfl, KE.out⟩⟩

end Go.Proofs.YtdojalhaklkegaaDoor
