/-
  CONTRACT OF orlopref15.items, if value holds: the walk over lists. Conditions: rows of up to 2^40 bytes.
-/
import Derived.Test.YtbgadfaiehkanaaGreatDoorRefJsO
namespace Go.Proofs.YtbgadfaiehkanaaGreatDoor
open Go.RowKit
set_option linter.unusedVariables false
set_option maxRecDepth 100000

set_option maxHeartbeats 16000000 in
theorem ritems_list (d q : Nat) (hq : q + d = 16) (VO : ValueOk d (q + 1)) (bv : Value) (b : List UInt8) (w : World) (i : Nat) (h : IsB w bv b) (hi : i < b.length) (hl : b.length ≤ 1099511627776) (hc : b.drop i = 91 :: b.drop (i + 1)) :
    Calls Tryz.prog 91 #[bv, .int .i64 (i : Int), .int .i64 (q : Int)] w (ValEnds w b i (d + 1) (M.itemsTop d 91 (b.drop (i + 1)))) := by
  obtain ⟨g6, hg6⟩ : ∃ g, g = w.heap.size := ⟨_, rfl⟩
  have HG6 := Lib.hid hg6
  obtain ⟨W1, hW1⟩ : ∃ W, Hid (W = w.alloc (.cells #[.int .i64 0, .bool false, .int .i64 0, .string ⟨#[]⟩, .slice none 0 0, .slice none 0 0] 27)) := ⟨_, rfl⟩
  have HI1 : Hid (IsB W1 bv b) := by rw [Hid, hW1.out]; exact h.below ((Below.refl _ _).alloc (Nat.le_refl _) _)
  have K1 : Hid (Below g6 w W1) := by rw [Hid, hW1.out, hg6]; exact (Below.refl _ _).alloc (Nat.le_refl _) _
  have B1 : Hid (Blk W1 g6 27 [.int .i64 0, .bool false, .int .i64 0, .string ⟨#[]⟩, .slice none 0 0, .slice none 0 0]) := by rw [Hid, hW1.out]; exact Blk.newAt _ _ _ _ _ hg6 rfl
  have Z1 : Hid (W1.heap.size = g6 + 1) := by rw [Hid, hW1.out, hg6]; simp
  obtain ⟨n, hn⟩ : ∃ n, n = b.length := ⟨_, rfl⟩
  have HN := Lib.hid hn
  have HL := Lib.hid hl
  rw [← hn] at hi hl
  have hqi : (q : Int) ≤ 16 := by omega
  have hnl : (n : Int) ≤ 1099511627776 := by omega
  obtain ⟨res, hres⟩ : ∃ r, r = M.itemsTop d 91 (b.drop (i + 1)) := ⟨_, rfl⟩
  have HRES := Lib.hid hres
  rw [← hres]
  have HVO := Lib.hid VO
  have HIN := Lib.hid hi
  have hil : (i : Int) < 1099511627776 := by omega
  have g2 : (0 : Int) ≤ (i : Int) := Int.natCast_nonneg i
  have g3 : ((i : Int)).toNat = i := Int.toNat_natCast i
  have g4 : (i : Int) < (n : Int) := by omega
  obtain ⟨ao, cap, rfl, _, hcap, _⟩ := HI1.out
  rw [← HN.out] at HI1 h ⊢
  unfold maxLen at hcap
  obtain ⟨bk, off, rfl, hcs⟩ := HI1.out.cellAt (by rw [← hn]; omega)
  have c1 := hcs i (by rw [← hn]; exact hi)
  have c1 : W1.cell? ⟨bk, off + i, none⟩ = some (.int .u8 91) := by
    rw [c1]
    have := drop_cons64 (b := b) (i := i) (by rw [← hn]; exact hi)
    rw [hc] at this
    injection this with this _
    rw [← this]
    rfl
  have HI0 := Lib.hid h
  clear h hi hl hn hq VO hres hcs hc
  rename_i c1a
  clear c1a
  go_enter Tryz.func91, Tryz.ntmps91
  go_upto_region 1 with fail
  rw [← hW1.out, ← hg6]
  clear hg6 hW1
  go_upto_region 7 with fail
  obtain ⟨W2, hW2⟩ : ∃ W, Hid (W = W1.alloc (.cells #[.int .i64 4, .bool false, .int .i64 0, .string ⟨#[]⟩, .slice none 0 0, .slice none 0 0] 27)) := ⟨_, rfl⟩
  obtain ⟨g10, hg10⟩ : ∃ g, g = W1.heap.size := ⟨_, rfl⟩
  have HG10 : Hid (g10 = g6 + 1) := hg10.trans Z1.out
  have K2 : Hid (Below g6 w W2) := by rw [Hid, hW2.out]; exact K1.out.alloc (by rw [Z1.out]; exact Nat.le_succ _) _
  have B2 : Hid (Blk W2 g6 27 [.int .i64 0, .bool false, .int .i64 0, .string ⟨#[]⟩, .slice none 0 0, .slice none 0 0]) := by rw [Hid, hW2.out]; exact B1.out.alloc _
  have B10 : Hid (Blk W2 g10 27 [.int .i64 4, .bool false, .int .i64 0, .string ⟨#[]⟩, .slice none 0 0, .slice none 0 0]) := by rw [Hid, hW2.out]; exact Blk.newAt _ _ _ _ _ hg10 rfl
  have Z2 : Hid (W2.heap.size = g10 + 1) := by rw [Hid, hW2.out, hg10]; simp
  have HI2 : Hid (IsB W2 (.slice (some ⟨bk, off, none⟩) n cap) b) := by rw [Hid, hW2.out]; exact HI1.out.below ((Below.refl _ _).alloc (Nat.le_refl _) _)
  rw [← hW2.out, ← hg10]
  have CB := Lib.hid (rblanks_any _ b W2 HI2.out (i + 1) (by rw [← HN.out]; exact HIN.out) HL.out)
  rw [← HN.out] at CB
  clear hg10 hW2 c1
  go_wp2_with fail
  refine CB.out.mono ?_
  rintro e w2 ⟨j, rfl, h1, h2, h3, rfl⟩
  have HIJ := Lib.hid h1
  have HJN := Lib.hid h2
  have HBL := Lib.hid h3
  have hjl : (j : Int) ≤ 1099511627776 := by omega
  clear h1 h2 h3 CB
  by_cases hjn : j < n
  · have b0 : decide ((j : Int) < (n : Int)) = true := decide_eq_true (by omega)
    have b0p : (j : Int) < (n : Int) := by omega
    obtain ⟨b2, o2, e2, hcs⟩ := HI2.out.cellAt (by rw [← HN.out]; omega)
    injection e2 with e2
    injection e2 with e3 e4
    subst e3 e4
    have cJ := hcs j (by rw [← HN.out]; exact hjn)
    obtain ⟨c, hc⟩ : ∃ c, c = b.getD j 0 := ⟨_, rfl⟩
    have HDK : Hid (b.drop j = c :: b.drop (j + 1)) := by rw [Hid, drop_cons64 (by rw [← HN.out]; exact hjn), ← hc]
    rw [← hc] at cJ
    obtain ⟨x, hx⟩ : ∃ x, x = c.toNat := ⟨_, rfl⟩
    have hx8 : x < 256 := by rw [hx]; exact c.toNat_lt
    rw [← hx] at cJ
    have HXC := Lib.hid hx
    have f2 : (0 : Int) ≤ (j : Int) := Int.natCast_nonneg j
    have f3 : ((j : Int)).toNat = j := Int.toNat_natCast j
    have HJL := Lib.hid hjn
    clear hc hx hcs hjn
    by_cases e93 : x = 93
    · have t1 : ((x : Int) == 93) = true := by simp [e93]
      have HM : Hid (res = .ok (M.vList []) (b.drop (j + 1))) := by
        rw [Hid, HRES.out]
        exact M.top_shut (by rw [← HBL.out, HDK.out, show c = 93 from UInt8.toNat_inj.1 (HXC.out.symm.trans e93)])
      clear e93
      go_wp2_with (first
        | (refine wpList_load_row rfl 27 (.tmp 10) rfl g10 rfl 27 _ _ _ B10.out Tryz.underlying27 rfl Tryz.sizeV ?_)
        | (refine wpList_store_blk rfl 27 (.tmp 6) (.tmp 43) rfl g6 _ rfl rfl 27 _ B2.out Tryz.sizeV rfl (fun v hv => by change v ∈ [_, _, _, _, _, _] at hv; simp only [List.mem_cons, List.not_mem_nil, or_false] at hv; rcases hv with rfl | rfl | rfl | rfl | rfl | rfl <;> rfl) ?_; intro w9 hb9 ho9))
      exact bodyPost_ret (results_cell3 rfl _ _ g6 _ _ _ _ rfl hb9 Tryz.underlying27 rfl Tryz.sizeV) rfl (by rw [HM.out]; exact ⟨.slice none 0 0, .slice none 0 0, j + 1, rfl, IsV.leaf _ _ d 4 false 0 [], by have := HIJ.out; omega, by rw [← HN.out]; exact HJL.out, rfl, (by rw [← HG6.out]; exact K2.out.trans (ho9.below (by rw [HG6.out]; exact K2.out.size) (Nat.le_refl _)))⟩)
    · have t1 : ((x : Int) == 93) = false := by simp; omega
      have HST : Hid (M.items (M.val d) true ((b.drop (i + 1)).length + 1) (b.drop j) [] [] = res) := by
        rw [Hid, HRES.out, HDK.out]
        exact (M.top_more (by rw [← HBL.out, HDK.out]) (fun e => e93 (by rw [HXC.out, e]; rfl))).symm
      clear e93
      go_wp2
      go_loopw [1] (fun x wr => ∃ (k f : Nat) (L : List M.GV) (lss : List (List Value)) (lv : Value) (Q : Nat → Prop), x = .int .i64 (k : Int) ∧ Hid (k ≤ n) ∧ Hid (i ≤ k) ∧ Hid (n - k < f) ∧ Hid (M.items (M.val d) true f (b.drop k) L [] = res) ∧ Hid (L.length ≤ k) ∧ Hid (ListMem w d g6 g10 wr L lss lv Q)) (fun x _ => n + 1 - natOf x)
      case atStart => exact ⟨j, _, [], [], .slice none 0 0, fun _ => False, rfl, HJN, Lib.hid (Nat.le_of_succ_le HIJ.out), Lib.hid (by rw [List.length_drop, ← HN.out]; have := HIJ.out; omega), HST, Lib.hid (Nat.zero_le _), Lib.hid { k6 := B2.out, k10 := B10.out, row := World.ownsRow_nil _ _ _ _, ln := rfl, each := fun i hi => absurd hi (Nat.not_lt_zero i), q := fun _ h => h.elim, bel := by rw [← HG6.out]; exact K2.out, lt := by rw [Z2.out]; exact Nat.lt_succ_self _, lg := by rw [HG10.out]; exact Nat.lt_succ_self _, l0 := by rw [HG6.out]; exact Nat.le_refl _ }⟩
      case round =>
        obtain ⟨wz, rfl⟩ : ∃ x, x = wr := ⟨_, rfl⟩
        obtain ⟨k, f0, L, lss, lv, Q, rfl, HKN0, HIK, HFU, HST0, HLLK, S⟩ := hrel
        have hkn := HKN0.out
        have hkl : (k : Int) ≤ 1099511627776 := by omega
        have HKN := Lib.hid hkn
        obtain ⟨f, hf⟩ : ∃ f, f0 = f + 1 := ⟨f0 - 1, by have := HFU.out; omega⟩
        have HSTK : Hid (M.items (M.val d) true (f + 1) (b.drop k) L [] = res) := by rw [Hid, ← hf]; exact HST0.out
        have HF : Hid (n - k ≤ f) := by have := HFU.out; rw [Hid]; omega
        have HIZ := Lib.hid (HI0.out.below S.out.bel)
        have CV := Lib.hid (HVO.out _ b wz k HIZ.out (by rw [← HN.out]; exact hkn) HL.out)
        obtain ⟨R, hR⟩ : ∃ R, R = M.val d (b.drop k) := ⟨_, rfl⟩
        have HR := Lib.hid hR
        rw [← hR] at CV
        have G6Z : Hid (g6 < wz.heap.size) := by have := S.out.lt; have := HG10.out; rw [Hid]; omega
        clear hR hf hkn HFU HST0
        go_wp2_with fail
        refine CV.out.mono ?_
        intro e w8 hv
        have HV := Lib.hid hv
        clear hv
        cases R with
        | err c0 =>
          obtain ⟨rfl, hk0, k8⟩ := HV.out
          have HK0 := Lib.hid hk0
          have t2 : (c0 != 0) = true := by simpa using hk0
          have HM : Hid (res = .err c0) := by rw [Hid, ← HSTK.out]; exact M.items_err HR.out.symm
          have B8 := Lib.hid (S.out.k6.below k8 G6Z.out)
          have K8 := Lib.hid (S.out.bel.trans (k8.mono (by have := S.out.lt; have := HG10.out; have := HG6.out; omega)))
          clear k8 hk0
          rw [zeroV]
          go_upto_region 27 with fail
          go_wp2_with (refine wpList_store_blk rfl 27 (.tmp 6) (.tmp 107) rfl g6 _ rfl rfl 27 _ (B8.out.alloc _) Tryz.sizeV rfl (by decide) ?_; intro w9 hb9 ho9)
          exact bodyPost_ret (results_cell3 rfl _ _ g6 _ _ _ _ rfl hb9 Tryz.underlying27 rfl Tryz.sizeV) rfl (by rw [HM.out]; exact ⟨rfl, HK0.out, (K8.out.alloc K8.out.size _).trans (ho9.below (Nat.le_trans K8.out.size (by simp)) (by rw [HG6.out]; exact Nat.le_refl _))⟩)
        | ok gx r =>
          obtain ⟨lx, mx, p, rfl, iv, p1, p2, p3, k8⟩ := HV.out
          obtain ⟨⟨la, ln, lc, rfl⟩, ⟨ma, mn, mc, rfl⟩⟩ := iv.shape
          rw [vcs_arr]
          have IV := Lib.hid iv
          have P1 := Lib.hid p1
          have P2 := Lib.hid p2
          have P3 := Lib.hid p3
          have HLT := S.out.lt
          have K8 := Lib.hid (S.out.bel.trans (k8.mono (by have := S.out.lt; have := HG10.out; have := HG6.out; omega)))
          have B8 := Lib.hid (S.out.k6.below k8 G6Z.out)
          have B10X := Lib.hid (S.out.k10.below k8 HLT)
          have R8 := Lib.hid (own_chg (F := fun _ => False) S.out.row (Chg.of_below k8) (fun _ _ h => h))
          have E8 : Hid (∀ i, i < L.length → IsV Q w8 d (lss.getD i []) (L.getD i M.vNull)) := fun i hi => (S.out.each i hi).below k8
          have S8 : Hid (wz.heap.size ≤ w8.heap.size) := k8.size
          have HITM : Hid (res = (match M.blk (b.drop p) with
              | [] => .err 8
              | c :: r2 => if c = 93 then .ok (M.vList (L ++ [gx])) r2 else if c = 44 then M.items (M.val d) true f r2 (L ++ [gx]) [] else .err 8)) := by rw [Hid, ← HSTK.out, ← P3.out]; exact M.items_ok HR.out.symm
          have KB8 : Hid (Below wz.heap.size wz w8) := k8
          obtain ⟨W9, hW9⟩ : ∃ W, Hid (W = w8.alloc (.cells #[.int .i64 gx.k, .bool gx.b, .int .i64 gx.n, .string ⟨gx.t.toArray⟩, .slice la ln lc, .slice ma mn mc] 27)) := ⟨_, rfl⟩
          obtain ⟨g16, hg16⟩ : ∃ g, Hid (g = w8.heap.size) := ⟨_, rfl⟩
          have B16 : Hid (Blk W9 g16 27 (vcs gx.k gx.b gx.n gx.t (.slice la ln lc) (.slice ma mn mc))) := by rw [Hid, hW9.out]; exact Blk.newAt _ _ _ _ _ hg16.out rfl
          have K9 : Hid (Below w8.heap.size w8 W9) := by rw [Hid, hW9.out]; exact (Below.refl _ _).alloc (Nat.le_refl _) _
          have H108 : Hid (g10 < w8.heap.size) := Nat.lt_of_lt_of_le HLT S8.out
          have B109 := Lib.hid (B10X.out.below K9.out H108.out)
          obtain ⟨W10, hW10⟩ : ∃ W, Hid (W = W9.alloc (.cells #[.int .i64 gx.k, .bool gx.b, .int .i64 gx.n, .string ⟨gx.t.toArray⟩, .slice la ln lc, .slice ma mn mc] 27)) := ⟨_, rfl⟩
          obtain ⟨g12, hg12⟩ : ∃ g, Hid (g = W9.heap.size) := ⟨_, rfl⟩
          have B12 : Hid (Blk W10 g12 27 (vcs gx.k gx.b gx.n gx.t (.slice la ln lc) (.slice ma mn mc))) := by rw [Hid, hW10.out]; exact Blk.newAt _ _ _ _ _ hg12.out rfl
          have K10 : Hid (Below w8.heap.size w8 W10) := by rw [Hid, hW10.out]; exact K9.out.alloc K9.out.size _
          have R10 := Lib.hid (own_chg (F := fun _ => False) R8.out (Chg.of_below K10.out) (fun _ _ h => h))
          have B1010 := Lib.hid (B10X.out.below K10.out H108.out)
          have HLN : Hid (L.length + 1 ≤ 1099511627777) := by have := HLLK.out; have := HKN.out; have := HL.out; have := HN.out; rw [Hid]; omega
          have HSZ : Hid (g10 + 1 ≤ W10.heap.size) := by have := K10.out.size; have := H108.out; rw [Hid]; omega
          clear iv p1 p2 p3 k8 HLT
          go_upto_region 29 with fail
          rw [← hW9.out, ← hg16.out]
          have c104 : W9.cell? ⟨g10, 4, none⟩ = some lv := B109.out.cell 4
          have c160 : W9.cell? ⟨g16, 0, none⟩ = some (.int .i64 gx.k) := B16.out.cell 0
          have c161 : W9.cell? ⟨g16, 1, none⟩ = some (.bool gx.b) := B16.out.cell 1
          have c162 : W9.cell? ⟨g16, 2, none⟩ = some (.int .i64 gx.n) := B16.out.cell 2
          have c163 : W9.cell? ⟨g16, 3, none⟩ = some (.string ⟨gx.t.toArray⟩) := B16.out.cell 3
          have c164 : W9.cell? ⟨g16, 4, none⟩ = some (.slice la ln lc) := B16.out.cell 4
          have c165 : W9.cell? ⟨g16, 5, none⟩ = some (.slice ma mn mc) := B16.out.cell 5
          have HC1 : Hid (∀ u ∈ vcs gx.k gx.b gx.n gx.t (.slice la ln lc) (.slice ma mn mc), Value.oneCell' u = true) := IV.out.one
          go_wp2_with (rw [← hW10.out, ← hg12.out]; at_builtin; go_must (refine wpList_app_row rowsV _ rfl _ _ rfl (g10 + 1) lv L.length lss.flatten rfl R10.out ⟨g12, 0, none⟩ 1 1 (vcs gx.k gx.b gx.n gx.t (.slice la ln lc) (.slice ma mn mc)) rfl rfl ?d1 HC1.out ?d2 ?d3 HSZ.out ?_))
          case d1 => exact fun j u hj => by rw [add_plainJ, Nat.zero_add, B12.out.cell]; exact hj
          case d2 => have := HLN.out; unfold maxLen; omega
          case d3 => have := HLN.out; omega
          intro v5 w11 o9 g9 a9
          have SA := Lib.hid (ListMem.add S.out KB8.out IV.out K10.out o9 g9 a9)
          have hne : some g10 ≠ lv.ownBlock := fun e => by have := S.out.row.lt g10 e.symm; omega
          have B11 := Lib.hid (B1010.out.grown g9 hne)
          have c114 : w11.cell? ⟨g10, 4, none⟩ = some lv := B11.out.cell 4
          have z114 : w11.frozen? ⟨g10, 4, none⟩ = false := B11.out.frozen 4
          have HSH := Lib.hid (rowV_shape o9)
          obtain ⟨xa, xn, xc, rfl⟩ := HSH.out
          clear o9 g9 a9 c104 c160 c161 c162 c163 c164 c165 HSH hne
          go_upto_region 31 with fail
          obtain ⟨W12, hW12⟩ : ∃ W, Hid (W = w11.setCell ⟨g10, 4, none⟩ (.slice xa xn xc)) := ⟨_, rfl⟩
          rw [← hW12.out] at SA ⊢
          clear c114 z114 hW12
          have CB2 := Lib.hid (rblanks_any _ b W12 (HI0.out.below SA.out.bel) p P2.out HL.out)
          rw [← HN.out] at CB2
          go_wp2_with fail
          refine CB2.out.mono ?_
          rintro e w13 ⟨j2, rfl, h1, h2, h3, rfl⟩
          have HPJ := Lib.hid h1
          have HJN2 := Lib.hid h2
          rw [← h3] at HITM
          have hjl2 : (j2 : Int) ≤ 1099511627776 := by omega
          have HI13 := Lib.hid (HI0.out.below SA.out.bel)
          clear h1 h2 h3 CB2
          by_cases hjn2 : j2 < n
          · have b0 : decide ((j2 : Int) < (n : Int)) = true := decide_eq_true (by omega)
            have b0p : (j2 : Int) < (n : Int) := by omega
            have b1 : decide ((n : Int) ≤ (j2 : Int)) = false := decide_eq_false (by omega)
            have b1p : ¬ (n : Int) ≤ (j2 : Int) := by omega
            have b3 : decide (n ≤ j2) = false := decide_eq_false (by omega)
            obtain ⟨b5, o5, e5, hcs⟩ := HI13.out.cellAt (by rw [← HN.out]; omega)
            injection e5 with e5
            injection e5 with e6 e7
            subst e6 e7
            have cJ2 := hcs j2 (by rw [← HN.out]; exact hjn2)
            obtain ⟨c2, hc2⟩ : ∃ c, c = b.getD j2 0 := ⟨_, rfl⟩
            have HDK2 : Hid (b.drop j2 = c2 :: b.drop (j2 + 1)) := by rw [Hid, drop_cons64 (by rw [← HN.out]; exact hjn2), ← hc2]
            rw [← hc2] at cJ2
            obtain ⟨x2, hx2⟩ : ∃ x, x = c2.toNat := ⟨_, rfl⟩
            have hx28 : x2 < 256 := by rw [hx2]; exact c2.toNat_lt
            rw [← hx2] at cJ2
            have HXC2 := Lib.hid hx2
            have f22 : (0 : Int) ≤ (j2 : Int) := Int.natCast_nonneg j2
            have f32 : ((j2 : Int)).toNat = j2 := Int.toNat_natCast j2
            have HJL2 := Lib.hid hjn2
            rw [HDK2.out] at HITM
            clear hc2 hx2 hcs
            by_cases y93 : x2 = 93
            · have t3 : ((x2 : Int) == 93) = true := by simp [y93]
              have HM : Hid (res = .ok (M.vList (L ++ [gx])) (b.drop (j2 + 1))) := by
                rw [Hid, HITM.out]
                exact if_pos (show c2 = 93 from UInt8.toNat_inj.1 (HXC2.out.symm.trans y93))
              clear y93
              go_wp2_with (first
                | (refine wpList_load_row rfl 27 (.tmp 10) rfl g10 rfl 27 _ _ _ SA.out.k10 Tryz.underlying27 rfl Tryz.sizeV ?_)
                | (refine wpList_store_blk rfl 27 (.tmp 6) (.tmp 139) rfl g6 _ rfl rfl 27 _ SA.out.k6 Tryz.sizeV rfl (fun v hv => by change v ∈ [_, _, _, _, _, _] at hv; simp only [List.mem_cons, List.not_mem_nil, or_false] at hv; rcases hv with rfl | rfl | rfl | rfl | rfl | rfl <;> rfl) ?_; intro w9 hb9 ho9))
              exact bodyPost_ret (results_cell3 rfl _ _ g6 _ _ _ _ rfl hb9 Tryz.underlying27 rfl Tryz.sizeV) rfl (by rw [HM.out]; exact ⟨.slice xa xn xc, .slice none 0 0, j2 + 1, rfl, IsV.mono (fun x _ hx => by have h1 := SA.out.lg; have h2 := SA.out.l0; have h3 : g10 < x := hx; show w.heap.size ≤ x; omega) _ (IsV.chg (Chg.of_grown (F := fun x => x = g6) ho9 (fun k e => (Option.some.inj e).symm)) (fun x hx e => by have h1 := SA.out.lg; have h3 : g10 < x := hx; omega) _ SA.out.val), by have h1 := HIK.out; have h2 := P1.out; have h3 := HPJ.out; omega, by rw [← HN.out]; exact HJL2.out, rfl, SA.out.bel.trans (ho9.below SA.out.bel.size (by rw [HG6.out]; exact Nat.le_refl _))⟩)
            have t3 : ((x2 : Int) == 93) = false := by simp; omega
            by_cases y44 : x2 = 44
            · have cJ3 : w13.cell? ⟨bk, off + j2, none⟩ = some (.int .u8 44) := by rw [cJ2, y44]; rfl
              have HSTN : Hid (M.items (M.val d) true f (b.drop (j2 + 1)) (L ++ [gx]) [] = res) := by
                rw [Hid, HITM.out]
                dsimp only
                rw [if_neg (fun e => y93 (by rw [HXC2.out, e]; rfl)), if_pos (show c2 = 44 from UInt8.toNat_inj.1 (HXC2.out.symm.trans y44))]
              clear y93 y44 cJ2 t3
              go_wp2
              go_roundw
              case rel => 
                refine ⟨j2 + 1, f, L ++ [gx], _, _, _, by go_num, HJL2.out, ?_, ?_, HSTN, ?_, SA⟩
                · rw [Hid]; have h1 := HIK.out; have h2 := P1.out; have h3 := HPJ.out; omega
                · rw [Hid]; have h1 := HF.out; have h2 := P1.out; have h3 := HPJ.out; have h4 := HJL2.out; omega
                · rw [Hid, List.length_append, List.length_singleton]; have h1 := HLLK.out; have h2 := P1.out; have h3 := HPJ.out; omega
              case measure =>
                have h2 := P1.out
                have h3 := HPJ.out
                have h4 := HJL2.out
                show n + 1 - (((j2 + 1 : Nat) : Int)).toNat < n + 1 - ((k : Int)).toNat
                omega
            · have t4 : ((x2 : Int) != 44) = true := by simp; omega
              have HM : Hid (res = .err 8) := by
                rw [Hid, HITM.out]
                dsimp only
                rw [if_neg (fun e => y93 (by rw [HXC2.out, e]; rfl)), if_neg (fun e => y44 (by rw [HXC2.out, e]; rfl))]
              clear y93 y44
              go_wp2_with (refine wpList_store_blk rfl 27 (.tmp 6) (.tmp 153) rfl g6 _ rfl rfl 27 _ SA.out.k6 Tryz.sizeV rfl (by decide) ?_; intro w9 hb9 ho9)
              exact bodyPost_ret (results_cell3 rfl _ _ g6 _ _ _ _ rfl hb9 Tryz.underlying27 rfl Tryz.sizeV) rfl (by rw [HM.out]; exact ⟨rfl, by decide, SA.out.bel.trans (ho9.below SA.out.bel.size (by rw [HG6.out]; exact Nat.le_refl _))⟩)
          · have b0 : decide ((j2 : Int) < (n : Int)) = false := decide_eq_false (by omega)
            have b0p : ¬ (j2 : Int) < (n : Int) := by omega
            have b1 : decide ((n : Int) ≤ (j2 : Int)) = true := decide_eq_true (by omega)
            have b1p : (n : Int) ≤ (j2 : Int) := by omega
            have b3 : decide (n ≤ j2) = true := decide_eq_true (by omega)
            have HM : Hid (res = .err 8) := by
              rw [Hid, HITM.out, List.drop_eq_nil_of_le (by rw [← HN.out]; omega)]
            have b2p : n ≤ j2 := Nat.le_of_not_lt hjn2
            go_wp2_with (refine wpList_store_blk rfl 27 (.tmp 6) (.tmp 153) rfl g6 _ rfl rfl 27 _ SA.out.k6 Tryz.sizeV rfl (by decide) ?_; intro w9 hb9 ho9)
            exact bodyPost_ret (results_cell3 rfl _ _ g6 _ _ _ _ rfl hb9 Tryz.underlying27 rfl Tryz.sizeV) rfl (by rw [HM.out]; exact ⟨rfl, by decide, SA.out.bel.trans (ho9.below SA.out.bel.size (by rw [HG6.out]; exact Nat.le_refl _))⟩)
  · have b0 : decide ((j : Int) < (n : Int)) = false := decide_eq_false (by omega)
    have b0p : ¬ (j : Int) < (n : Int) := by omega
    have HST : Hid (M.items (M.val d) true ((b.drop (i + 1)).length + 1) (b.drop j) [] [] = res) := by
      have e : b.drop j = [] := List.drop_eq_nil_of_le (by rw [← HN.out]; omega)
      rw [Hid, HRES.out, e]
      exact (M.top_nil (by rw [← HBL.out, e])).symm
    have b0n : decide (j < n) = false := decide_eq_false hjn
    have b0m : n ≤ j := Nat.le_of_not_lt hjn
    have b0q : (n : Int) ≤ (j : Int) := by omega
    go_wp2
    go_loopw [1] (fun x wr => ∃ (k f : Nat) (L : List M.GV) (lss : List (List Value)) (lv : Value) (Q : Nat → Prop), x = .int .i64 (k : Int) ∧ Hid (k ≤ n) ∧ Hid (i ≤ k) ∧ Hid (n - k < f) ∧ Hid (M.items (M.val d) true f (b.drop k) L [] = res) ∧ Hid (L.length ≤ k) ∧ Hid (ListMem w d g6 g10 wr L lss lv Q)) (fun x _ => n + 1 - natOf x)
    case atStart => exact ⟨j, _, [], [], .slice none 0 0, fun _ => False, rfl, HJN, Lib.hid (Nat.le_of_succ_le HIJ.out), Lib.hid (by rw [List.length_drop, ← HN.out]; have := HIJ.out; omega), HST, Lib.hid (Nat.zero_le _), Lib.hid { k6 := B2.out, k10 := B10.out, row := World.ownsRow_nil _ _ _ _, ln := rfl, each := fun i hi => absurd hi (Nat.not_lt_zero i), q := fun _ h => h.elim, bel := by rw [← HG6.out]; exact K2.out, lt := by rw [Z2.out]; exact Nat.lt_succ_self _, lg := by rw [HG10.out]; exact Nat.lt_succ_self _, l0 := by rw [HG6.out]; exact Nat.le_refl _ }⟩
    case round =>
      obtain ⟨wz, rfl⟩ : ∃ x, x = wr := ⟨_, rfl⟩
      obtain ⟨k, f0, L, lss, lv, Q, rfl, HKN0, HIK, HFU, HST0, HLLK, S⟩ := hrel
      have hkn := HKN0.out
      have hkl : (k : Int) ≤ 1099511627776 := by omega
      have HKN := Lib.hid hkn
      obtain ⟨f, hf⟩ : ∃ f, f0 = f + 1 := ⟨f0 - 1, by have := HFU.out; omega⟩
      have HSTK : Hid (M.items (M.val d) true (f + 1) (b.drop k) L [] = res) := by rw [Hid, ← hf]; exact HST0.out
      have HF : Hid (n - k ≤ f) := by have := HFU.out; rw [Hid]; omega
      have HIZ := Lib.hid (HI0.out.below S.out.bel)
      have CV := Lib.hid (HVO.out _ b wz k HIZ.out (by rw [← HN.out]; exact hkn) HL.out)
      obtain ⟨R, hR⟩ : ∃ R, R = M.val d (b.drop k) := ⟨_, rfl⟩
      have HR := Lib.hid hR
      rw [← hR] at CV
      have G6Z : Hid (g6 < wz.heap.size) := by have := S.out.lt; have := HG10.out; rw [Hid]; omega
      clear hR hf hkn HFU HST0
      go_wp2_with fail
      refine CV.out.mono ?_
      intro e w8 hv
      have HV := Lib.hid hv
      clear hv
      cases R with
      | err c0 =>
        obtain ⟨rfl, hk0, k8⟩ := HV.out
        have HK0 := Lib.hid hk0
        have t2 : (c0 != 0) = true := by simpa using hk0
        have HM : Hid (res = .err c0) := by rw [Hid, ← HSTK.out]; exact M.items_err HR.out.symm
        have B8 := Lib.hid (S.out.k6.below k8 G6Z.out)
        have K8 := Lib.hid (S.out.bel.trans (k8.mono (by have := S.out.lt; have := HG10.out; have := HG6.out; omega)))
        clear k8 hk0
        rw [zeroV]
        go_upto_region 27 with fail
        go_wp2_with (refine wpList_store_blk rfl 27 (.tmp 6) (.tmp 107) rfl g6 _ rfl rfl 27 _ (B8.out.alloc _) Tryz.sizeV rfl (by decide) ?_; intro w9 hb9 ho9)
        exact bodyPost_ret (results_cell3 rfl _ _ g6 _ _ _ _ rfl hb9 Tryz.underlying27 rfl Tryz.sizeV) rfl (by rw [HM.out]; exact ⟨rfl, HK0.out, (K8.out.alloc K8.out.size _).trans (ho9.below (Nat.le_trans K8.out.size (by simp)) (by rw [HG6.out]; exact Nat.le_refl _))⟩)
      | ok gx r =>
        obtain ⟨lx, mx, p, rfl, iv, p1, p2, p3, k8⟩ := HV.out
        obtain ⟨⟨la, ln, lc, rfl⟩, ⟨ma, mn, mc, rfl⟩⟩ := iv.shape
        rw [vcs_arr]
        have IV := Lib.hid iv
        have P1 := Lib.hid p1
        have P2 := Lib.hid p2
        have P3 := Lib.hid p3
        have HLT := S.out.lt
        have K8 := Lib.hid (S.out.bel.trans (k8.mono (by have := S.out.lt; have := HG10.out; have := HG6.out; omega)))
        have B8 := Lib.hid (S.out.k6.below k8 G6Z.out)
        have B10X := Lib.hid (S.out.k10.below k8 HLT)
        have R8 := Lib.hid (own_chg (F := fun _ => False) S.out.row (Chg.of_below k8) (fun _ _ h => h))
        have E8 : Hid (∀ i, i < L.length → IsV Q w8 d (lss.getD i []) (L.getD i M.vNull)) := fun i hi => (S.out.each i hi).below k8
        have S8 : Hid (wz.heap.size ≤ w8.heap.size) := k8.size
        have HITM : Hid (res = (match M.blk (b.drop p) with
            | [] => .err 8
            | c :: r2 => if c = 93 then .ok (M.vList (L ++ [gx])) r2 else if c = 44 then M.items (M.val d) true f r2 (L ++ [gx]) [] else .err 8)) := by rw [Hid, ← HSTK.out, ← P3.out]; exact M.items_ok HR.out.symm
        have KB8 : Hid (Below wz.heap.size wz w8) := k8
        obtain ⟨W9, hW9⟩ : ∃ W, Hid (W = w8.alloc (.cells #[.int .i64 gx.k, .bool gx.b, .int .i64 gx.n, .string ⟨gx.t.toArray⟩, .slice la ln lc, .slice ma mn mc] 27)) := ⟨_, rfl⟩
        obtain ⟨g16, hg16⟩ : ∃ g, Hid (g = w8.heap.size) := ⟨_, rfl⟩
        have B16 : Hid (Blk W9 g16 27 (vcs gx.k gx.b gx.n gx.t (.slice la ln lc) (.slice ma mn mc))) := by rw [Hid, hW9.out]; exact Blk.newAt _ _ _ _ _ hg16.out rfl
        have K9 : Hid (Below w8.heap.size w8 W9) := by rw [Hid, hW9.out]; exact (Below.refl _ _).alloc (Nat.le_refl _) _
        have H108 : Hid (g10 < w8.heap.size) := Nat.lt_of_lt_of_le HLT S8.out
        have B109 := Lib.hid (B10X.out.below K9.out H108.out)
        obtain ⟨W10, hW10⟩ : ∃ W, Hid (W = W9.alloc (.cells #[.int .i64 gx.k, .bool gx.b, .int .i64 gx.n, .string ⟨gx.t.toArray⟩, .slice la ln lc, .slice ma mn mc] 27)) := ⟨_, rfl⟩
        obtain ⟨g12, hg12⟩ : ∃ g, Hid (g = W9.heap.size) := ⟨_, rfl⟩
        have B12 : Hid (Blk W10 g12 27 (vcs gx.k gx.b gx.n gx.t (.slice la ln lc) (.slice ma mn mc))) := by rw [Hid, hW10.out]; exact Blk.newAt _ _ _ _ _ hg12.out rfl
        have K10 : Hid (Below w8.heap.size w8 W10) := by rw [Hid, hW10.out]; exact K9.out.alloc K9.out.size _
        have R10 := Lib.hid (own_chg (F := fun _ => False) R8.out (Chg.of_below K10.out) (fun _ _ h => h))
        have B1010 := Lib.hid (B10X.out.below K10.out H108.out)
        have HLN : Hid (L.length + 1 ≤ 1099511627777) := by have := HLLK.out; have := HKN.out; have := HL.out; have := HN.out; rw [Hid]; omega
        have HSZ : Hid (g10 + 1 ≤ W10.heap.size) := by have := K10.out.size; have := H108.out; rw [Hid]; omega
        clear iv p1 p2 p3 k8 HLT
        go_upto_region 29 with fail
        rw [← hW9.out, ← hg16.out]
        have c104 : W9.cell? ⟨g10, 4, none⟩ = some lv := B109.out.cell 4
        have c160 : W9.cell? ⟨g16, 0, none⟩ = some (.int .i64 gx.k) := B16.out.cell 0
        have c161 : W9.cell? ⟨g16, 1, none⟩ = some (.bool gx.b) := B16.out.cell 1
        have c162 : W9.cell? ⟨g16, 2, none⟩ = some (.int .i64 gx.n) := B16.out.cell 2
        have c163 : W9.cell? ⟨g16, 3, none⟩ = some (.string ⟨gx.t.toArray⟩) := B16.out.cell 3
        have c164 : W9.cell? ⟨g16, 4, none⟩ = some (.slice la ln lc) := B16.out.cell 4
        have c165 : W9.cell? ⟨g16, 5, none⟩ = some (.slice ma mn mc) := B16.out.cell 5
        have HC1 : Hid (∀ u ∈ vcs gx.k gx.b gx.n gx.t (.slice la ln lc) (.slice ma mn mc), Value.oneCell' u = true) := IV.out.one
        go_wp2_with (rw [← hW10.out, ← hg12.out]; at_builtin; go_must (refine wpList_app_row rowsV _ rfl _ _ rfl (g10 + 1) lv L.length lss.flatten rfl R10.out ⟨g12, 0, none⟩ 1 1 (vcs gx.k gx.b gx.n gx.t (.slice la ln lc) (.slice ma mn mc)) rfl rfl ?d1 HC1.out ?d2 ?d3 HSZ.out ?_))
        case d1 => exact fun j u hj => by rw [add_plainJ, Nat.zero_add, B12.out.cell]; exact hj
        case d2 => have := HLN.out; unfold maxLen; omega
        case d3 => have := HLN.out; omega
        intro v5 w11 o9 g9 a9
        have SA := Lib.hid (ListMem.add S.out KB8.out IV.out K10.out o9 g9 a9)
        have hne : some g10 ≠ lv.ownBlock := fun e => by have := S.out.row.lt g10 e.symm; omega
        have B11 := Lib.hid (B1010.out.grown g9 hne)
        have c114 : w11.cell? ⟨g10, 4, none⟩ = some lv := B11.out.cell 4
        have z114 : w11.frozen? ⟨g10, 4, none⟩ = false := B11.out.frozen 4
        have HSH := Lib.hid (rowV_shape o9)
        obtain ⟨xa, xn, xc, rfl⟩ := HSH.out
        clear o9 g9 a9 c104 c160 c161 c162 c163 c164 c165 HSH hne
        go_upto_region 31 with fail
        obtain ⟨W12, hW12⟩ : ∃ W, Hid (W = w11.setCell ⟨g10, 4, none⟩ (.slice xa xn xc)) := ⟨_, rfl⟩
        rw [← hW12.out] at SA ⊢
        clear c114 z114 hW12
        have CB2 := Lib.hid (rblanks_any _ b W12 (HI0.out.below SA.out.bel) p P2.out HL.out)
        rw [← HN.out] at CB2
        go_wp2_with fail
        refine CB2.out.mono ?_
        rintro e w13 ⟨j2, rfl, h1, h2, h3, rfl⟩
        have HPJ := Lib.hid h1
        have HJN2 := Lib.hid h2
        rw [← h3] at HITM
        have hjl2 : (j2 : Int) ≤ 1099511627776 := by omega
        have HI13 := Lib.hid (HI0.out.below SA.out.bel)
        clear h1 h2 h3 CB2
        by_cases hjn2 : j2 < n
        · have b0 : decide ((j2 : Int) < (n : Int)) = true := decide_eq_true (by omega)
          have b0p : (j2 : Int) < (n : Int) := by omega
          have b1 : decide ((n : Int) ≤ (j2 : Int)) = false := decide_eq_false (by omega)
          have b1p : ¬ (n : Int) ≤ (j2 : Int) := by omega
          have b3 : decide (n ≤ j2) = false := decide_eq_false (by omega)
          obtain ⟨b5, o5, e5, hcs⟩ := HI13.out.cellAt (by rw [← HN.out]; omega)
          injection e5 with e5
          injection e5 with e6 e7
          subst e6 e7
          have cJ2 := hcs j2 (by rw [← HN.out]; exact hjn2)
          obtain ⟨c2, hc2⟩ : ∃ c, c = b.getD j2 0 := ⟨_, rfl⟩
          have HDK2 : Hid (b.drop j2 = c2 :: b.drop (j2 + 1)) := by rw [Hid, drop_cons64 (by rw [← HN.out]; exact hjn2), ← hc2]
          rw [← hc2] at cJ2
          obtain ⟨x2, hx2⟩ : ∃ x, x = c2.toNat := ⟨_, rfl⟩
          have hx28 : x2 < 256 := by rw [hx2]; exact c2.toNat_lt
          rw [← hx2] at cJ2
          have HXC2 := Lib.hid hx2
          have f22 : (0 : Int) ≤ (j2 : Int) := Int.natCast_nonneg j2
          have f32 : ((j2 : Int)).toNat = j2 := Int.toNat_natCast j2
          have HJL2 := Lib.hid hjn2
          rw [HDK2.out] at HITM
          clear hc2 hx2 hcs
          by_cases y93 : x2 = 93
          · have t3 : ((x2 : Int) == 93) = true := by simp [y93]
            have HM : Hid (res = .ok (M.vList (L ++ [gx])) (b.drop (j2 + 1))) := by
              rw [Hid, HITM.out]
              exact if_pos (show c2 = 93 from UInt8.toNat_inj.1 (HXC2.out.symm.trans y93))
            clear y93
            go_wp2_with (first
              | (refine wpList_load_row rfl 27 (.tmp 10) rfl g10 rfl 27 _ _ _ SA.out.k10 Tryz.underlying27 rfl Tryz.sizeV ?_)
              | (refine wpList_store_blk rfl 27 (.tmp 6) (.tmp 139) rfl g6 _ rfl rfl 27 _ SA.out.k6 Tryz.sizeV rfl (fun v hv => by change v ∈ [_, _, _, _, _, _] at hv; simp only [List.mem_cons, List.not_mem_nil, or_false] at hv; rcases hv with rfl | rfl | rfl | rfl | rfl | rfl <;> rfl) ?_; intro w9 hb9 ho9))
            exact bodyPost_ret (results_cell3 rfl _ _ g6 _ _ _ _ rfl hb9 Tryz.underlying27 rfl Tryz.sizeV) rfl (by rw [HM.out]; exact ⟨.slice xa xn xc, .slice none 0 0, j2 + 1, rfl, IsV.mono (fun x _ hx => by have h1 := SA.out.lg; have h2 := SA.out.l0; have h3 : g10 < x := hx; show w.heap.size ≤ x; omega) _ (IsV.chg (Chg.of_grown (F := fun x => x = g6) ho9 (fun k e => (Option.some.inj e).symm)) (fun x hx e => by have h1 := SA.out.lg; have h3 : g10 < x := hx; omega) _ SA.out.val), by have h1 := HIK.out; have h2 := P1.out; have h3 := HPJ.out; omega, by rw [← HN.out]; exact HJL2.out, rfl, SA.out.bel.trans (ho9.below SA.out.bel.size (by rw [HG6.out]; exact Nat.le_refl _))⟩)
          have t3 : ((x2 : Int) == 93) = false := by simp; omega
          by_cases y44 : x2 = 44
          · have cJ3 : w13.cell? ⟨bk, off + j2, none⟩ = some (.int .u8 44) := by rw [cJ2, y44]; rfl
            have HSTN : Hid (M.items (M.val d) true f (b.drop (j2 + 1)) (L ++ [gx]) [] = res) := by
              rw [Hid, HITM.out]
              dsimp only
              rw [if_neg (fun e => y93 (by rw [HXC2.out, e]; rfl)), if_pos (show c2 = 44 from UInt8.toNat_inj.1 (HXC2.out.symm.trans y44))]
            clear y93 y44 cJ2 t3
            go_wp2
            go_roundw
            case rel => 
              refine ⟨j2 + 1, f, L ++ [gx], _, _, _, by go_num, HJL2.out, ?_, ?_, HSTN, ?_, SA⟩
              · rw [Hid]; have h1 := HIK.out; have h2 := P1.out; have h3 := HPJ.out; omega
              · rw [Hid]; have h1 := HF.out; have h2 := P1.out; have h3 := HPJ.out; have h4 := HJL2.out; omega
              · rw [Hid, List.length_append, List.length_singleton]; have h1 := HLLK.out; have h2 := P1.out; have h3 := HPJ.out; omega
            case measure =>
              have h2 := P1.out
              have h3 := HPJ.out
              have h4 := HJL2.out
              show n + 1 - (((j2 + 1 : Nat) : Int)).toNat < n + 1 - ((k : Int)).toNat
              omega
          · have t4 : ((x2 : Int) != 44) = true := by simp; omega
            have HM : Hid (res = .err 8) := by
              rw [Hid, HITM.out]
              dsimp only
              rw [if_neg (fun e => y93 (by rw [HXC2.out, e]; rfl)), if_neg (fun e => y44 (by rw [HXC2.out, e]; rfl))]
            clear y93 y44
            go_wp2_with (refine wpList_store_blk rfl 27 (.tmp 6) (.tmp 153) rfl g6 _ rfl rfl 27 _ SA.out.k6 Tryz.sizeV rfl (by decide) ?_; intro w9 hb9 ho9)
            exact bodyPost_ret (results_cell3 rfl _ _ g6 _ _ _ _ rfl hb9 Tryz.underlying27 rfl Tryz.sizeV) rfl (by rw [HM.out]; exact ⟨rfl, by decide, SA.out.bel.trans (ho9.below SA.out.bel.size (by rw [HG6.out]; exact Nat.le_refl _))⟩)
        · have b0 : decide ((j2 : Int) < (n : Int)) = false := decide_eq_false (by omega)
          have b0p : ¬ (j2 : Int) < (n : Int) := by omega
          have b1 : decide ((n : Int) ≤ (j2 : Int)) = true := decide_eq_true (by omega)
          have b1p : (n : Int) ≤ (j2 : Int) := by omega
          have b3 : decide (n ≤ j2) = true := decide_eq_true (by omega)
          have HM : Hid (res = .err 8) := by
            rw [Hid, HITM.out, List.drop_eq_nil_of_le (by rw [← HN.out]; omega)]
          have b2p : n ≤ j2 := Nat.le_of_not_lt hjn2
          go_wp2_with (refine wpList_store_blk rfl 27 (.tmp 6) (.tmp 153) rfl g6 _ rfl rfl 27 _ SA.out.k6 Tryz.sizeV rfl (by decide) ?_; intro w9 hb9 ho9)
          exact bodyPost_ret (results_cell3 rfl _ _ g6 _ _ _ _ rfl hb9 Tryz.underlying27 rfl Tryz.sizeV) rfl (by rw [HM.out]; exact ⟨rfl, by decide, SA.out.bel.trans (ho9.below SA.out.bel.size (by rw [HG6.out]; exact Nat.le_refl _))⟩)

end Go.Proofs.YtbgadfaiehkanaaGreatDoor
