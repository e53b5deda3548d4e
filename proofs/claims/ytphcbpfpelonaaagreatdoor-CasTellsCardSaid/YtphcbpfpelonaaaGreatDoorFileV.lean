/-
  THE CONTRACT OF Files.put. Conditions: all lies so, and lasts while the disk turns.
-/
import Derived.Test.YtphcbpfpelonaaaGreatDoorPf26
import Derived.Test.YtphcbpfpelonaaaGreatDoorFileF
namespace Go.Proofs.YtphcbpfpelonaaaGreatDoor
open Go.RowKit Go.Maps
set_option linter.unusedVariables false
set_option maxRecDepth 100000

/-- What put makes of the disk. -/
noncomputable def M.putP (t : M.Tab) (l : M.FL) : M.Dsk → M.Dsk × Int := M.phases [M.writes (M.putWs t l), M.Dsk.doSync, fun m => M.commit M.decJ M.headOf m (M.metaCL t)]

theorem M.phases_one (p : M.Dsk → M.Dsk × Int) (m : M.Dsk) : M.phases [p] m = p m := by
  rw [M.phases]
  split
  · rename_i h
    rw [M.phases, ← h]
  · rfl

/-- What put needs to stand. -/
def PutK (gf gw g mb0 : Nat) (dn : Bool) (tb : Nat) (t : M.Tab) (vs : List Value) (lv : Value) (l : M.FL) (xs : List Value) (x : World) : Prop := FilesAt x gf gw mb0 dn ∧ WalIs x gw g ∧ IsTabV x tb t vs ∧ IsFL x lv l xs ∧ Laid x

/-- Each change's file lies in the table as it must. -/
def M.PutFits (n : Nat) (t : M.Tab) (l : M.FL) : Prop := ∀ c ∈ l, c.gone = false → ∃ i, i < t.length ∧ (t.getD i default).nm = c.nm ∧ M.bsOf t c.nm = (t.getD i default).bs ∧ (t.getD i default).bs.length = M.need c.data.length ∧ ∀ b ∈ (t.getD i default).bs, 74 + b < n

set_option maxHeartbeats 16000000 in
theorem put_any {T : Nat → Prop} {w : World} {gf gw g mb0 tb : Nat} {dn : Bool} {m : M.Dsk} {t : M.Tab} {vs : List Value} {lv : Value} {l : M.FL} {xs : List Value} (d : CodeDk T w g m) (hK : Keeps T w (PutK gf gw g mb0 dn tb t vs lv l xs)) (h42 : 42 < m.safe.length) (hw : m.wait.length + (M.putWs t l).length < 90000) (hlen : l.length ≤ 10000) (hfit : TabFits t) (hin : M.PutFits m.safe.length t l) (hmay : M.May (m.safe.length - 42) (M.metaCL t)) :
    Calls Tryz.prog 29 #[.pointer (some ⟨gf, 0, none⟩), lv, .map (some tb)] w fun e w' => e = .returned (.int .i64 (M.putP t l m).2) ∧ Chg T w w' ∧ ∃ T', CodeDk T' w' g (M.putP t l m).1 ∧ ∀ k, T' k → T k ∨ w.heap.size ≤ k := by
  obtain ⟨ZC, hZC⟩ := make_run 256 (by decide)
  have hmk : ∀ w : World, (Instr.makeSlice 38 (.int .i64 256) (.int .i64 256)).run Tryz.prog w = .ok (.slice (some ⟨w.heap.size, 0, none⟩) 256 256) (w.alloc (.cells ZC 5)) := fun w => (hZC w).1
  have HZ : Hid (∀ w : World, Own (w.alloc (.cells ZC 5)) w.heap.size (.slice (some ⟨w.heap.size, 0, none⟩) 256 256) (List.replicate 256 0)) := fun w => (hZC w).2
  obtain ⟨ao, cap, rfl, -, -, -, -, -⟩ := hK.now.2.2.2.1
  obtain ⟨n, hn⟩ : ∃ n, n = l.length := ⟨_, rfl⟩
  have HN : Hid (l.length = n) := hn.symm
  have HLN : Hid (n ≤ 10000) := by rw [Hid, hn]; exact hlen
  rw [← hn] at hK ⊢
  obtain ⟨P, hP⟩ : ∃ P, Hid (P = M.putP t l m) := ⟨_, rfl⟩
  rw [← hP.out]
  obtain ⟨R, hR⟩ : ∃ R, Hid (R = M.writes (M.putWs t l) m) := ⟨_, rfl⟩
  have HPE : Hid (P = if R.2 = 0 then M.phases [M.Dsk.doSync, fun m => M.commit M.decJ M.headOf m (M.metaCL t)] R.1 else R) := by rw [Hid, hP.out, M.putP, M.phases, ← hR.out]
  obtain ⟨WL, hWL⟩ : ∃ z, Hid (z = m.wait.length + (M.putWs t l).length) := ⟨_, rfl⟩
  have HWL : Hid (WL < 90000) := by rw [Hid, hWL.out]; exact hw
  obtain ⟨nb, hnb⟩ : ∃ z, Hid (z = m.safe.length) := ⟨_, rfl⟩
  have H42 : Hid (42 < nb) := by rw [Hid, hnb.out]; exact h42
  have D := Lib.hid d
  have KK := Lib.hid hK
  have HFIT := Lib.hid hfit
  have HIN := Lib.hid hin
  have HMAY := Lib.hid hmay
  clear hZC d hK h42 hw hlen hfit hin hmay hn
  go_enter Tryz.func29, Tryz.ntmps29
  go_wp2
  go_loopw [16] (fun i wr => ∃ (k : Nat) (m' : M.Dsk) (T' : Nat → Prop), i = .int .i64 (k : Int) ∧ Hid (k ≤ n) ∧ Hid (m'.wait.length + (M.putWs t (l.drop k)).length ≤ WL ∧ m'.safe.length = nb) ∧ Hid (M.writes (M.putWs t (l.drop k)) m' = R) ∧ Hid (CodeDk T' wr g m') ∧ Hid (Chg T w wr) ∧ Hid (∀ k, T' k → T k ∨ w.heap.size ≤ k) ∧ Hid (Keeps T' wr (PutK gf gw g mb0 dn tb t vs (.slice ao n cap) l xs)))
    (fun i _ => n - numOf i)
  case atStart => exact ⟨0, m, T, rfl, Nat.zero_le _, by rw [List.drop_zero]; exact ⟨Nat.le_of_eq hWL.out.symm, hnb.out.symm⟩, by rw [List.drop_zero]; exact hR.out.symm, D.out, Chg.refl _ _, fun k h => .inl h, KK.out⟩
  case round =>
    obtain ⟨wz, rfl⟩ : ∃ x, x = wr := ⟨_, rfl⟩
    obtain ⟨k, m', T', rfl, hk, hwl, hr, dz, cz, tz, kz⟩ := hrel
    by_cases hlt : k < n
    · have b1 : (k : Int) < (n : Int) := by omega
      have HK := Lib.hid hlt
      have hkl : k < l.length := by rw [HN.out]; exact hlt
      have hpw := M.putWs_drop t l k hkl
      obtain ⟨lb, lo, rfl, c0, c1, c2, ib, inil, hnm⟩ := kz.out.now.2.2.2.1.at_ k hkl
      have hci := HIN.out (l.getD k default) (by rw [List.getD_eq_getElem?_getD, List.getElem?_eq_getElem hkl]; exact List.getElem_mem _)
      obtain ⟨c, hc⟩ : ∃ c, c = l.getD k default := ⟨_, rfl⟩
      rw [← hc] at c0 c2 ib hnm hpw hci
      obtain ⟨da, dc, hdv⟩ := ib.shape
      obtain ⟨dl, hdl⟩ : ∃ z, z = c.data.length := ⟨_, rfl⟩
      rw [hdv, ← hdl] at c1
      obtain ⟨gone, hgone⟩ : ∃ z, z = c.gone := ⟨_, rfl⟩
      rw [← hgone] at c2 hpw hci
      obtain ⟨nm, hnm0⟩ : ∃ s : ByteArray, s = ⟨c.nm.toArray⟩ := ⟨_, rfl⟩
      rw [← hnm0] at c0
      obtain ⟨w1, hw1⟩ : ∃ x, Hid (x = wz.alloc (.cells #[.string nm, .slice da dl dc, .bool gone] 58)) := ⟨_, rfl⟩
      obtain ⟨x1, hx1⟩ : ∃ x, Hid (x = wz.heap.size) := ⟨_, rfl⟩
      have K1 : Hid (Below wz.heap.size wz w1) := by rw [hw1.out]; exact (Below.refl _ _).alloc (Nat.le_refl _) _
      have B1 : Hid (Blk w1 x1 58 [.string nm, .slice da dl dc, .bool gone]) := by rw [hw1.out]; exact Blk.newAt _ _ _ _ _ hx1.out rfl
      have d2 := B1.out.cell 2
      have d0 := B1.out.cell 0
      simp only [List.getElem?_cons_zero, List.getElem?_cons_succ] at d0 d2
      have DZ1 := Lib.hid (dz.out.below K1.out)
      have CZ1 : Hid (Chg T w w1) := cz.out.trans (Chg.of_below (F := fun _ => False) K1.out) fun _ _ h => h.elim
      have KZ1 := Lib.hid (kz.out.below K1.out)
      have KB1 : Hid (Keeps T' w1 (fun x => Blk x x1 58 [.string nm, .slice da dl dc, .bool gone])) := fun x cx => B1.out.chg cx fun h => by have h1 := dz.out.there x1 h; have h2 := hx1.out; omega
      have g2 : (0 : Int) ≤ (k : Int) := Int.natCast_nonneg k
      have g3 : ((k : Int)).toNat = k := Int.toNat_natCast k
      have n3 : wrap64 ((k : Int) + 1) = ((k + 1 : Nat) : Int) := by have := HLN.out; unfold wrap64; omega
      have N3 := Lib.hid n3
      have HNM := Lib.hid hnm0
      have HPW := Lib.hid hpw
      have HCI := Lib.hid hci
      have HDL := Lib.hid hdl
      have HDV := Lib.hid hdv
      have HCC := Lib.hid hc
      have HKL := Lib.hid hkl
      clear hc hdv hgone hnm0 n3 hkl hpw hci hdl kz dz
      cases gone with
      | true =>
        have e0 : M.putWs t (l.drop k) = M.putWs t (l.drop (k + 1)) := by rw [HPW.out, if_pos rfl, List.nil_append]
        have HWL2 : Hid (m'.wait.length + (M.putWs t (l.drop (k + 1))).length ≤ WL ∧ m'.safe.length = nb) := by rw [Hid, ← e0]; exact hwl.out
        have HR2 : Hid (M.writes (M.putWs t (l.drop (k + 1))) m' = R) := by rw [Hid, ← e0]; exact hr.out
        clear e0 hwl hr
        go_upto_region 4 with fail
        rw [← hw1.out, ← hx1.out]
        clear c0 c1 c2 hw1 hx1
        go_wp2
        go_roundw
        case rel => exact ⟨k + 1, m', T', by first | rw [N3.out] | rfl, HK.out, HWL2.out, HR2.out, DZ1.out, CZ1.out, tz.out, KZ1.out⟩
        case measure =>
          first | rw [N3.out] | skip
          exact step_down HK.out
      | false =>
        obtain ⟨pi, hpi, hpn, hpb, hpl, hp74⟩ := HCI.out rfl
        have IT := KZ1.out.now.2.2.1
        have hlk := IT.look (fun q hq => by have := HFIT.out.nm q hq; unfold maxLen; omega) pi hpi
        rw [hpn, ← HNM.out] at hlk
        obtain ⟨p, hp⟩ : ∃ p, p = t.getD pi default := ⟨_, rfl⟩
        have hI := IT.each pi hpi
        rw [← hp] at hlk hI hpb hpl hp74
        obtain ⟨sa, sc, esv⟩ := hI.shape
        obtain ⟨bn, hbn⟩ : ∃ z, z = p.bs.length := ⟨_, rfl⟩
        rw [plV, esv, ← hbn] at hlk
        have hfb := fun y => run_field_bs y (p.sz : Int) (.slice sa bn sc)
        obtain ⟨rest, hrest⟩ : ∃ z, z = M.putWs t (l.drop (k + 1)) := ⟨_, rfl⟩
        rw [if_neg (by decide), hpb, ← hrest] at HPW
        have HR0 := hr.out
        have HW0 := hwl.out
        rw [HPW.out] at HR0 HW0
        have hbn2 : bn = M.need dl := by rw [hbn, hpl, HDL.out]
        have HBN2 : Hid (256 * bn < dl + 256 ∧ bn ≤ 2048) := by
          have h1 := HFIT.out.len p (by rw [hp]; exact M.getD_mem hpi)
          rw [M.need] at hbn2
          rw [Hid]
          omega
        have HBN := Lib.hid hbn
        have HP := Lib.hid hp
        have HPI := Lib.hid hpi
        have H74 := Lib.hid hp74
        have ESV := Lib.hid esv
        have HREST := Lib.hid hrest
        have HR1 := Lib.hid HR0
        have HW1 := Lib.hid HW0
        clear hpn hpb hpl hp hI hbn hrest HR0 HW0 hbn2 esv IT hpi hp74 hwl hr
        go_upto_region 4 with fail
        rw [← hw1.out, ← hx1.out]
        clear c0 c1 c2 hw1 hx1
        go_wp2
        clear hlk hfb
        go_loopw [9, 10, 11, 12, 28] (fun _ _ _ _ i wr => ∃ (j : Nat) (m2 : M.Dsk) (T2 : Nat → Prop), i = .int .i64 (j : Int) ∧ Hid (j ≤ bn) ∧ Hid (m2.wait.length + (M.fileWs c.data (p.bs.drop j) j ++ rest).length ≤ WL ∧ m2.safe.length = nb) ∧ Hid (M.writes (M.fileWs c.data (p.bs.drop j) j ++ rest) m2 = R) ∧ Hid (CodeDk T2 wr g m2) ∧ Hid (Chg T w wr) ∧ Hid (∀ k, T2 k → T k ∨ w.heap.size ≤ k) ∧ Hid (Keeps T2 wr (PutK gf gw g mb0 dn tb t vs (.slice (some ⟨lb, lo, none⟩) n cap) l xs)) ∧ Hid (Keeps T2 wr (fun x => Blk x x1 58 [.string nm, .slice da dl dc, .bool false])))
          (fun _ _ _ _ i _ => bn - numOf i)
        case atStart => exact ⟨0, m', T', rfl, Nat.zero_le _, by rw [List.drop_zero]; exact HW1.out, by rw [List.drop_zero]; exact HR1.out, DZ1.out, CZ1.out, tz.out, KZ1.out, KB1.out⟩
        case round =>
          obtain ⟨wq, rfl⟩ : ∃ x, x = wr := ⟨_, rfl⟩
          obtain ⟨j, m2, T2, rfl, hj, hwl2, hr2, dq, cq, tq, kq, kb⟩ := hrel
          by_cases hjl : j < bn
          · have b2 : (j : Int) < (bn : Int) := by omega
            have HJ := Lib.hid hjl
            have hj2 : j < p.bs.length := by rw [← HBN.out]; exact hjl
            have hfw := M.fileWs_at c.data p.bs j hj2
            have hI := kq.out.now.2.2.1.each pi HPI.out
            rw [← HP.out, ESV.out] at hI
            obtain ⟨ao', cap', ee, i1, i2, i3⟩ := hI
            injection ee with e1 e2 e3
            obtain ⟨ib2, io, hib, hcb⟩ := i3.resolve_left (fun e => by rw [e] at hj2; cases hj2)
            rw [← e1] at hib
            subst hib
            have hxc := hcb j hj2
            have hmem : p.bs.getD j 0 ∈ p.bs := by rw [List.getD_eq_getElem?_getD, List.getElem?_eq_getElem hj2]; exact List.getElem_mem _
            have hx74 := H74.out _ hmem
            rw [← hnb.out] at hx74
            obtain ⟨x, hx⟩ : ∃ x, x = p.bs.getD j 0 := ⟨_, rfl⟩
            rw [← hx] at hxc hx74 hfw
            have ibd : IsB wq (xs.getD k undef) (l.getD k default).data := by
              obtain ⟨_, _, _, _, _, _, ibd, _, _⟩ := kq.out.now.2.2.2.1.at_ k HKL.out
              exact ibd
            rw [HDV.out, ← HCC.out] at ibd
            have hdlj : 256 * j < dl := by have := HBN2.out; omega
            obtain ⟨db, doff, rfl, hdc, hdcap⟩ : ∃ db doff, da = some ⟨db, doff, none⟩ ∧ (∀ i, i < dl → wq.cell? ⟨db, doff + i, none⟩ = some (.int .u8 ((c.data.getD i 0).toNat : Int))) ∧ dl ≤ dc := by
              obtain ⟨a1, cp1, ee, f1, f2, f3⟩ := ibd
              injection ee with e1 e2 e3
              rcases f3 with h | ⟨db, doff, h1, h2⟩
              · rw [HDL.out, h] at hdlj
                simp at hdlj
              · exact ⟨db, doff, e1.trans h1, fun i hi => h2 i (by rw [← HDL.out]; exact hi), by have := HDL.out; omega⟩
            have HDC := Lib.hid hdc
            have HDJ := Lib.hid hdlj
            have HX := Lib.hid hx
            have HX74 := Lib.hid hx74
            have hb1 := kb.out.now
            have d1 := hb1.cell 1
            simp only [List.getElem?_cons_zero, List.getElem?_cons_succ] at d1
            obtain ⟨w2, hw2⟩ : ∃ x, Hid (x = wq.alloc (.cells ZC 5)) := ⟨_, rfl⟩
            obtain ⟨mg, hmg⟩ : ∃ x, Hid (x = wq.heap.size) := ⟨_, rfl⟩
            have K2 : Hid (Below wq.heap.size wq w2) := by rw [hw2.out]; exact (Below.refl _ _).alloc (Nat.le_refl _) _
            have HD2 : Hid (Hd w2 mg 256 M.zero256) := by
              obtain ⟨g, cap, e, _, _, hd⟩ := (HZ.out wq).hd (by rw [List.length_replicate]; decide)
              injection e with e1 e2 e3
              injection e1 with e1
              injection e1 with e1
              rw [hw2.out, hmg.out, e1]
              rw [← e3] at hd
              exact hd
            have d1' : w2.cell? ⟨x1, 1, none⟩ = some (.slice (some ⟨db, doff, none⟩) dl dc) := (K2.out.cell (p := ⟨x1, 1, none⟩) (World.block_lt_of_cell? wq _ d1)).trans d1
            have g4 : (0 : Int) ≤ (j : Int) := Int.natCast_nonneg j
            have g5 : ((j : Int)).toNat = j := Int.toNat_natCast j
            have g6 : ¬ dc = j * 256 := by omega
            have g7 : ¬ (dl : Int) < (j : Int) * 256 := by omega
            have g8 : (j : Int) < 2048 := by have := HBN2.out; omega
            have HWB : Hid (x < 3000 ∧ m2.wait.length < 1000000) := by
              have h1 := dq.out.ok.few
              have h2 := hwl2.out
              have h3 := HWL.out
              rw [Hid]; omega
            have mhd := hmk wq
            rw [← hw2.out, ← hmg.out] at mhd
            clear hj2 i1 i2 i3 e1 e2 e3 hcb hmem hx hx74 ibd hdc hb1 hdlj
            go_upto_region 9 with fail
            rw [← hw2.out, ← hmg.out]
            obtain ⟨ys, hys⟩ : ∃ z, z = (c.data.drop (256 * j)).take 256 := ⟨_, rfl⟩
            have hyl : ys.length = min (dl - j * 256) 256 := by
              rw [hys, List.length_take, List.length_drop, ← HDL.out]
              omega
            have hz256 : M.zero256.length = 256 := List.length_replicate
            obtain ⟨cur, hb2, q1, q2, q3, q4⟩ := HD2.out
            have hsrc : ∀ (i : Nat) (u : Value), (Lib.byteCells ys)[i]? = some u → w2.cell? ((⟨db, doff + j * 256, none⟩ : Addr).add i) = some u := fun i u hu => by
              have hi : i < ys.length := by have := (List.getElem?_eq_some_iff.1 hu).1; rwa [byteCells_length] at this
              rw [byteCells_getElem? _ _ hi] at hu
              have h0 := HDC.out (256 * j + i) (by omega)
              rw [show doff + (256 * j + i) = doff + j * 256 + i by omega] at h0
              rw [Addr.add_lit, (K2.out.cell (p := ⟨db, doff + j * 256 + i, none⟩) (World.block_lt_of_cell? wq _ h0)).trans h0, ← hu, hys, List.getD_eq_getElem?_getD, List.getD_eq_getElem?_getD, List.getElem?_take, if_pos (by omega), List.getElem?_drop]
            have HYL := Lib.hid hyl
            have HYS := Lib.hid hys
            have HSRC := Lib.hid hsrc
            have HB2 := Lib.hid hb2
            have HQ := Lib.hid (And.intro q1 (And.intro q2 (And.intro q3 q4)))
            have hfz := Lib.hid hz256
            have HMG : Hid (wq.heap.size ≤ mg) := Nat.le_of_eq hmg.out.symm
            have HFW := Lib.hid hfw
            clear hfw
            clear hyl hys hsrc hb2 q1 q2 q3 q4 hz256 mhd hw2 hmg
            go_upto_region 10 with (refine wpList_copy_blk rfl (.tmp 34) (.tmp 39) 38 38 rfl 5 Tryz.underlying38 (by kernel_rfl) (some ⟨mg, 0, none⟩) (some ⟨db, doff + j * 256, none⟩) 256 256 (dl - j * 256) (dc - j * 256) rfl rfl mg 0 cur 5 HB2.out (Lib.byteCells ys) (by rw [byteCells_length]; exact HYL.out) (fun _ => ⟨rfl, _, rfl, HSRC.out⟩) (by rw [byteCells_length, HYL.out, HQ.out.1]; omega) (byteCells_oneCell _) ?_; intro w3 hb3 ho3)
            have hd3 := Hd.lay HQ.out.1 HQ.out.2.1 HQ.out.2.2.1 HQ.out.2.2.2 (by rw [hfz.out, HYL.out]; omega) hb3
            have eblk : M.zero256.take 0 ++ ys ++ M.zero256.drop (0 + ys.length) = M.blkB c.data j := by rw [HYS.out]; rfl
            rw [eblk] at hd3
            have hib3 := hd3.isB
            rw [M.blkB_length] at hib3
            have K13 : Hid (Below wq.heap.size wq w3) := K2.out.trans (ho3.below K2.out.size HMG.out)
            obtain ⟨blk, hblk⟩ : ∃ z, z = M.blkB c.data j := ⟨_, rfl⟩
            rw [← hblk] at hib3 HFW
            obtain ⟨q, hq⟩ : ∃ q, q = m2.doWrite ((42 + (32 + x) : Nat) : Int) blk := ⟨_, rfl⟩
            have hgrow := M.doWrite_grow m2 ((42 + (32 + x) : Nat) : Int) blk
            have h42x : 42 + (32 + x) < m2.safe.length := by have := hwl2.out.2; have := HX74.out; omega
            have CW := Lib.hid (wwrite10 (dq.out.below K13.out) (kq.out.now.2.1.below K13.out) HWB.out.2 (32 + x) h42x _ _ hib3)
            rw [← hq] at CW hgrow
            have hr3 := hr2.out
            have hwl3 := hwl2.out
            rw [HFW.out, List.cons_append, M.writes] at hr3
            rw [HFW.out, List.cons_append, List.length_cons] at hwl3
            rw [show 42 + (32 + x) = 74 + x by omega] at hq
            simp only at hr3
            rw [← hq] at hr3
            have e32 : wrap64 (32 + (x : Int)) = ((32 + x : Nat) : Int) := by have := HWB.out.1; unfold wrap64; omega
            have n3 : wrap64 ((j : Int) + 1) = ((j + 1 : Nat) : Int) := by clear e32; unfold wrap64; omega
            have N3 := Lib.hid n3
            have f0 := (kq.out.now.1.below K13.out).cell 0
            simp only [List.getElem?_cons_zero] at f0
            have HG := Lib.hid hgrow
            have HR3 := Lib.hid hr3
            have HW3 := Lib.hid hwl3
            have KQ3 := Lib.hid (kq.out.below K13.out)
            have KB3 := Lib.hid (kb.out.below K13.out)
            have CQ3 : Hid (Chg T w w3) := cq.out.trans (Chg.of_below (F := fun _ => False) K13.out) fun _ _ h => h.elim
            clear hd3 eblk hib3 hblk hq hgrow h42x hr3 hwl3 n3 hb3 ho3 d1 d1' hr2 hwl2 kq kb cq g6 g7
            go_wp2_with fail
            first | rw [e32] | skip
            refine CW.out.mono ?_
            rintro e w4 ⟨rfl, ch, T3, d3, t3⟩
            have KQ4 := Lib.hid (KQ3.out.next ch t3)
            have KB4 := Lib.hid (KB3.out.next ch t3)
            have CQ4 : Hid (Chg T w w4) := CQ3.out.trans ch fun k hk h => (tq.out k h).resolve_right (by omega)
            have TQ4 : Hid (∀ k, T3 k → T k ∨ w.heap.size ≤ k) := fun k h => by
              rcases t3 k h with h | h
              · exact tq.out k h
              · have := CQ3.out.size
                exact .inr (by omega)
            have D4 := Lib.hid d3
            obtain ⟨qc, hqc⟩ : ∃ z, z = q.2 := ⟨_, rfl⟩
            rw [← hqc] at HR3 ⊢
            have HQC := Lib.hid hqc
            clear hqc ch t3 d3 CW e32 f0 KQ3 KB3 CQ3
            by_cases h0 : qc = 0
            · have HR4 : Hid (M.writes (M.fileWs c.data (p.bs.drop (j + 1)) (j + 1) ++ rest) q.1 = R) := by have := HR3.out; rwa [if_pos h0] at this
              have HW4 : Hid (q.1.wait.length + (M.fileWs c.data (p.bs.drop (j + 1)) (j + 1) ++ rest).length ≤ WL ∧ q.1.safe.length = nb) := by
                have h1 := HG.out
                have h2 := HW3.out
                rw [Hid]
                omega
              subst h0
              go_wp2
              go_roundw
              case rel => exact ⟨j + 1, q.1, T3, by first | rw [N3.out] | rfl, HJ.out, HW4.out, HR4.out, D4.out, CQ4.out, TQ4.out, KQ4.out, KB4.out⟩
              case measure =>
                first | rw [N3.out] | skip
                exact step_down HJ.out
            · have hRq : q = R := by have := HR3.out; rwa [if_neg h0] at this
              have hPq : P = q := by
                rw [HPE.out, ← hRq, if_neg (by rw [← HQC.out]; exact h0)]
              have HPQ := Lib.hid hPq
              have z1 : (qc != 0) = true := by simpa using h0
              have z2 : (qc == 0) = false := by simpa using h0
              clear hRq hPq
              go_wp2
              go_ret
              exact ⟨by rw [HPQ.out, ← HQC.out]; rfl, CQ4.out, T3, by rw [HPQ.out]; exact D4.out, TQ4.out⟩
          · have b2 : ¬ (j : Int) < (bn : Int) := by omega
            obtain rfl : j = bn := by have := hj.out; omega
            have e0 : M.fileWs c.data (p.bs.drop j) j = [] := by rw [List.drop_of_length_le (by rw [← HBN.out]; exact Nat.le_refl _)]; rfl
            have HR4 : Hid (M.writes (M.putWs t (l.drop (k + 1))) m2 = R) := by have := hr2.out; rwa [e0, List.nil_append, HREST.out] at this
            have HW4 : Hid (m2.wait.length + (M.putWs t (l.drop (k + 1))).length ≤ WL ∧ m2.safe.length = nb) := by have := hwl2.out; rwa [e0, List.nil_append, HREST.out] at this
            clear e0 hjl
            go_wp2
            go_roundw
            case rel => exact ⟨k + 1, m2, T2, by first | rw [N3.out] | rfl, HK.out, HW4.out, HR4.out, dq.out, cq.out, tq.out, kq.out⟩
            case measure =>
              first | rw [N3.out] | skip
              exact step_down HK.out
    · have b1 : ¬ (k : Int) < (n : Int) := by omega
      obtain rfl : k = n := by have := hk.out; omega
      have hR0 := hr.out
      rw [List.drop_of_length_le (by rw [HN.out]; exact Nat.le_refl _)] at hR0
      have hRm : R = (m', 0) := hR0.symm
      have hPm : P = M.phases [M.Dsk.doSync, fun m => M.commit M.decJ M.headOf m (M.metaCL t)] m' := by rw [HPE.out, hRm, if_pos rfl]
      obtain ⟨sy, hsy⟩ : ∃ z, z = m'.doSync := ⟨_, rfl⟩
      have CS := Lib.hid (wsync10 dz.out kz.out.now.2.1)
      rw [← hsy] at CS
      rw [M.phases, ← hsy, M.phases_one] at hPm
      have hgs := M.grow_sync m'
      rw [← hsy] at hgs
      have HGS : Hid (sy.1.wait.length < 100000 ∧ sy.1.safe.length = nb) := by
        have h1 := hwl.out
        have h2 := HWL.out
        rw [Hid]; omega
      have HPM := Lib.hid hPm
      have f0 := kz.out.now.1.cell 0
      simp only [List.getElem?_cons_zero] at f0
      clear hR0 hRm hPm hsy hgs hwl hr hlt
      go_wp2_with fail
      refine CS.out.mono ?_
      rintro e w4 ⟨rfl, ch, T3, d3, t3⟩
      have KQ4 := Lib.hid (kz.out.next ch t3)
      have CQ4 : Hid (Chg T w w4) := cz.out.trans ch fun k hk h => (tz.out k h).resolve_right (by omega)
      have TQ4 : Hid (∀ k, T3 k → T k ∨ w.heap.size ≤ k) := fun k h => by
        rcases t3 k h with h | h
        · exact tz.out k h
        · have := cz.out.size
          exact .inr (by omega)
      have D4 := Lib.hid d3
      obtain ⟨qc, hqc⟩ : ∃ z, z = sy.2 := ⟨_, rfl⟩
      rw [← hqc] at HPM ⊢
      have HQC := Lib.hid hqc
      clear hqc ch t3 d3 CS f0 kz cz dz
      by_cases h0 : qc = 0
      · have hPc : P = M.commit M.decJ M.headOf sy.1 (M.metaCL t) := by have := HPM.out; rwa [if_pos h0] at this
        have HPC := Lib.hid hPc
        clear hPc
        subst h0
        have HG : Hid (∀ y, Below w4.heap.size w4 y → y.cell? ⟨gf, 0, none⟩ = some (.pointer (some ⟨gw, 0, none⟩))) := fun y ky => by
          have := (KQ4.out.now.1.below ky).cell 0
          simpa only [List.getElem?_cons_zero] using this
        go_upto_region 18 with fail
        refine wp_region_any (by kernel_rfl) ?_
        change wpAny _ _ _ _ _ _ _ (World.drew _)
        refine wpAny_of_held (S := fun w' => w'.cell? ⟨gf, 0, none⟩ = some (.pointer (some ⟨gw, 0, none⟩))) _ _ _ _ ?_
        have S0 : w4.drew.cell? ⟨gf, 0, none⟩ = some (.pointer (some ⟨gw, 0, none⟩)) := HG.out _ (drewN_below (Below.refl _ w4) 1)
        refine wpAnyH_take_at (i := 0) (v := .pointer (some ⟨gf, 0, none⟩)) rfl rfl (by kernel_rfl) (by kernel_rfl) (by kernel_rfl) (fun _ _ _ h => h) (Or.inl ⟨by rfl, fun w hS => by go_simp⟩) S0 ?_
        try simp only [List.setIfInBounds_toArray, List.set_cons_zero, List.set_cons_succ]
        refine wpAnyH_take_at (i := 1) (v := .pointer (some ⟨gf, 0, none⟩)) rfl rfl (by kernel_rfl) (by kernel_rfl) (by kernel_rfl) (fun _ _ _ h => h) (Or.inl ⟨by rfl, fun w hS => by go_simp⟩) S0 ?_
        try simp only [List.setIfInBounds_toArray, List.set_cons_zero, List.set_cons_succ]
        refine wpAnyH_take_at (i := 2) (v := .pointer (some ⟨gf, 0, none⟩)) rfl rfl (by kernel_rfl) (by kernel_rfl) (by kernel_rfl) (fun _ _ _ h => h) (Or.inl ⟨by rfl, fun w hS => by go_simp⟩) S0 ?_
        try simp only [List.setIfInBounds_toArray, List.set_cons_zero, List.set_cons_succ]
        refine wpAnyH_take_at (i := 3) (v := .pointer (some ⟨gw, 0, none⟩)) rfl rfl (by kernel_rfl) (by kernel_rfl) (by kernel_rfl) (fun _ _ _ h => h) (Or.inl ⟨by rfl, fun w hS => by have c := hS; go_simp⟩) S0 ?_
        try simp only [List.setIfInBounds_toArray, List.set_cons_zero, List.set_cons_succ]
        refine wpAnyH_take_at (i := 4) (v := .map (some tb)) rfl rfl (by kernel_rfl) (by kernel_rfl) (by kernel_rfl) (fun _ _ _ h => h) (Or.inl ⟨by rfl, fun w hS => by go_simp⟩) S0 ?_
        try simp only [List.setIfInBounds_toArray, List.set_cons_zero, List.set_cons_succ]
        refine wpAnyH_ready (rs := [5]) (by kernel_rfl) (by simp) ?_
        refine AllReadyH.cons rfl (fun K hK => ?_) AllReadyH.nil
        go_simp
        have KD : Below w4.heap.size w4 w4.drew := drewN_below (Below.refl _ w4) 1
        have KQ5 := KQ4.out.below KD
        refine (changes_any KQ5.now.2.2.1 HFIT.out KQ5.now.2.2.2.2).mono ?_
        rintro e w6 ⟨cv, ys, rfl, o6, k6⟩
        have K46 : Hid (Below w4.heap.size w4 w6) := KD.trans k6
        have KQ6 := KQ4.out.below K46.out
        have D6 := D4.out.below K46.out
        have KCL : Keeps T3 w6 (fun x => IsCL x cv (M.metaCL t) ys) := fun x cx => (o6.chg cx fun b h1 h2 h3 => by
          have h4 := D4.out.there b h1
          have h5 := KD.size
          omega).isCL
        have CC := Lib.hid (wal_calls.commit_yes D6 (KQ6.mono fun x h => h.2.2.2.2) (KQ6.mono fun x h => h.2.1) (by rw [HGS.out.2]; exact H42.out) HGS.out.1 cv (M.metaCL t) ys KCL (by rw [HGS.out.2, hnb.out]; exact HMAY.out))
        refine hK.out _ _ (HG.out _ K46.out) (fun _ => ?_)
        clear hK K S0 KD o6 k6 KCL KQ5
        refine wpAnyH_ready (rs := [6]) (by kernel_rfl) (by simp) ?_
        refine AllReadyH.cons rfl (fun K hK => ?_) AllReadyH.nil
        go_simp
        refine CC.out.mono ?_
        rintro e w7 ⟨rfl, ch, T4, d7, t7⟩
        have KQ7 := KQ6.next ch t7
        have HG7 : w7.cell? ⟨gf, 0, none⟩ = some (.pointer (some ⟨gw, 0, none⟩)) := by
          have := KQ7.now.1.cell 0
          simpa only [List.getElem?_cons_zero] using this
        have CQ7 : Hid (Chg T w w7) := (CQ4.out.trans (Chg.of_below (F := fun _ => False) K46.out) fun _ _ h => h.elim).trans ch fun k hk h => (TQ4.out k h).resolve_right (by omega)
        have TQ7 : Hid (∀ k, T4 k → T k ∨ w.heap.size ≤ k) := fun k h => by
          rcases t7 k h with h | h
          · exact TQ4.out k h
          · have h1 := CQ4.out.size
            have h2 := K46.out.size
            exact .inr (by omega)
        have D7 := Lib.hid d7
        obtain ⟨cc, hcc⟩ : ∃ z, z = (M.commit M.decJ M.headOf sy.1 (M.metaCL t)).2 := ⟨_, rfl⟩
        rw [← hcc]
        have HCC := Lib.hid hcc
        refine hK.out _ _ HG7 (fun _ => ?_)
        clear hK K KQ7 ch t7 d7 CC hcc
        refine wpAnyH_ready (rs := [7]) (by kernel_rfl) (by simp) ?_
        refine AllReadyH.cons rfl (fun K hK => ?_) AllReadyH.nil
        go_simp
        refine hK.out _ _ HG7 (fun _ => ?_)
        clear hK K
        refine wpAnyH_done (by kernel_rfl) ?_ _
        go_wp2
        go_ret
        exact ⟨by rw [HPC.out, ← HCC.out]; rfl, CQ7.out, T4, by rw [HPC.out]; exact D7.out, TQ7.out⟩
      · have hPq : P = sy := by have := HPM.out; rwa [if_neg h0] at this
        have HPQ := Lib.hid hPq
        have z1 : (qc != 0) = true := by simpa using h0
        have z2 : (qc == 0) = false := by simpa using h0
        clear hPq
        go_wp2
        go_ret
        exact ⟨by rw [HPQ.out, ← HQC.out]; rfl, CQ4.out, T3, by rw [HPQ.out]; exact D4.out, TQ4.out⟩

end Go.Proofs.YtphcbpfpelonaaaGreatDoor
