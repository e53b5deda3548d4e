/-
  THE WALK OF orloplaw11.FileAtomic: true, whatever the steps. Conditions: the tables of package sha lie as laid.
-/
import Derived.Test.YtgmhfianpdhnmaaGreatDoorPfD
namespace Go.Proofs.YtgmhfianpdhnmaaGreatDoor
open Go.RowKit Go.Maps
set_option linter.unusedVariables false
set_option maxRecDepth 100000


set_option maxHeartbeats 32000000 in
theorem fileAtomic_walk (W : World) (hL : Laid W) (v : Value) (l : List M.Do11) (hd : IsDos W v l) :
    Calls Tryz.prog 4 #[v] W fun e w' => e = .returned (.bool true) ∧ Below W.heap.size W w' := by
  have HD := Lib.hid hd
  obtain ⟨ao, cap, rfl, hc1, hc2, hcell⟩ := hd
  obtain ⟨nn, hnn⟩ : ∃ n, n = l.length := ⟨_, rfl⟩
  rw [← hnn] at hc1 HD ⊢
  have HNN : Hid (l.length = nn) := hnn.symm
  have HNL : Hid (nn ≤ maxLen) := Nat.le_trans hc1 hc2
  have HC := Lib.hid hcell
  have HL := Lib.hid hL
  have CA := Lib.hid (awake11_any W hL)
  clear hcell hc1 hc2 hnn hL
  go_enter Tryz.func4, Tryz.ntmps4
  go_wp2_with fail
  refine CA.out.mono ?_
  rintro e w1 ⟨rfl, k1⟩
  have K1 := Lib.hid k1
  have CS := Lib.hid (small11_any _ l w1 (HD.out.below k1))
  clear CA k1
  go_wp2_with fail
  refine CS.out.mono ?_
  rintro e w2 ⟨rfl, rfl⟩
  clear CS
  obtain ⟨sm, hsm⟩ : ∃ b, b = M.smallDos l := ⟨_, rfl⟩
  rw [← hsm]
  cases sm with
  | false =>
    clear hsm
    go_wp2
    go_ret
    exact ⟨rfl, K1.out⟩
  | true =>
    have HSM : Hid (M.smallDos l = true) := hsm.symm
    clear hsm
    have CN := Lib.hid (dst_new (R := fun _ => False) 174 (by decide) K1.out (fun k h => h.elim))
    go_wp2_with fail
    refine CN.out.mono ?_
    rintro e w3 ⟨g, rfl, d3, k3⟩
    have CO := Lib.hid (fine_new (n := 174) d3 HL.out (by decide) (by decide))
    clear CN d3 k3
    go_wp2_with fail
    refine CO.out.mono ?_
    rintro e w4 ⟨-, gf, rfl, f4⟩
    obtain ⟨w5, hw5⟩ : ∃ x, Hid (x = w4.alloc (.cells #[.slice none 0 0, .int .i64 100] 32)) := ⟨_, rfl⟩
    obtain ⟨gr, hgr⟩ : ∃ x, Hid (x = w4.heap.size) := ⟨_, rfl⟩
    have k5 : Below w4.heap.size w4 w5 := by rw [hw5.out]; exact (Below.refl _ _).alloc (Nat.le_refl _) _
    have b5 : RefAt11 w5 gr (.slice none 0 0) ((100 : Nat) : Int) := by rw [hw5.out]; exact Blk.newAt _ _ _ _ _ hgr.out rfl
    have hgr' := hgr.out
    have hlt5 := b5.lt
    have ST : Hid (Plays W w5 g gf gr 100) := ⟨[], _, fun _ => False, _, [], f4.below k5, b5, IsFs.nil _ _, .inr ⟨by omega, hlt5⟩, fun k hk => hk.elim, fun h => h⟩
    clear CO f4 k5 b5 hgr' hlt5
    go_upto_region 8 with fail
    rw [← hw5.out, ← hgr.out]
    clear hw5 hgr
    go_wp2
    go_loopw [4, 5, 6] (fun vf vr vi wr => ∃ (k gf gr : Nat), vf = .pointer (some ⟨gf, 0, none⟩) ∧ vr = .pointer (some ⟨gr, 0, none⟩) ∧ vi = .int .i64 (k : Int) ∧ Hid (k ≤ nn ∧ k ≤ 14) ∧ Hid (Plays W wr g gf gr 100))
      (fun _ _ vi _ => 14 - numOf vi)
    case atStart => exact ⟨0, gf, gr, rfl, rfl, rfl, ⟨Nat.zero_le _, Nat.zero_le _⟩, ST⟩
    case round =>
      clear ST
      obtain ⟨wz, rfl⟩ : ∃ x, x = wr := ⟨_, rfl⟩
      obtain ⟨k, gf, gr, rfl, rfl, rfl, hk, st⟩ := hrel
      obtain ⟨F, R, S, fv, xs, b⟩ := st.out
      have B6 := Lib.hid b
      have U := Lib.hid b.fine.under
      clear st b
      by_cases hgo : k < nn ∧ k < 14
      · have b1 : (k : Int) < nn := by omega
        have b2 : (k : Int) < 14 := by omega
        obtain ⟨tb, tf, rfl, hc⟩ := HC.out.resolve_left (fun e => by have := HNN.out; rw [e] at this; simp at this; omega)
        obtain ⟨cs, ⟨lo, lc, ys, ko, kc, ecs, hfl, hz, _, hfr, hnl⟩, cc⟩ := hc k (by rw [HNN.out]; exact hgo.1)
        obtain ⟨q, hq⟩ : ∃ t, t = l.getD k M.Do11.none := ⟨_, rfl⟩
        have HSMK := Lib.hid (M.smallDos_get l HSM.out k (by rw [HNN.out]; exact hgo.1) hgo.2)
        rw [← hq] at ecs hfl hnl HSMK
        obtain ⟨kd, hkd⟩ : ∃ x, x = q.kind := ⟨_, rfl⟩
        obtain ⟨fl, hfall⟩ : ∃ x, x = q.fall := ⟨_, rfl⟩
        obtain ⟨ll, hll⟩ : ∃ x, x = q.list := ⟨_, rfl⟩
        obtain ⟨nm, hnm⟩ : ∃ x, x = q.name := ⟨_, rfl⟩
        obtain ⟨n1, hn1⟩ : ∃ n, n = ll.length := ⟨_, rfl⟩
        rw [← hq] at hz hfr
        obtain ⟨kn, hkn⟩ : ∃ n, n = q.keep.length := ⟨_, rfl⟩
        obtain ⟨s, hs⟩ : ∃ s : ByteArray, s = ⟨nm.toArray⟩ := ⟨_, rfl⟩
        rw [← hkd, ← hfall, ← hll, ← hnm, ← hn1, ← hkn, ← hs] at ecs
        rw [← hfall] at hfr
        rw [← hkn] at hz
        have HZ := Lib.hid hz
        have HFR := Lib.hid hfr
        rw [← hll, ← hn1] at hfl
        rw [← hll] at HSMK
        rw [← hnm] at hnl
        have HFLi := Lib.hid hfl
        have HNM := Lib.hid hnl
        have HS := Lib.hid hs
        have HN1 : Hid (ll.length = n1) := hn1.symm
        have RG : Hid (∀ w', Below W.heap.size W w' → w'.rangeAt tb (tf + k * 5) [.int .i64 kd, .slice lo n1 lc, .string s, .int .i64 fl, .slice ko kn kc]) := fun w' kw j v hj => by
          have hj6 : j < 5 := (List.getElem?_eq_some_iff.1 hj).1
          have h := cc j hj6
          rw [ecs, List.getD_eq_getElem?_getD, hj] at h
          exact (kw.cell (p := ⟨tb, tf + k * 5 + j, none⟩) (World.block_lt_of_cell? W _ h)).trans h
        have g1 : Hid (wrap64 ((k : Int) + 1) = ((k + 1 : Nat) : Int)) := by rw [Hid]; unfold wrap64; omega
        have g2 : (0 : Int) ≤ (k : Int) := Int.natCast_nonneg k
        have g3 : ((k : Int)).toNat = k := Int.toNat_natCast k
        have HGO := Lib.hid hgo
        have HK2 : Hid (k + 1 ≤ nn ∧ k + 1 ≤ 14) := hgo
        clear hc hq hkd hfall hll hnm hn1 hkn hs cc ecs hfl hz hfr hnl hgo hk
        have R6 := Lib.hid (RG.out wz B6.out.fine.under)
        obtain ⟨W1, hW1⟩ : ∃ x, Hid (x = wz.alloc (.cells #[.int .i64 kd, .slice lo n1 lc, .string s, .int .i64 fl, .slice ko kn kc] 37)) := ⟨_, rfl⟩
        obtain ⟨G, hG⟩ : ∃ x, Hid (x = wz.heap.size) := ⟨_, rfl⟩
        go_upto_region 14 with (refine wpList_load_mid rfl 37 (.tmp 35) rfl tb (tf + k * 5) rfl _ _ R6.out Tryz.underlying37 rfl (by kernel_rfl) ?_)
        rw [← hW1.out, ← hG.out]
        have kW : Below wz.heap.size wz W1 := by rw [hW1.out]; exact (Below.refl _ _).alloc (Nat.le_refl _) _
        have BW : Blk W1 G 37 [.int .i64 kd, .slice lo n1 lc, .string s, .int .i64 fl, .slice ko kn kc] := by rw [hW1.out]; exact Blk.newAt _ _ _ _ _ hG.out rfl
        have hG' := hG.out
        have hGl := BW.lt
        have B7 := Lib.hid (B6.out.below kW)
        have HBW := Lib.hid BW
        have HGG : Hid (wz.heap.size ≤ G ∧ G < W1.heap.size) := ⟨by omega, hGl⟩
        have HBO : Hid (F.length ≤ 64 ∧ (∀ q ∈ F, q.data.length ≤ 1099511627776)) := ⟨B6.out.fine.few, B6.out.fine.data⟩
        clear kW BW hW1 hG hG' hGl R6 B6 g2 g3 b1 b2
        have CP := Lib.hid B7.out.copy
        go_wp2_with fail
        refine CP.out.mono ?_
        rintro e w8 ⟨gn, R8, rfl, k8, hge, hne, f8, ro8, rn8, hR8, hfr8⟩
        obtain ⟨r, hr⟩ : ∃ r, r = M.fcode ((100 : Nat) : Int) F ll := ⟨_, rfl⟩
        obtain ⟨F2, hF2⟩ : ∃ F2, F2 = if r = 0 then M.fapply F ll else F := ⟨_, rfl⟩
        have HR := Lib.hid hr
        have HF2 := Lib.hid hF2
        have HBG8 := HBW.out.below k8 HBW.out.lt
        have BG8 := Lib.hid HBG8
        have HGN : Hid (G ≠ gn) := by rw [Hid]; have := HGG.out.2; omega
        have HRG : Hid (R8 G) := hR8 G (.inr HGG.out)
        have c1 : w8.cell? ⟨G, 1, none⟩ = some (.slice lo n1 lc) := HBG8.cell 1
        have hll80 := HSMK.out.1.1
        have BF : Hid (F.length ≤ 1000 ∧ (∀ q ∈ F, q.data.length ≤ 1099511627776)) := ⟨by have := HBO.out.1; omega, HBO.out.2⟩
        have BF2 : Hid (F2.length ≤ 1000 ∧ (∀ q ∈ F2, q.data.length ≤ 1099511627776)) := by
          rw [Hid, hF2]
          split
          · have h := M.fapply_bound (l := ll) 1099511627776 64 HBO.out.1 HBO.out.2 (M.small_data HSMK.out.1)
            exact ⟨by omega, h.2⟩
          · exact BF.out
        have CC := Lib.hid (copy_commit f8 ro8 rn8 hne (.slice lo n1 lc) ll ys (HFLi.out.below f8.under) (by omega) (M.small_data HSMK.out.1) r hr hF2 hfr8)
        clear CP k8 hge hne f8 ro8 rn8 hR8 hfr8 hr hF2 HBG8 B7 hll80 HBO
        go_wp2_with fail
        refine CC.out.mono ?_
        rintro e w9 ⟨rfl, c9, R9, f9, ro9, rn9, hR9⟩
        have HBG9 : Blk w9 G _ _ := BG8.out.chg c9 HGN.out
        have BG9 := Lib.hid HBG9
        have HRG9 : Hid (R9 G) := hR9 G HRG.out
        have c3 : w9.cell? ⟨G, 3, none⟩ = some (.int .i64 fl) := HBG9.cell 3
        have CM := Lib.hid (f9.arm fl HFR.out)
        have RO9 := Lib.hid ro9
        have RN9 := Lib.hid rn9
        clear CC c9 f9 ro9 rn9 hR9 HBG9 BG8 HRG c1
        go_wp2_with fail
        refine CM.out.mono ?_
        rintro e wA ⟨rfl, farA, fA⟩
        have HBGA : Blk wA G _ _ := farA.blk BG9.out HRG9.out
        have BGA := Lib.hid HBGA
        have c1 : wA.cell? ⟨G, 1, none⟩ = some (.slice lo n1 lc) := HBGA.cell 1
        have ROA := Lib.hid (RO9.out.far farA)
        have RNA := Lib.hid (RN9.out.far farA)
        have hll80 := HSMK.out.1.1
        have CC := Lib.hid (fA.commit HL.out (.slice lo n1 lc) ll ys (fun x c => HFLi.out.below (fA.under.trans (Chg.below c fA.under.size fun _ h => h.2))) (by omega) (M.small_data HSMK.out.1) r HR.out F2 HF2.out)
        have HR11 : Hid (r ≠ 11) := by rw [Hid, HR.out]; exact M.fcode_ne
        clear CM farA fA HBGA BG9 RO9 RN9 c3 hll80
        go_wp2_with fail
        refine CC.out.mono ?_
        rintro e wB ⟨farB, hcase⟩
        have HBGB : Blk wB G _ _ := farB.blk BGA.out HRG9.out
        have c4 : wB.cell? ⟨G, 4, none⟩ = some (.slice ko kn kc) := HBGB.cell 4
        have ROB := Lib.hid (ROA.out.far farB)
        have RNB := Lib.hid (RNA.out.far farB)
        clear CC farB HBGB BGA ROA RNA c1
        rcases hcase with ⟨rfl, kk, hA⟩ | ⟨hr0, rfl, hC⟩
        · have CR := Lib.hid (hA.crash (.slice ko kn kc) _ HZ.out)
          clear hA
          by_cases h0 : r = 0
          · subst h0
            go_wp2_with fail
            refine CR.out.mono ?_
            rintro e wF ⟨rfl, farF, hcr⟩
            have HRO := Lib.hid (ROB.out.far farF)
            have HRN := Lib.hid (RNB.out.far farF)
            clear CR farF ROB RNB c4
            have RF := Lib.hid hcr
            clear hcr
            have CO := Lib.hid (RF.out.open_ HL.out)
            clear RF
            go_wp2_with fail
            refine CO.out.mono ?_
            rintro e wG ⟨farG, gf9, Gx, rfl, hGx, fG⟩
            have RO := Lib.hid (HRO.out.far farG)
            have RN := Lib.hid (HRN.out.far farG)
            have FG := Lib.hid fG
            have HGX := Lib.hid hGx
            clear CO farG fG HRO HRN hGx
            have hGx : Gx = F2 := HGX.out.elim id id
            subst hGx
            have CS := Lib.hid (RN.out.same FG.out BF2.out.1 BF2.out.2 true (by simp))
            go_wp2_with fail
            refine CS.out.mono ?_
            rintro e wH ⟨rfl, kH⟩
            have ST : Hid (Plays W wH g gf9 gn 100) := (RN.out.far (Far.of_below (w0 := W) kH)).plays (FG.out.see kH)
            clear CS kH RO RN FG
            have G1 := g1.out
            go_wp2
            go_roundw
            case rel => exact ⟨k + 1, gf9, gn, rfl, rfl, by first | rfl | rw [g1.out], HK2.out, ST⟩
            case measure =>
              have := HGO.out.2
              try rw [g1.out]
              show 14 - (((k + 1 : Nat) : Int)).toNat < 14 - ((k : Int)).toNat
              omega
          · have h1 : (r != 0) = true := by simpa using h0
            have h2 : (r == 0) = false := by simpa using h0
            have h3 : (r == 11) = false := by simpa using HR11.out
            have h4 : ¬ r = 11 := HR11.out
            have hF : F2 = F := by rw [HF2.out, if_neg h0]
            rw [hF] at CR
            clear hF
            go_wp2_with fail
            refine CR.out.mono ?_
            rintro e wF ⟨rfl, farF, hcr⟩
            have HRO := Lib.hid (ROB.out.far farF)
            have HRN := Lib.hid (RNB.out.far farF)
            clear CR farF ROB RNB c4
            have RF := Lib.hid hcr
            clear hcr
            have CO := Lib.hid (RF.out.open_ HL.out)
            clear RF
            go_wp2_with fail
            refine CO.out.mono ?_
            rintro e wG ⟨farG, gf9, Gx, rfl, hGx, fG⟩
            have RO := Lib.hid (HRO.out.far farG)
            have RN := Lib.hid (HRN.out.far farG)
            have FG := Lib.hid fG
            have HGX := Lib.hid hGx
            clear CO farG fG HRO HRN hGx
            have hGx : Gx = F := HGX.out.elim id id
            subst hGx
            have CS := Lib.hid (RO.out.same FG.out BF.out.1 BF.out.2 true (by simp))
            go_wp2_with fail
            refine CS.out.mono ?_
            rintro e wH ⟨rfl, kH⟩
            have ST : Hid (Plays W wH g gf9 gr 100) := (RO.out.far (Far.of_below (w0 := W) kH)).plays (FG.out.see kH)
            clear CS kH RO RN FG
            have G1 := g1.out
            go_wp2
            go_roundw
            case rel => exact ⟨k + 1, gf9, gr, rfl, rfl, by first | rfl | rw [g1.out], HK2.out, ST⟩
            case measure =>
              have := HGO.out.2
              try rw [g1.out]
              show 14 - (((k + 1 : Nat) : Int)).toNat < 14 - ((k : Int)).toNat
              omega
        · subst hr0
          have D1 := Lib.hid (hC.down (.slice none 0 0))
          have D2 := Lib.hid (hC.down2 (.string ⟨#[97]⟩))
          have CR := Lib.hid (hC.crash (.slice ko kn kc) _ HZ.out)
          clear hC
          go_wp2_with fail
          refine D1.out.mono ?_
          rintro e wC ⟨rfl, rfl⟩
          go_wp2_with fail
          refine D2.out.mono ?_
          rintro e wD ⟨rfl, rfl⟩
          clear D1 D2
          go_wp2_with fail
          refine CR.out.mono ?_
          rintro e wF ⟨rfl, farF, hcr⟩
          have HRO := Lib.hid (ROB.out.far farF)
          have HRN := Lib.hid (RNB.out.far farF)
          clear CR farF ROB RNB c4
          have RF := Lib.hid hcr
          clear hcr
          have CO := Lib.hid (RF.out.open_ HL.out)
          clear RF
          go_wp2_with fail
          refine CO.out.mono ?_
          rintro e wG ⟨farG, gf9, Gx, rfl, hGx, fG⟩
          have RO := Lib.hid (HRO.out.far farG)
          have RN := Lib.hid (HRN.out.far farG)
          have FG := Lib.hid fG
          have HGX := Lib.hid hGx
          clear CO farG fG HRO HRN hGx
          by_cases h2 : Gx = F2
          · have CS := Lib.hid (RN.out.same FG.out BF2.out.1 BF2.out.2 true (by rw [decide_eq_true h2]))
            go_wp2_with fail
            refine CS.out.mono ?_
            rintro e wI ⟨rfl, kI⟩
            have FG2 := Lib.hid (FG.out.see kI)
            have RN2 := Lib.hid (RN.out.far (Far.of_below (w0 := W) kI))
            have RO2 := Lib.hid (RO.out.far (Far.of_below (w0 := W) kI))
            clear CS kI RO RN FG
            obtain ⟨RO, RN, FG⟩ : Hid (RefIn wI gr 100 F R9) ∧ Hid (RefIn wI gn 100 F2 R9) ∧ Hid (Fine W wI g gf9 100 Gx R9) := ⟨RO2.out, RN2.out, FG2.out⟩
            clear RO2 RN2 FG2
            have hGx : Gx = F2 := h2
            clear h2
            subst hGx
            have CS := Lib.hid (RN.out.same FG.out BF2.out.1 BF2.out.2 true (by simp))
            go_wp2_with fail
            refine CS.out.mono ?_
            rintro e wH ⟨rfl, kH⟩
            have ST : Hid (Plays W wH g gf9 gn 100) := (RN.out.far (Far.of_below (w0 := W) kH)).plays (FG.out.see kH)
            clear CS kH RO RN FG
            have G1 := g1.out
            go_wp2
            go_roundw
            case rel => exact ⟨k + 1, gf9, gn, rfl, rfl, by first | rfl | rw [g1.out], HK2.out, ST⟩
            case measure =>
              have := HGO.out.2
              try rw [g1.out]
              show 14 - (((k + 1 : Nat) : Int)).toNat < 14 - ((k : Int)).toNat
              omega
          · have hGx : Gx = F := HGX.out.resolve_right h2
            have CS := Lib.hid (RN.out.same FG.out BF2.out.1 BF2.out.2 false (by rw [decide_eq_false h2]))
            clear h2
            go_wp2_with fail
            refine CS.out.mono ?_
            rintro e wI ⟨rfl, kI⟩
            have FG2 := Lib.hid (FG.out.see kI)
            have RN2 := Lib.hid (RN.out.far (Far.of_below (w0 := W) kI))
            have RO2 := Lib.hid (RO.out.far (Far.of_below (w0 := W) kI))
            clear CS kI RO RN FG
            obtain ⟨RO, RN, FG⟩ : Hid (RefIn wI gr 100 F R9) ∧ Hid (RefIn wI gn 100 F2 R9) ∧ Hid (Fine W wI g gf9 100 Gx R9) := ⟨RO2.out, RN2.out, FG2.out⟩
            clear RO2 RN2 FG2
            subst hGx
            have CS := Lib.hid (RO.out.same FG.out BF.out.1 BF.out.2 true (by simp))
            go_wp2_with fail
            refine CS.out.mono ?_
            rintro e wH ⟨rfl, kH⟩
            have ST : Hid (Plays W wH g gf9 gr 100) := (RO.out.far (Far.of_below (w0 := W) kH)).plays (FG.out.see kH)
            clear CS kH RO RN FG
            have G1 := g1.out
            go_wp2
            go_roundw
            case rel => exact ⟨k + 1, gf9, gr, rfl, rfl, by first | rfl | rw [g1.out], HK2.out, ST⟩
            case measure =>
              have := HGO.out.2
              try rw [g1.out]
              show 14 - (((k + 1 : Nat) : Int)).toNat < 14 - ((k : Int)).toNat
              omega
      · by_cases hlt : k < nn
        · have b1 : (k : Int) < nn := by omega
          have b2 : ¬ (k : Int) < 14 := by omega
          clear hgo hlt hk B6
          go_wp2
          go_ret
          exact ⟨rfl, U.out⟩
        · have b1 : ¬ (k : Int) < nn := by omega
          clear hgo hlt hk B6
          go_wp2
          go_ret
          exact ⟨rfl, U.out⟩

end Go.Proofs.YtgmhfianpdhnmaaGreatDoor
