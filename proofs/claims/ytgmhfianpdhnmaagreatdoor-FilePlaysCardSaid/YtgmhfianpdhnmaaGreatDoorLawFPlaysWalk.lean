/-
  THE WALK OF orloplaw11.FilePlays: true, whatever the number of blocks and the steps. Conditions: the tables of package sha lie as laid.
-/
import Derived.Test.YtgmhfianpdhnmaaGreatDoorPfD
namespace Go.Proofs.YtgmhfianpdhnmaaGreatDoor
open Go.RowKit Go.Maps
set_option linter.unusedVariables false
set_option maxRecDepth 100000

set_option maxHeartbeats 32000000 in
theorem filePlays_walk (W : World) (hL : Laid W) (t : Nat) (ht8 : t < 256) (v : Value) (l : List M.Do11) (hd : IsDos W v l) :
    Calls Tryz.prog 3 #[.int .u8 (t : Int), v] W fun e w' => e = .returned (.bool true) ∧ Below W.heap.size W w' := by
  have HD := Lib.hid hd
  obtain ⟨ao, cap, rfl, hc1, hc2, hcell⟩ := hd
  obtain ⟨nn, hnn⟩ : ∃ n, n = l.length := ⟨_, rfl⟩
  rw [← hnn] at hc1 HD ⊢
  have HNN : Hid (l.length = nn) := hnn.symm
  have HNL : Hid (nn ≤ maxLen) := Nat.le_trans hc1 hc2
  have HC := Lib.hid hcell
  have HL := Lib.hid hL
  have CA := Lib.hid (awake11_any W hL)
  have w8 : IntKind.i64.wrap (t : Int) = (t : Int) := by rw [IntWalk.i64_in _ (by omega)]
  have w8' : wrap64 (t : Int) = (t : Int) := by unfold wrap64; omega
  have W8 := Lib.hid w8
  have W8' := Lib.hid w8'
  obtain ⟨u, hu⟩ : ∃ u, u = t % 200 := ⟨_, rfl⟩
  have HU : Hid ((t : Int).tmod 200 = (u : Int) ∧ (t : Int) % 200 = (u : Int)) := ⟨by clear w8 w8'; rw [Int.tmod_eq_emod_of_nonneg (by omega)]; omega, by clear w8 w8'; omega⟩
  have HUL : Hid (u < 200) := by rw [Hid]; clear w8 w8'; omega
  obtain ⟨N, hN⟩ : ∃ N, N = u + 1 := ⟨_, rfl⟩
  have HN : Hid (N = u + 1) := hN
  have N2 : Hid (((74 + N : Nat) : Int) = 74 + (1 + (u : Int)) ∧ (N : Int) = 1 + (u : Int)) := ⟨by clear w8 w8'; omega, by clear w8 w8'; omega⟩
  clear hcell hc1 hc2 hnn hL w8 w8' hu hN ht8
  go_enter Tryz.func3, Tryz.ntmps3
  go_wp2_with fail
  refine CA.out.mono ?_
  rintro e w1 ⟨rfl, k1⟩
  have K1 := Lib.hid k1
  have CS := Lib.hid (small11_any _ l w1 (HD.out.below k1))
  clear CA k1
  go_wp2_with fail
  refine CS.out.mono ?_
  rintro e w2 ⟨rfl, rfl⟩
  clear CS
  obtain ⟨sm, hsm⟩ : ∃ b, b = M.smallDos l := ⟨_, rfl⟩
  rw [← hsm]
  cases sm with
  | false =>
    clear hsm
    go_wp2
    go_ret
    exact ⟨rfl, K1.out⟩
  | true =>
    have HSM : Hid (M.smallDos l = true) := hsm.symm
    clear hsm
    have w8 := W8.out
    have w8' := W8'.out
    have t1 := HU.out.1
    have t1' := HU.out.2
    have CN := Lib.hid (dst_new (R := fun _ => False) ((74 + N : Nat) : Int) (by have := HN.out; have := HUL.out; clear w8 w8' t1 t1'; omega) K1.out (fun k h => h.elim))
    rw [N2.out.1] at CN
    go_wp2_with fail
    refine CN.out.mono ?_
    rintro e w3 ⟨g, rfl, d3, k3⟩
    clear w8 w8' t1 t1'
    rw [← N2.out.1] at d3
    have CO := Lib.hid (fine_new (n := 74 + N) (by rw [Int.toNat_natCast] at d3; exact d3) HL.out (by have := HN.out; omega) (by have := HN.out; have := HUL.out; omega))
    clear CN d3 k3
    go_wp2_with fail
    refine CO.out.mono ?_
    rintro e w4 ⟨-, gf, rfl, f4⟩
    rw [Nat.add_sub_cancel_left] at f4
    obtain ⟨w5, hw5⟩ : ∃ x, Hid (x = w4.alloc (.cells #[.slice none 0 0, .int .i64 (1 + (u : Int))] 32)) := ⟨_, rfl⟩
    obtain ⟨gr, hgr⟩ : ∃ x, Hid (x = w4.heap.size) := ⟨_, rfl⟩
    have k5 : Below w4.heap.size w4 w5 := by rw [hw5.out]; exact (Below.refl _ _).alloc (Nat.le_refl _) _
    have b5 : RefAt11 w5 gr (.slice none 0 0) ((N : Nat) : Int) := by rw [hw5.out, N2.out.2]; exact Blk.newAt _ _ _ _ _ hgr.out rfl
    have hgr' := hgr.out
    have hlt5 := b5.lt
    have ST : Hid (Plays W w5 g gf gr N) := ⟨[], _, fun _ => False, _, [], f4.below k5, b5, IsFs.nil _ _, .inr ⟨by omega, hlt5⟩, fun k hk => hk.elim, fun h => h⟩
    have HN4 : Hid (N ≤ 400) := by rw [Hid]; have := HN.out; have := HUL.out; omega
    clear CO f4 k5 b5 hgr' hlt5
    go_upto_region 9 with fail
    rw [← hw5.out, ← hgr.out]
    clear hw5 hgr
    go_wp2
    go_loopw [7, 9] (fun vf vi wr => ∃ (k gf : Nat), vf = .pointer (some ⟨gf, 0, none⟩) ∧ vi = .int .i64 (k : Int) ∧ Hid (k ≤ nn ∧ k ≤ 14) ∧ Hid (Plays W wr g gf gr N))
      (fun _ vi _ => 14 - numOf vi)
    case atStart => exact ⟨0, gf, rfl, rfl, ⟨Nat.zero_le _, Nat.zero_le _⟩, ST⟩
    case round =>
      clear ST
      obtain ⟨wz, rfl⟩ : ∃ x, x = wr := ⟨_, rfl⟩
      obtain ⟨k, gf, rfl, rfl, hk, st⟩ := hrel
      obtain ⟨F, R, S, fv, xs, b⟩ := st.out
      have B := Lib.hid b
      have CS := Lib.hid b.same
      have U := Lib.hid b.fine.under
      clear st b
      by_cases hgo : k < nn ∧ k < 14
      · have b1 : (k : Int) < nn := by omega
        have b2 : (k : Int) < 14 := by omega
        obtain ⟨tb, tf, rfl, hc⟩ := HC.out.resolve_left (fun e => by have := HNN.out; rw [e] at this; simp at this; omega)
        obtain ⟨cs, ⟨lo, lc, ys, ko, kc, ecs, hfl, hz, _, _, hnl⟩, cc⟩ := hc k (by rw [HNN.out]; exact hgo.1)
        obtain ⟨q, hq⟩ : ∃ t, t = l.getD k M.Do11.none := ⟨_, rfl⟩
        have HSMK := Lib.hid (M.smallDos_get l HSM.out k (by rw [HNN.out]; exact hgo.1) hgo.2)
        rw [← hq] at ecs hfl hnl HSMK
        obtain ⟨kd, hkd⟩ : ∃ x, x = q.kind := ⟨_, rfl⟩
        obtain ⟨fl, hfall⟩ : ∃ x, x = q.fall := ⟨_, rfl⟩
        obtain ⟨ll, hll⟩ : ∃ x, x = q.list := ⟨_, rfl⟩
        obtain ⟨nm, hnm⟩ : ∃ x, x = q.name := ⟨_, rfl⟩
        obtain ⟨n1, hn1⟩ : ∃ n, n = ll.length := ⟨_, rfl⟩
        rw [← hq] at hz
        obtain ⟨kn, hkn⟩ : ∃ n, n = q.keep.length := ⟨_, rfl⟩
        obtain ⟨s, hs⟩ : ∃ s : ByteArray, s = ⟨nm.toArray⟩ := ⟨_, rfl⟩
        rw [← hkd, ← hfall, ← hll, ← hnm, ← hn1, ← hkn, ← hs] at ecs
        rw [← hll, ← hn1] at hfl
        rw [← hll] at HSMK
        rw [← hnm] at hnl
        have HFLi := Lib.hid hfl
        have HNM := Lib.hid hnl
        have HS := Lib.hid hs
        have HN1 : Hid (ll.length = n1) := hn1.symm
        have RG : Hid (∀ w', Below W.heap.size W w' → w'.rangeAt tb (tf + k * 5) [.int .i64 kd, .slice lo n1 lc, .string s, .int .i64 fl, .slice ko kn kc]) := fun w' kw j v hj => by
          have hj6 : j < 5 := (List.getElem?_eq_some_iff.1 hj).1
          have h := cc j hj6
          rw [ecs, List.getD_eq_getElem?_getD, hj] at h
          exact (kw.cell (p := ⟨tb, tf + k * 5 + j, none⟩) (World.block_lt_of_cell? W _ h)).trans h
        have g1 : Hid (wrap64 ((k : Int) + 1) = ((k + 1 : Nat) : Int)) := by rw [Hid]; unfold wrap64; omega
        have g2 : (0 : Int) ≤ (k : Int) := Int.natCast_nonneg k
        have g3 : ((k : Int)).toNat = k := Int.toNat_natCast k
        have HGO := Lib.hid hgo
        have HK2 : Hid (k + 1 ≤ nn ∧ k + 1 ≤ 14) := hgo
        clear hc hq hkd hfall hll hnm hn1 hkn hs cc ecs hfl hz hnl hgo hk
        go_wp2_with fail
        refine CS.out.mono ?_
        rintro e w6 ⟨rfl, k6⟩
        have B6 := Lib.hid (B.out.see k6)
        have R6 := Lib.hid (RG.out w6 B6.out.fine.under)
        obtain ⟨W1, hW1⟩ : ∃ x, Hid (x = w6.alloc (.cells #[.int .i64 kd, .slice lo n1 lc, .string s, .int .i64 fl, .slice ko kn kc] 37)) := ⟨_, rfl⟩
        obtain ⟨G, hG⟩ : ∃ x, Hid (x = w6.heap.size) := ⟨_, rfl⟩
        clear CS k6 B
        go_upto_region 15 with (refine wpList_load_mid rfl 37 (.tmp 49) rfl tb (tf + k * 5) rfl _ _ R6.out Tryz.underlying37 rfl (by kernel_rfl) ?_)
        rw [← hW1.out, ← hG.out]
        have kW : Below w6.heap.size w6 W1 := by rw [hW1.out]; exact (Below.refl _ _).alloc (Nat.le_refl _) _
        have BW : Blk W1 G 37 [.int .i64 kd, .slice lo n1 lc, .string s, .int .i64 fl, .slice ko kn kc] := by rw [hW1.out]; exact Blk.newAt _ _ _ _ _ hG.out rfl
        have hG' := hG.out
        have hGl := BW.lt
        have B7 := Lib.hid (B6.out.below kW)
        have HGR : Hid (w6.heap.size ≤ G ∧ G < W1.heap.size ∧ G ≠ gr) := by
          have h1 := (B6.out.fine.rlt gr B6.out.there).2
          exact ⟨by omega, hGl, by omega⟩
        have HBW := Lib.hid BW
        have c0 : W1.cell? ⟨G, 0, none⟩ = some (.int .i64 kd) := BW.cell 0
        have c1 : W1.cell? ⟨G, 1, none⟩ = some (.slice lo n1 lc) := BW.cell 1
        have c2 : W1.cell? ⟨G, 2, none⟩ = some (.string s) := BW.cell 2
        clear kW BW hW1 hG hG' hGl R6 B6 g2 g3
        have hK6 := W1
        by_cases h0 : kd = 0
        · subst h0
          have S0 : Blk W1.drew G 37 [.int .i64 0, .slice lo n1 lc, .string s, .int .i64 fl, .slice ko kn kc] := HBW.out.below (Below.refl W1.heap.size W1).drew HBW.out.lt
          have B8 := Lib.hid (B7.out.see (Below.refl W1.heap.size W1).drew)
          obtain ⟨r, hr⟩ : ∃ r, r = M.fcode ((N : Nat) : Int) F ll := ⟨_, rfl⟩
          obtain ⟨F2, hF2⟩ : ∃ F2, F2 = if r = 0 then M.fapply F ll else F := ⟨_, rfl⟩
          have hll80 := HSMK.out.1.1
          have C1 := Lib.hid (B8.out.fine.commit HL.out (.slice lo n1 lc) ll ys (fun x c => HFLi.out.below (B8.out.fine.under.trans (Chg.below c B8.out.fine.under.size fun _ h => h.2))) (by omega) (M.small_data HSMK.out.1) r hr F2 hF2)
          have HR := Lib.hid hr
          have HF2 := Lib.hid hF2
          clear hr hF2 hll80 b1 b2
          go_upto_region 19 with fail
          clear c0 c1 c2
          refine wp_region_any (by kernel_rfl) ?_
          change wpAny _ _ _ _ _ _ _ (World.drew _)
          refine wpAny_of_held (S := fun w' => Blk w' G 37 [.int .i64 0, .slice lo n1 lc, .string s, .int .i64 fl, .slice ko kn kc]) _ _ _ _ ?_
          refine wpAnyH_take_at (i := 0) (v := .pointer (some ⟨gf, 0, none⟩)) rfl rfl (by kernel_rfl) (by kernel_rfl) (by kernel_rfl) (fun _ _ _ h => h) (Or.inl ⟨by rfl, fun w hS => by go_simp⟩) S0 ?_
          try simp only [List.setIfInBounds_toArray, List.set_cons_zero, List.set_cons_succ]
          refine wpAnyH_take_at (i := 1) (v := .pointer (some ⟨G, 1, none⟩)) rfl rfl (by kernel_rfl) (by kernel_rfl) (by kernel_rfl) (fun _ _ _ h => h) (Or.inl ⟨by rfl, fun w hS => by go_simp⟩) S0 ?_
          try simp only [List.setIfInBounds_toArray, List.set_cons_zero, List.set_cons_succ]
          refine wpAnyH_take_at (i := 2) (v := .slice lo n1 lc) rfl rfl (by kernel_rfl) (by kernel_rfl) (by kernel_rfl) (fun _ _ _ h => h) (Or.inl ⟨by rfl, fun w hS => by have c : w.cell? ⟨G, 1, none⟩ = some (.slice lo n1 lc) := hS.cell 1; go_simp⟩) S0 ?_
          try simp only [List.setIfInBounds_toArray, List.set_cons_zero, List.set_cons_succ]
          refine wpAnyH_take_at (i := 4) (v := .pointer (some ⟨gr, 0, none⟩)) rfl rfl (by kernel_rfl) (by kernel_rfl) (by kernel_rfl) (fun _ _ _ h => h) (Or.inl ⟨by rfl, fun w hS => by go_simp⟩) S0 ?_
          try simp only [List.setIfInBounds_toArray, List.set_cons_zero, List.set_cons_succ]
          refine wpAnyH_take_at (i := 5) (v := .pointer (some ⟨G, 1, none⟩)) rfl rfl (by kernel_rfl) (by kernel_rfl) (by kernel_rfl) (fun _ _ _ h => h) (Or.inl ⟨by rfl, fun w hS => by go_simp⟩) S0 ?_
          try simp only [List.setIfInBounds_toArray, List.set_cons_zero, List.set_cons_succ]
          refine wpAnyH_take_at (i := 6) (v := .slice lo n1 lc) rfl rfl (by kernel_rfl) (by kernel_rfl) (by kernel_rfl) (fun _ _ _ h => h) (Or.inl ⟨by rfl, fun w hS => by have c : w.cell? ⟨G, 1, none⟩ = some (.slice lo n1 lc) := hS.cell 1; go_simp⟩) S0 ?_
          try simp only [List.setIfInBounds_toArray, List.set_cons_zero, List.set_cons_succ]
          refine wpAnyH_ready (rs := [3]) (by kernel_rfl) (by simp) ?_
          refine AllReadyH.cons rfl (fun K hK => ?_) AllReadyH.nil
          go_simp
          refine C1.out.mono ?_
          rintro e w9 ⟨rfl, far9, f9⟩
          have S9 : Hid (Blk w9 G 37 [.int .i64 0, .slice lo n1 lc, .string s, .int .i64 fl, .slice ko kn kc]) := far9.blk S0 (.inr ⟨HGR.out.1, HGR.out.2.1⟩)
          have CR := Lib.hid (B8.out.rcommit HN4.out far9 f9 (.slice lo n1 lc) ll ys (HFLi.out.below f9.under) (by have := HSMK.out.1.1; omega) (M.small_data HSMK.out.1) r HR.out HF2.out)
          have F9 := Lib.hid f9
          refine hK.out _ _ S9.out (fun _ => ?_)
          clear hK K S0 C1 far9 f9
          refine wpAnyH_ready (rs := [7]) (by kernel_rfl) (by simp) ?_
          refine AllReadyH.cons rfl (fun K hK => ?_) AllReadyH.nil
          go_simp
          refine CR.out.mono ?_
          rintro e wA ⟨rfl, hE⟩
          have SA : Hid (Blk wA G 37 [.int .i64 0, .slice lo n1 lc, .string s, .int .i64 fl, .slice ko kn kc]) := S9.out.chg hE.1 fun e => HGR.out.2.2 e
          have ST : Hid (Plays W wA g gf gr N) := B8.out.next F9.out hE
          refine hK.out _ _ SA.out (fun _ => ?_)
          clear hK K CR hE F9 S9
          refine wpAnyH_take_at (i := 8) (v := .bool false) rfl rfl (by kernel_rfl) (by kernel_rfl) (by kernel_rfl) (fun _ _ _ h => h) (Or.inl ⟨by rfl, fun w hS => by go_simp⟩) SA.out ?_
          try simp only [List.setIfInBounds_toArray, List.set_cons_zero, List.set_cons_succ]
          refine wpAnyH_done (by kernel_rfl) ?_ _
          clear SA B7 B8
          have G1 := g1.out
          go_wp2
          go_roundw
          case rel => exact ⟨k + 1, gf, rfl, by first | rfl | rw [g1.out], HK2.out, ST⟩
          case measure =>
            have := HGO.out.2
            try rw [g1.out]
            show 14 - (((k + 1 : Nat) : Int)).toNat < 14 - ((k : Int)).toNat
            omega
        · have h0' : (kd == 0) = false := by simpa using h0
          have h0'' : decide (kd = 0) = false := decide_eq_false h0
          by_cases h1 : kd = 1
          · subst h1
            clear h0 h0' h0''
            by_cases hh : M.hasF F nm = true
            · have CE := Lib.hid (B7.out.fine.erase_yes HL.out nm hh)
              rw [← HS.out] at CE
              clear b1 b2
              go_wp2_with fail
              refine CE.out.mono ?_
              rintro e w8 ⟨rfl, far8, f8⟩
              have BG : Blk w8 G _ _ := far8.blk HBW.out (.inr ⟨HGR.out.1, HGR.out.2.1⟩)
              have BG8 := Lib.hid BG
              have CT := Lib.hid (rat_any (far8.blk B7.out.at_ B7.out.there) (far8.fs B7.out.fs B7.out.sR) nm HNM.out (by have := B7.out.fine.few; omega))
              rw [← HS.out] at CT
              obtain ⟨ai, hai⟩ : ∃ x, x = M.atI F nm := ⟨_, rfl⟩
              have b3 : ¬ ai < 0 := by rw [hai]; exact M.atI_yes hh
              rw [← hai] at CT
              have c2 : w8.cell? ⟨G, 2, none⟩ = some (.string s) := BG.cell 2
              have F8 := Lib.hid f8
              have FAR8 := Lib.hid far8
              clear CE BG hai f8 far8 c0 c1
              go_wp2_with fail
              refine CT.out.mono ?_
              rintro e w9 ⟨rfl, rfl⟩
              clear CT
              obtain ⟨wB, hwB⟩ : ∃ x, Hid (x = w9.alloc (.cells #[.string s, .slice none 0 0, .bool true] 44)) := ⟨_, rfl⟩
              obtain ⟨pB, hpB⟩ : ∃ x, Hid (x = w9.heap.size) := ⟨_, rfl⟩
              have kB : Below w9.heap.size w9 wB := by rw [hwB.out]; exact (Below.refl _ _).alloc (Nat.le_refl _) _
              have bB : Blk wB pB 44 [.string ⟨nm.toArray⟩, .slice none 0 0, .bool true] := by rw [← HS.out, hwB.out]; exact Blk.newAt _ _ _ _ _ hpB.out rfl
              have FB := Lib.hid (F8.out.see kB)
              have CR := Lib.hid (B7.out.rcommit HN4.out (FAR8.out.trans (Far.of_below kB)) FB.out (.slice (some ⟨pB, 0, none⟩) 1 1) [⟨nm, [], true⟩] [.slice none 0 0] (fl_one HNM.out (IsB.nil _) (fun n c e => by injection e with _ _ e; exact e.symm) bB) (by show 1 ≤ 100; decide) (fun c hc => by
                have : c = ⟨nm, [], true⟩ := by simpa using hc
                subst this
                show 0 ≤ 1099511627776
                decide) 0 (B7.out.fine.gone nm hh).symm (by rw [if_pos rfl, M.gone_apply]))
              clear kB bB
              go_wp2_with (first
                | (go_at_call 14; rw [← hpB.out, ← hwB.out]; go_must (refine CR.out.mono ?_)))
              rintro e wC ⟨rfl, hE⟩
              have ST : Hid (Plays W wC g gf gr N) := B7.out.next FB.out hE
              clear CR hE hwB hpB FB F8 FAR8 c2 BG8 HBW B7
              have G1 := g1.out
              go_wp2
              go_roundw
              case rel => exact ⟨k + 1, gf, rfl, by first | rfl | rw [g1.out], HK2.out, ST⟩
              case measure =>
                have := HGO.out.2
                try rw [g1.out]
                show 14 - (((k + 1 : Nat) : Int)).toNat < 14 - ((k : Int)).toNat
                omega
            · have hh' : M.hasF F nm = false := by simpa using hh
              have CE := Lib.hid (B7.out.fine.erase_no nm HNM.out hh')
              rw [← HS.out] at CE
              clear b1 b2
              go_wp2_with fail
              refine CE.out.mono ?_
              rintro e w8 ⟨rfl, k8⟩
              have B8 := Lib.hid (B7.out.see k8)
              have CT := Lib.hid (rat_any B8.out.at_ B8.out.fs nm HNM.out (by have := B8.out.fine.few; omega))
              rw [← HS.out, M.atI_no hh'] at CT
              have BG := HBW.out.below k8 HBW.out.lt
              have c2 : w8.cell? ⟨G, 2, none⟩ = some (.string s) := BG.cell 2
              clear CE BG k8 c0 c1 hh hh'
              go_wp2_with fail
              refine CT.out.mono ?_
              rintro e w9 ⟨rfl, rfl⟩
              have ST : Hid (Plays W w9 g gf gr N) := ⟨F, _, S, fv, xs, B8.out⟩
              clear CT c2 HBW B7 B8
              have G1 := g1.out
              go_wp2
              go_roundw
              case rel => exact ⟨k + 1, gf, rfl, by first | rfl | rw [g1.out], HK2.out, ST⟩
              case measure =>
                have := HGO.out.2
                try rw [g1.out]
                show 14 - (((k + 1 : Nat) : Int)).toNat < 14 - ((k : Int)).toNat
                omega
          · have h1' : (kd == 1) = false := by simpa using h1
            have h1'' : decide (kd = 1) = false := decide_eq_false h1
            have CC := Lib.hid (B7.out.fine.crash (.slice none 0 0) [] (IsZ.nil W))
            clear b1 b2 c1 c2
            go_wp2_with fail
            refine CC.out.mono ?_
            rintro e w8 ⟨rfl, far8, s8, t8, d8, on8, hz8, hn8, hN8, hf8⟩
            have CO := Lib.hid (fine_open d8 HL.out on8 hz8 hn8 hN8 hf8)
            have FAR8 := Lib.hid far8
            clear CC far8 d8 on8 hz8 hn8 hN8 hf8 c0 h0 h0' h0'' h1 h1' h1''
            go_wp2_with fail
            refine CO.out.mono ?_
            rintro e w9 ⟨far9, gf9, rfl, f9⟩
            have ST : Hid (Plays W w9 g gf9 gr N) := ⟨F, _, S, fv, xs, B7.out.far (FAR8.out.trans far9) f9⟩
            clear CO far9 f9 FAR8 HBW B7
            have G1 := g1.out
            go_wp2
            go_roundw
            case rel => exact ⟨k + 1, gf9, rfl, by first | rfl | rw [g1.out], HK2.out, ST⟩
            case measure =>
              have := HGO.out.2
              try rw [g1.out]
              show 14 - (((k + 1 : Nat) : Int)).toNat < 14 - ((k : Int)).toNat
              omega
      · by_cases hlt : k < nn
        · have b1 : (k : Int) < nn := by omega
          have b2 : ¬ (k : Int) < 14 := by omega
          clear hgo hlt hk
          go_wp2_with fail
          refine CS.out.mono ?_
          rintro e w6 ⟨rfl, k6⟩
          have UE : Hid (Below W.heap.size W w6) := U.out.trans (k6.mono U.out.size)
          clear CS k6 B
          go_wp2
          go_ret
          exact ⟨rfl, UE.out⟩
        · have b1 : ¬ (k : Int) < nn := by omega
          clear hgo hlt hk
          go_wp2_with fail
          refine CS.out.mono ?_
          rintro e w6 ⟨rfl, k6⟩
          have UE : Hid (Below W.heap.size W w6) := U.out.trans (k6.mono U.out.size)
          clear CS k6 B
          go_wp2
          go_ret
          exact ⟨rfl, UE.out⟩

end Go.Proofs.YtgmhfianpdhnmaaGreatDoor
