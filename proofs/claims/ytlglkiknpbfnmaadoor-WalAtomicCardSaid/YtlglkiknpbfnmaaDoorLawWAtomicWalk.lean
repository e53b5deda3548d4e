/-
  orloplaw10.WalAtomic, under the journal's face: it returns true. Conditions: WalCalls, WalMath (proved of the code elsewhere).
-/
import Derived.Test.YtlglkiknpbfnmaaDoorLawWPlainWalk
namespace Go.Proofs.YtlglkiknpbfnmaaDoor
open Go.RowKit
set_option linter.unusedVariables false

theorem M.crash_lit (m : M.Dsk) (kp : List Bool) : m.crash kp = M.lit (m.crash kp).safe 0 := rfl






section
variable {Ld : World → Prop} {Wl : World → Nat → Nat → Prop} {O : M.Dsk → M.Dsk × Int} {C : M.Dsk → M.CL → M.Dsk × Int} {Clean : List (List UInt8) → Prop} {Rec : List (List UInt8) → List (List UInt8)}

/-- An opening whose answer nobody looks at. -/
theorem St.open_some {w0 w : World} {g : Nat} {m : M.Dsk} {K : World → Prop} (W : WalCalls Ld Wl O C) (hL : Ld w0) (s : St w0 w g m K) (h42 : 42 < m.safe.length) (hw : m.wait.length < 100000) :
    Calls Tryd.prog 10 #[.pointer (some ⟨g, 0, none⟩)] w fun e w' => (∃ v1 v2, e = .returned (.tuple #[v1, v2])) ∧ St w0 w' g (O m).1 K := by
  refine (s.open_ W hL h42 hw).mono ?_
  rintro e w' (⟨_, gw, rfl, t⟩ | ⟨_, rfl, t⟩)
  · exact ⟨⟨_, _, rfl⟩, t.mono fun x h => h.1⟩
  · exact ⟨⟨_, _, rfl⟩, t⟩

theorem M.keptLen (s : List (List UInt8)) (c : List (Nat × List UInt8)) (k : List Bool) : ∀ j, (M.kept s c k j).length = s.length
  | 0 => rfl
  | j + 1 => by
    rw [M.kept]
    split
    · rw [List.length_set, M.keptLen s c k j]
    · exact M.keptLen s c k j

theorem M.crash_len (m : M.Dsk) (kp : List Bool) : (m.crash kp).safe.length = m.safe.length := M.keptLen _ _ _ _

set_option maxRecDepth 100000 in
set_option maxHeartbeats 16000000 in
theorem watomic_walk (W : WalCalls Ld Wl O C) (X : WalMath O C Clean Rec) (w : World) (hL : Ld w) (tv : Value) (l : List M.Tx) (ht : IsTxs w tv l) :
    Calls Tryd.prog 3 #[tv] w fun e w' => e = .returned (.bool true) ∧ Below w.heap.size w w' := by
  have HL := Lib.hid hL
  have SM := Lib.hid (fun w1 (k : Below w.heap.size w w1) => small10_any tv l w1 (ht.below k))
  obtain ⟨ta, tc, rfl, h1, h2, h3⟩ := ht
  obtain ⟨nn, hnn⟩ : ∃ n, n = l.length := ⟨_, rfl⟩
  rw [← hnn] at SM h1 ⊢
  have HNN : Hid (l.length = nn) := hnn.symm
  have HMX : Hid (nn ≤ maxLen) := Nat.le_trans h1 h2
  have HT := Lib.hid h3
  clear hL h1 h2 h3 hnn
  go_enter Tryd.func3, Tryd.ntmps3
  go_wp2_with fail
  refine (awake10_any W X w HL.out).mono ?_
  rintro e w1 ⟨rfl, k1⟩
  have K1 := Lib.hid k1
  clear k1
  obtain ⟨sm, hsm⟩ : ∃ b, b = M.smallTx l := ⟨_, rfl⟩
  rw [← hsm] at SM
  have HSM := Lib.hid hsm
  clear hsm
  cases sm with
  | false =>
    go_wp2_with fail
    refine (SM.out w1 K1.out).mono ?_
    rintro e w2 ⟨rfl, k2⟩
    have K2 := K1.out.trans (k2.mono K1.out.size)
    clear k2
    go_wp2
    go_ret
    exact ⟨rfl, K2⟩
  | true =>
    go_wp2_with fail
    refine (SM.out w1 K1.out).mono ?_
    rintro e w2 ⟨rfl, k2⟩
    have K2 := Lib.hid (K1.out.trans (k2.mono K1.out.size))
    clear k2 K1 SM
    go_wp2_with fail
    refine (st_new (w0 := w) (K := fun _ => True) 50 (by decide) K2.out (fun _ _ => trivial)).mono ?_
    rintro e w3 ⟨g, rfl, s3⟩
    obtain ⟨S, hS⟩ : ∃ S, S = List.replicate 50 M.zero256 := ⟨_, rfl⟩
    have SL : Hid (S.length = 50) := by rw [Hid, hS]; exact List.length_replicate
    have e3 : M.dnew (Int.toNat 50) = M.lit S 0 := by rw [hS]; exact M.dnew_lit 50 (by decide)
    rw [e3] at s3
    have S3 := Lib.hid s3
    clear s3 e3 hS K2
    go_wp2_with fail
    refine (open_new W X HL.out S3.out (by rw [SL.out]; decide)).mono ?_
    rintro e w4 ⟨gw0, s0, rfl, s4, l4, r4, c4⟩
    have S4 : Hid (St w w4 g (M.lit s0 0) (fun x => Wl x gw0 g)) := s4.mono fun x h => h.2
    have L4 : Hid (s0.length = 50) := l4.trans SL.out
    have C4 := Lib.hid c4
    have SE := Lib.hid (seen10_any W S4.out (fun x h => h) (by show 42 < s0.length; rw [L4.out]; decide) (by show 0 < 1000000; decide))
    rw [M.shows_lit] at SE
    clear S3 s4 l4 r4 c4 SL
    go_wp2_with fail
    refine SE.out.mono ?_
    rintro e w5 ⟨v5, r5, rfl, o5, k5⟩
    have S5 : Hid (St w w5 g (M.lit s0 0) (fun x => Wl x gw0 g ∧ IsLL x v5 (s0.drop 42) r5)) := S4.out.gain k5 o5.gains
    clear SE S4 o5 k5
    go_wp2
    go_loopw [4, 6, 7] (fun p v i wr => ∃ (k gw : Nat) (s' : List (List UInt8)) (rows : List Value), p = .pointer (some ⟨gw, 0, none⟩) ∧ i = .int .i64 (k : Int) ∧ Hid (k ≤ nn ∧ k ≤ 12) ∧ Hid (s'.length = 50 ∧ Clean s') ∧ Hid (St w wr g (M.lit s' 0) (fun x => Wl x gw g ∧ IsLL x v (s'.drop 42) rows)))
      (fun p v i _ => 12 - numOf i)
    case atStart => exact ⟨0, gw0, s0, r5, rfl, rfl, ⟨Nat.zero_le _, Nat.zero_le _⟩, ⟨L4.out, C4.out⟩, S5⟩
    case round =>
      clear S5 L4 C4
      obtain ⟨wz, rfl⟩ : ∃ x, x = wr := ⟨_, rfl⟩
      obtain ⟨v6o, rfl⟩ : ∃ x, x = u6 := ⟨_, rfl⟩
      obtain ⟨k, gw, s', rows, rfl, rfl, hk, hc, st⟩ := hrel
      by_cases hlt : k < nn
      · have b1 : (k : Int) < (nn : Int) := by omega
        by_cases h12 : k < 12
        · have b2 : (k : Int) < 12 := by omega
          obtain ⟨tb, tf, rfl, hcell⟩ := HT.out.resolve_left (fun e => by have := HNN.out; rw [e] at this; simp at this; omega)
          obtain ⟨cs, hcs, hcc⟩ := hcell k (by rw [HNN.out]; exact hlt)
          have HSMK := Lib.hid (M.smallTx_get l HSM.out.symm k (by rw [HNN.out]; exact hlt) h12)
          obtain ⟨t, htx⟩ : ∃ t, t = l.getD k M.Tx.none := ⟨_, rfl⟩
          rw [← htx] at hcs HSMK
          obtain ⟨ao, ac, an, a1, a2, a3, a4, a5, a6, a7, a8, a9, ax, ay, rfl, hf4, hf8, hkp, hkp2, haf, hag⟩ : ∃ ao ac n yo yc yn f ko kc kn g jo jc jn, cs = [.slice ao n ac, .slice yo yn yc, .int .i64 f, .slice ko kn kc, .int .i64 g, .slice jo jn jc] ∧ f = t.fall ∧ g = t.again ∧ IsZ w (.slice ko kn kc) t.keep ∧ IsZ w (.slice jo jn jc) t.keep2 ∧ (-9223372036854775808 ≤ f ∧ f < 9223372036854775808) ∧ (-9223372036854775808 ≤ g ∧ g < 9223372036854775808) := by
            obtain ⟨bo, bc, yo, yc, ko, kc, jo, jc, rfl, _, _, h1, h2, h3, h4⟩ := hcs
            exact ⟨_, _, _, _, _, _, _, _, _, _, _, _, _, _, rfl, rfl, rfl, h1, h2, h3, h4⟩
          have HKP := Lib.hid hkp
          have HKP2 := Lib.hid hkp2
          have HAF := Lib.hid haf
          have HAG := Lib.hid hag
          have R : Hid (wz.rangeAt tb (tf + k * 6) [.slice ao an ac, .slice a1 a3 a2, .int .i64 a4, .slice a5 a7 a6, .int .i64 a8, .slice a9 ay ax]) := fun j v hj => by
            have hj6 : j < 6 := (List.getElem?_eq_some_iff.1 hj).1
            have h := hcc j hj6
            rw [List.getD_eq_getElem?_getD, hj] at h
            exact (st.out.under.cell (p := ⟨tb, tf + k * 6 + j, none⟩) (World.block_lt_of_cell? w _ h)).trans h
          have HCS : Hid (TxCells w _ t) := hcs
          have g2 : (0 : Int) ≤ (k : Int) := Int.natCast_nonneg k
          have g3 : ((k : Int)).toNat = k := Int.toNat_natCast k
          have HLT : Hid (k < nn ∧ k < 12) := ⟨hlt, h12⟩
          obtain ⟨W1, hW1⟩ : ∃ x, Hid (x = wz.alloc (.cells #[.slice ao an ac, .slice a1 a3 a2, .int .i64 a4, .slice a5 a7 a6, .int .i64 a8, .slice a9 ay ax] 37)) := ⟨_, rfl⟩
          obtain ⟨G, hG⟩ : ∃ x, Hid (x = wz.heap.size) := ⟨_, rfl⟩
          clear hcell hcs hcc htx hlt h12 hf4 hf8 hkp hkp2 haf hag
          go_wp2_with (refine wpList_load_mid rfl 37 (.tmp 48) rfl tb (tf + k * 6) rfl _ _ R.out Tryd.underlying37 rfl (by kernel_rfl) ?_)
          rw [← hW1.out, ← hG.out]
          have kW : Below wz.heap.size wz W1 := by rw [hW1.out]; exact (Below.refl _ _).alloc (Nat.le_refl _) _
          have BW : Blk W1 G 37 [.slice ao an ac, .slice a1 a3 a2, .int .i64 a4, .slice a5 a7 a6, .int .i64 a8, .slice a9 ay ax] := by rw [hW1.out]; exact Blk.newAt _ _ _ _ _ hG.out rfl
          obtain ⟨nowL, hNW⟩ : ∃ L, Hid (L = s'.drop 42) := ⟨_, rfl⟩
          have hNL : Hid (nowL.length = 8) := by rw [Hid, hNW.out, List.length_drop, hc.out.1]
          rw [← hNW.out] at st
          have S1 := Lib.hid (st.out.gain kW (Gains.blk (K := fun x => Wl x gw g ∧ IsLL x v6o nowL rows) BW (by rw [hG.out]; exact Nat.le_refl _)))
          have XC := Lib.hid (changes10_any _ t W1 (HCS.out.below S1.out.under) HSMK.out.1)
          obtain ⟨q, hq⟩ : ∃ q, q = t.changes := ⟨_, rfl⟩
          have HQL : Hid (q.length ≤ 60) := by rw [Hid, hq, M.Tx.changes, List.length_map, List.length_range]; exact HSMK.out.1
          rw [← hq] at XC
          clear kW BW hW1 hG hq R st HCS g2 g3
          refine XC.out.mono ?_
          rintro e w6 ⟨lv, xs, rfl, o6, k6⟩
          have S6 := Lib.hid (S1.out.gain k6 (o6.gains (K := fun x => (Wl x gw g ∧ IsLL x v6o nowL rows) ∧ Blk x G 37 [.slice ao an ac, .slice a1 a3 a2, .int .i64 a4, .slice a5 a7 a6, .int .i64 a8, .slice a9 ay ax])))
          clear XC S1 o6 k6
          have cg2 : w6.cell? ⟨G, 2, none⟩ = some (.int .i64 a4) := S6.out.now.1.2.cell 2
          go_wp2_with fail
          refine (S6.out.arm a4 HAF.out).mono ?_
          rintro e w7 ⟨rfl, s7⟩
          rw [M.lit_arm] at s7
          have S7 := Lib.hid s7
          clear cg2 S6 s7
          by_cases hm : M.May 8 q
          · have HM := Lib.hid hm
            have hm' : M.May (s'.length - 42) q := by rw [hc.out.1]; exact hm
            have CM := Lib.hid (S7.out.commit W HL.out (fun x h => h.1.1.1) (by show 42 < s'.length; rw [hc.out.1]; decide) (by show 0 < 100000; decide) lv q xs (fun x h => h.2) hm')
            have XR := Lib.hid (X.commits s' a4.toNat q S7.out.okay (by rw [hc.out.1]; decide) hc.out.2 hm')
            rw [← hNW.out] at XR
            clear hm hm'
            obtain ⟨MX, hMX⟩ : ∃ m, Hid (m = (C (M.lit s' a4.toNat) q).1) := ⟨_, rfl⟩
            rw [← hMX.out] at CM XR
            rcases XR.out with ⟨h0, s2, k2, e1, e2, e3, e4, e5⟩ | ⟨h11, hk0, hd, hl, hwt, hrec⟩
            · rw [h0] at CM
              have HE : Hid (MX = M.lit s2 k2 ∧ s2.length = 50 ∧ s2.drop 42 = M.done nowL q ∧ Clean s2) := ⟨e1, e3.trans hc.out.1, e4, e5⟩
              clear h0 e1 e2 e3 e4 e5 XR hMX
              go_wp2_with fail
              refine CM.out.mono ?_
              rintro e w8 ⟨rfl, s8⟩
              have S8 := Lib.hid s8
              have RM := Lib.hid (rmay_any 8 (by decide) lv q xs w8 s8.now.2)
              rw [decide_eq_true HM.out, show ((8 : Nat) : Int) = 8 from rfl] at RM
              clear CM s8 S7
              go_wp2_with fail
              refine RM.out.mono ?_
              rintro e w9 ⟨rfl, rfl⟩
              clear RM
              obtain ⟨w8, rfl⟩ : ∃ x, x = w9 := ⟨_, rfl⟩
              go_wp2_with fail
              -- Done, of what was seen ahead
              refine (rdone_any v6o lv nowL rows q xs w8 S8.out.now.1.1.2 S8.out.now.2 (by rw [hNL.out]; decide) (by rw [hNL.out]; decide) (by have := HQL.out; omega) (fun i hi => by rw [hNL.out]; exact ((M.may_iff 8 q).1 HM.out).2 i hi)).mono ?_
              rintro e x0 ⟨vd, rd, rfl, od, kd⟩
              obtain ⟨D, hD⟩ : ∃ D, Hid (D = M.done nowL q) := ⟨_, rfl⟩
              rw [← hD.out] at od
              have SX : Hid (St w x0 g MX (fun x => ((Wl x gw g ∧ IsLL x v6o nowL rows) ∧ Blk x G 37 [.slice ao an ac,.slice a1 a3 a2,.int .i64 a4,.slice a5 a7 a6,.int .i64 a8,.slice a9 ay ax]) ∧ IsLL x vd D rd)) :=
                (S8.out.gain kd ((od.gains (bv := v6o) (by rw [hD.out, M.done_len])).mono (fun x h => h.1.1.2) (fun x h => h))).mono fun x h => ⟨h.1.1, h.2⟩
              clear S8 od kd
              have HDL : Hid (s2.drop 42 = D) := HE.out.2.2.1.trans hD.out.symm
              rw [HE.out.1] at SX
              have SE := Lib.hid (seen10_any W SX.out (fun x h => h.1.1.1) (by show 42 < s2.length; rw [HE.out.2.1]; decide) (by show 0 < 1000000; decide))
              rw [M.shows_lit, HDL.out] at SE
              go_wp2_with fail
              refine SE.out.mono ?_
              rintro e y1 ⟨u1', u2', rfl, p1, j1⟩
              have Y1 := Lib.hid (SX.out.below j1)
              have SA := Lib.hid (rsame10_any u1' vd D D u2' rd y1 p1.isLL Y1.out.now.2)
              rw [decide_eq_true rfl] at SA
              clear SE SX p1 j1
              go_wp2_with fail
              refine SA.out.mono ?_
              rintro e x0' ⟨rfl, j2⟩
              obtain ⟨x0, rfl⟩ : ∃ x, x = x0' := ⟨_, rfl⟩
              have SX := Lib.hid (Y1.out.below j2)
              clear SA Y1 j2
              rw [← HE.out.1] at SX
              have CR : Hid (∀ keep, Rec (MX.crash keep).safe = D) := fun keep => by rw [HE.out.1, M.lit_crash]; show Rec s2 = D; rw [X.recs _ HE.out.2.2.2, HDL.out]
              have CRL : Hid (∀ keep, (MX.crash keep).safe.length = 50) := fun keep => by rw [M.crash_len, HE.out.1]; exact HE.out.2.1
              have cg3 : x0.cell? ⟨G, 3, none⟩ = some (.slice a5 a7 a6) := SX.out.now.1.2.cell 3
              go_wp2_with fail
              refine (SX.out.crash (.slice a5 a7 a6) t.keep HKP.out).mono ?_
              rintro e x1 ⟨rfl, q1⟩
              rw [M.crash_lit] at q1
              have RX := CR.out t.keep
              obtain ⟨z1, hz1⟩ : ∃ z, z = (MX.crash t.keep).safe := ⟨_, rfl⟩
              rw [← hz1] at q1 RX
              have HR1 := Lib.hid RX
              have HZ1 : Hid (z1.length = 50) := by rw [Hid, hz1]; exact CRL.out t.keep
              have Q1 := Lib.hid q1
              clear q1 RX hz1 SX CR CRL cg3
              have cg4 : x1.cell? ⟨G, 4, none⟩ = some (.int .i64 a8) := Q1.out.now.1.2.cell 4
              go_wp2_with fail
              refine (Q1.out.arm a8 HAG.out).mono ?_
              rintro e x2 ⟨rfl, q2⟩
              rw [M.lit_arm] at q2
              have Q2 := Lib.hid q2
              have FA := Lib.hid (X.falls z1 a8.toNat q2.okay (by rw [HZ1.out]; decide))
              clear q2 Q1 cg4
              go_wp2_with fail
              refine (St.open_some W HL.out Q2.out (by show 42 < z1.length; rw [HZ1.out]; decide) (by show 0 < 100000; decide)).mono ?_
              rintro e x3 ⟨⟨o1, o2, rfl⟩, q3⟩
              have Q3 := Lib.hid q3
              have cg5 : x3.cell? ⟨G, 5, none⟩ = some (.slice a9 ay ax) := q3.now.1.2.cell 5
              clear q3 Q2
              go_wp2_with fail
              refine (Q3.out.crash (.slice a9 ay ax) t.keep2 HKP2.out).mono ?_
              rintro e x4 ⟨rfl, q4⟩
              rw [M.crash_lit] at q4
              have RX := FA.out.2.2.2 t.keep2
              obtain ⟨z4, hz4⟩ : ∃ z, z = ((O (M.lit z1 a8.toNat)).1.crash t.keep2).safe := ⟨_, rfl⟩
              rw [← hz4] at q4 RX
              have HZ4 : Hid (z4.length = 50) := by rw [Hid, hz4, M.crash_len, FA.out.2.1, HZ1.out]
              have HR4 : Hid (Rec z4 = Rec z1) := RX
              have Q4 := Lib.hid q4
              clear q4 RX hz4 Q3 cg5 FA
              go_wp2_with fail
              refine (open_new W X HL.out Q4.out (by rw [HZ4.out]; decide)).mono ?_
              rintro e x5 ⟨gv, z5, rfl, q5, l5, r5, c5⟩
              have Q5 := Lib.hid q5
              have HZ5 : Hid (z5.length = 50) := l5.trans HZ4.out
              have HD5 : Hid (z5.drop 42 = Rec z1) := r5.trans HR4.out
              have C5 := Lib.hid c5
              have SE := Lib.hid (seen10_any W Q5.out (fun x h => h.2) (by show 42 < z5.length; rw [HZ5.out]; decide) (by show 0 < 1000000; decide))
              rw [M.shows_lit] at SE
              clear q5 l5 r5 c5 Q4 HR4
              go_wp2_with fail
              refine SE.out.mono ?_
              rintro e x6 ⟨v6, r6, rfl, p6, j6⟩
              have Q6 : Hid (St w x6 g (M.lit z5 0) (fun x => ((((Wl x gw g ∧ IsLL x v6o nowL rows) ∧ Blk x G 37 [.slice ao an ac,.slice a1 a3 a2,.int .i64 a4,.slice a5 a7 a6,.int .i64 a8,.slice a9 ay ax]) ∧ IsLL x vd D rd) ∧ Wl x gv g) ∧ IsLL x v6 (z5.drop 42) r6)) := Q5.out.gain j6 (p6.gains.mono (fun _ h => h) (fun _ h => h))
              clear SE Q5 p6 j6
              have SA := Lib.hid (rsame10_any v6 vd _ _ r6 rd x6 Q6.out.now.2 Q6.out.now.1.1.2)
              rw [HD5.out, HR1.out, decide_eq_true rfl] at SA
              go_wp2_with fail
              refine SA.out.mono ?_
              rintro e x7 ⟨rfl, j7⟩
              have SN : Hid (St w x7 g (M.lit z5 0) (fun x => Wl x gv g ∧ IsLL x v6 (z5.drop 42) r6)) := (Q6.out.below j7).mono fun x h => ⟨h.1.2, h.2⟩
              clear SA Q6 j7
              have n3 : wrap64 ((k : Int) + 1) = ((k + 1 : Nat) : Int) := wrap_next (Nat.lt_of_lt_of_le HLT.out.2 (by decide))
              have N3 := Lib.hid n3
              clear n3
              go_wp2
              go_roundw
              case rel => exact ⟨k + 1, gv, z5, r6, rfl, by first | rw [N3.out] | rfl, ⟨HLT.out.1, HLT.out.2⟩, ⟨HZ5.out, C5.out⟩, SN.out⟩
              case measure =>
                first | rw [N3.out] | skip
                exact step_down HLT.out.2
            · rw [h11] at CM
              have HE : Hid (MX.down = true ∧ MX.safe.length = 50 ∧ ∀ keep, Rec (MX.crash keep).safe = nowL ∨ Rec (MX.crash keep).safe = M.done nowL q) := ⟨hd, hl.trans hc.out.1, hrec⟩
              clear h11 hk0 hd hl hwt hrec XR hMX
              go_wp2_with fail
              refine CM.out.mono ?_
              rintro e w8 ⟨rfl, s8⟩
              have S8 := Lib.hid s8
              have RM := Lib.hid (rmay_any 8 (by decide) lv q xs w8 s8.now.2)
              rw [decide_eq_true HM.out, show ((8 : Nat) : Int) = 8 from rfl] at RM
              have DW := Lib.hid s8.down
              rw [HE.out.1] at DW
              clear CM s8 S7
              go_wp2_with fail
              refine RM.out.mono ?_
              rintro e w9 ⟨rfl, rfl⟩
              clear RM
              go_wp2_with fail
              refine DW.out.mono ?_
              rintro e w10 ⟨rfl, rfl⟩
              clear DW
              obtain ⟨w8, rfl⟩ : ∃ x, x = w10 := ⟨_, rfl⟩
              go_wp2_with fail
              -- Done, of what was seen ahead
              refine (rdone_any v6o lv nowL rows q xs w8 S8.out.now.1.1.2 S8.out.now.2 (by rw [hNL.out]; decide) (by rw [hNL.out]; decide) (by have := HQL.out; omega) (fun i hi => by rw [hNL.out]; exact ((M.may_iff 8 q).1 HM.out).2 i hi)).mono ?_
              rintro e x0 ⟨vd, rd, rfl, od, kd⟩
              obtain ⟨D, hD⟩ : ∃ D, Hid (D = M.done nowL q) := ⟨_, rfl⟩
              rw [← hD.out] at od
              have SX : Hid (St w x0 g MX (fun x => ((Wl x gw g ∧ IsLL x v6o nowL rows) ∧ Blk x G 37 [.slice ao an ac,.slice a1 a3 a2,.int .i64 a4,.slice a5 a7 a6,.int .i64 a8,.slice a9 ay ax]) ∧ IsLL x vd D rd)) :=
                (S8.out.gain kd ((od.gains (bv := v6o) (by rw [hD.out, M.done_len])).mono (fun x h => h.1.1.2) (fun x h => h))).mono fun x h => ⟨h.1.1, h.2⟩
              clear S8 od kd
              have CR : Hid (∀ keep, Rec (MX.crash keep).safe = nowL ∨ Rec (MX.crash keep).safe = D) := by rw [Hid, hD.out]; exact HE.out.2.2
              have CRL : Hid (∀ keep, (MX.crash keep).safe.length = 50) := fun keep => by rw [M.crash_len]; exact HE.out.2.1
              have cg3 : x0.cell? ⟨G, 3, none⟩ = some (.slice a5 a7 a6) := SX.out.now.1.2.cell 3
              go_wp2_with fail
              refine (SX.out.crash (.slice a5 a7 a6) t.keep HKP.out).mono ?_
              rintro e x1 ⟨rfl, q1⟩
              rw [M.crash_lit] at q1
              have RX := CR.out t.keep
              obtain ⟨z1, hz1⟩ : ∃ z, z = (MX.crash t.keep).safe := ⟨_, rfl⟩
              rw [← hz1] at q1 RX
              have HR1 := Lib.hid RX
              have HZ1 : Hid (z1.length = 50) := by rw [Hid, hz1]; exact CRL.out t.keep
              have Q1 := Lib.hid q1
              clear q1 RX hz1 SX CR CRL cg3
              have cg4 : x1.cell? ⟨G, 4, none⟩ = some (.int .i64 a8) := Q1.out.now.1.2.cell 4
              go_wp2_with fail
              refine (Q1.out.arm a8 HAG.out).mono ?_
              rintro e x2 ⟨rfl, q2⟩
              rw [M.lit_arm] at q2
              have Q2 := Lib.hid q2
              have FA := Lib.hid (X.falls z1 a8.toNat q2.okay (by rw [HZ1.out]; decide))
              clear q2 Q1 cg4
              go_wp2_with fail
              refine (St.open_some W HL.out Q2.out (by show 42 < z1.length; rw [HZ1.out]; decide) (by show 0 < 100000; decide)).mono ?_
              rintro e x3 ⟨⟨o1, o2, rfl⟩, q3⟩
              have Q3 := Lib.hid q3
              have cg5 : x3.cell? ⟨G, 5, none⟩ = some (.slice a9 ay ax) := q3.now.1.2.cell 5
              clear q3 Q2
              go_wp2_with fail
              refine (Q3.out.crash (.slice a9 ay ax) t.keep2 HKP2.out).mono ?_
              rintro e x4 ⟨rfl, q4⟩
              rw [M.crash_lit] at q4
              have RX := FA.out.2.2.2 t.keep2
              obtain ⟨z4, hz4⟩ : ∃ z, z = ((O (M.lit z1 a8.toNat)).1.crash t.keep2).safe := ⟨_, rfl⟩
              rw [← hz4] at q4 RX
              have HZ4 : Hid (z4.length = 50) := by rw [Hid, hz4, M.crash_len, FA.out.2.1, HZ1.out]
              have HR4 : Hid (Rec z4 = Rec z1) := RX
              have Q4 := Lib.hid q4
              clear q4 RX hz4 Q3 cg5 FA
              go_wp2_with fail
              refine (open_new W X HL.out Q4.out (by rw [HZ4.out]; decide)).mono ?_
              rintro e x5 ⟨gv, z5, rfl, q5, l5, r5, c5⟩
              have Q5 := Lib.hid q5
              have HZ5 : Hid (z5.length = 50) := l5.trans HZ4.out
              have HD5 : Hid (z5.drop 42 = Rec z1) := r5.trans HR4.out
              have C5 := Lib.hid c5
              have SE := Lib.hid (seen10_any W Q5.out (fun x h => h.2) (by show 42 < z5.length; rw [HZ5.out]; decide) (by show 0 < 1000000; decide))
              rw [M.shows_lit] at SE
              clear q5 l5 r5 c5 Q4 HR4
              go_wp2_with fail
              refine SE.out.mono ?_
              rintro e x6 ⟨v6, r6, rfl, p6, j6⟩
              have Q6 : Hid (St w x6 g (M.lit z5 0) (fun x => ((((Wl x gw g ∧ IsLL x v6o nowL rows) ∧ Blk x G 37 [.slice ao an ac,.slice a1 a3 a2,.int .i64 a4,.slice a5 a7 a6,.int .i64 a8,.slice a9 ay ax]) ∧ IsLL x vd D rd) ∧ Wl x gv g) ∧ IsLL x v6 (z5.drop 42) r6)) := Q5.out.gain j6 (p6.gains.mono (fun _ h => h) (fun _ h => h))
              clear SE Q5 p6 j6
              have SA := Lib.hid (rsame10_any v6 vd _ _ r6 rd x6 Q6.out.now.2 Q6.out.now.1.1.2)
              by_cases hsd : z5.drop 42 = D
              · rw [decide_eq_true hsd] at SA
                clear hsd
                go_wp2_with fail
                refine SA.out.mono ?_
                rintro e x7 ⟨rfl, j7⟩
                have SN : Hid (St w x7 g (M.lit z5 0) (fun x => Wl x gv g ∧ IsLL x v6 (z5.drop 42) r6)) := (Q6.out.below j7).mono fun x h => ⟨h.1.2, h.2⟩
                clear SA Q6 j7
                have n3 : wrap64 ((k : Int) + 1) = ((k + 1 : Nat) : Int) := wrap_next (Nat.lt_of_lt_of_le HLT.out.2 (by decide))
                have N3 := Lib.hid n3
                clear n3
                go_wp2
                go_roundw
                case rel => exact ⟨k + 1, gv, z5, r6, rfl, by first | rw [N3.out] | rfl, ⟨HLT.out.1, HLT.out.2⟩, ⟨HZ5.out, C5.out⟩, SN.out⟩
                case measure =>
                  first | rw [N3.out] | skip
                  exact step_down HLT.out.2
              · rw [decide_eq_false hsd] at SA
                have HNO : Hid (z5.drop 42 = nowL) := by
                  rcases HR1.out with h | h
                  · exact HD5.out.trans h
                  · exact absurd (HD5.out.trans h) hsd
                clear hsd
                go_wp2_with fail
                refine SA.out.mono ?_
                rintro e x7 ⟨rfl, j7⟩
                have Q7 := Lib.hid (Q6.out.below j7)
                clear SA Q6 j7
                have SA := Lib.hid (rsame10_any v6 v6o _ _ r6 rows x7 Q7.out.now.2 Q7.out.now.1.1.1.1.2)
                rw [HNO.out, decide_eq_true rfl] at SA
                obtain ⟨Q6, hQ6⟩ : ∃ x : True, x = trivial := ⟨_, rfl⟩
                go_wp2_with fail
                refine SA.out.mono ?_
                rintro e x8 ⟨rfl, j8⟩
                have SN : Hid (St w x8 g (M.lit z5 0) (fun x => Wl x gv g ∧ IsLL x v6 (z5.drop 42) r6)) := (Q7.out.below j8).mono fun x h => ⟨h.1.2, h.2⟩
                clear SA Q7 j8
                have n3 : wrap64 ((k : Int) + 1) = ((k + 1 : Nat) : Int) := wrap_next (Nat.lt_of_lt_of_le HLT.out.2 (by decide))
                have N3 := Lib.hid n3
                clear n3
                go_wp2
                go_roundw
                case rel => exact ⟨k + 1, gv, z5, r6, rfl, by first | rw [N3.out] | rfl, ⟨HLT.out.1, HLT.out.2⟩, ⟨HZ5.out, C5.out⟩, SN.out⟩
                case measure =>
                  first | rw [N3.out] | skip
                  exact step_down HLT.out.2
          · have CN := Lib.hid (S7.out.commit_no W HL.out (fun h => h.1.1.1) (by show 42 < s'.length; rw [hc.out.1]; decide) lv q xs (fun h => h.2) (by show ¬ M.May (s'.length - 42) q; rw [hc.out.1]; exact hm) (by have := HQL.out; omega))
            have HM := Lib.hid hm
            clear hm
            go_wp2_with fail
            refine CN.out.mono ?_
            rintro e w8 ⟨rfl, k8⟩
            have S8 := Lib.hid (S7.out.below k8)
            have RM := Lib.hid (rmay_any 8 (by decide) lv q xs w8 S8.out.now.2)
            rw [decide_eq_false HM.out, show ((8 : Nat) : Int) = 8 from rfl] at RM
            clear CN S7 k8
            go_wp2_with fail
            refine RM.out.mono ?_
            rintro e w9 ⟨rfl, rfl⟩
            clear RM
            have SE := Lib.hid (seen10_any W S8.out (fun x h => h.1.1.1) (by show 42 < s'.length; rw [hc.out.1]; decide) (by show 0 < 1000000; decide))
            rw [M.shows_lit, ← hNW.out] at SE
            go_wp2_with fail
            refine SE.out.mono ?_
            rintro e y1 ⟨u1', u2', rfl, p1, j1⟩
            have Y1 := Lib.hid (S8.out.below j1)
            have SA := Lib.hid (rsame10_any u1' v6o _ _ u2' rows y1 p1.isLL Y1.out.now.1.1.2)
            rw [decide_eq_true rfl] at SA
            clear SE S8 p1 j1
            go_wp2_with fail
            refine SA.out.mono ?_
            rintro e y2 ⟨rfl, j2⟩
            have Y2 := Lib.hid (Y1.out.below j2)
            clear SA Y1 j2
            go_wp2_with fail
            refine (Y2.out.crash (.slice none 0 0) [] (IsZ.nil w)).mono ?_
            rintro e y3 ⟨rfl, t3⟩
            rw [M.lit_crash] at t3
            have Y3 := Lib.hid t3
            clear Y2 t3
            go_wp2_with fail
            refine (open_new W X HL.out Y3.out (by rw [hc.out.1]; decide)).mono ?_
            rintro e y4 ⟨gv, z5, rfl, t4, l5, r5', c5⟩
            have HZ5 : Hid (z5.length = 50) := l5.trans hc.out.1
            have HD5 : Hid (z5.drop 42 = nowL) := by rw [Hid, r5', X.recs _ hc.out.2, hNW.out]
            have C5 := Lib.hid c5
            have Y4 := Lib.hid t4
            have SE := Lib.hid (seen10_any W t4 (fun x h => h.2) (by show 42 < z5.length; rw [HZ5.out]; decide) (by show 0 < 1000000; decide))
            rw [M.shows_lit, HD5.out] at SE
            clear Y3 t4 l5 r5' c5
            go_wp2_with fail
            refine SE.out.mono ?_
            rintro e y5 ⟨u3', u4', rfl, p5, j5⟩
            have Y5 := Lib.hid (Y4.out.below j5)
            have SA := Lib.hid (rsame10_any u3' v6o _ _ u4' rows y5 p5.isLL Y5.out.now.1.1.1.2)
            rw [decide_eq_true rfl] at SA
            clear SE Y4 p5 j5
            go_wp2_with fail
            refine SA.out.mono ?_
            rintro e y6 ⟨rfl, j6⟩
            have SN : Hid (St w y6 g (M.lit z5 0) (fun x => Wl x gv g ∧ IsLL x v6o (z5.drop 42) rows)) := (Y5.out.below j6).mono fun x h => ⟨h.2, by rw [HD5.out]; exact h.1.1.1.2⟩
            clear SA Y5 j6
            have n3 : wrap64 ((k : Int) + 1) = ((k + 1 : Nat) : Int) := wrap_next (Nat.lt_of_lt_of_le HLT.out.2 (by decide))
            have N3 := Lib.hid n3
            clear n3
            go_wp2
            go_roundw
            case rel => exact ⟨k + 1, gv, z5, rows, rfl, by first | rw [N3.out] | rfl, ⟨HLT.out.1, HLT.out.2⟩, ⟨HZ5.out, C5.out⟩, SN.out⟩
            case measure =>
              first | rw [N3.out] | skip
              exact step_down HLT.out.2
        · have b2 : ¬ (k : Int) < 12 := by omega
          clear hlt h12
          go_wp2_with fail
          refine st.out.image.mono ?_
          rintro e y5 ⟨z5, rfl, t5⟩
          have Y5 := Lib.hid t5
          have OK5 := t5.okay
          have AH := Lib.hid (rahead_any z5 s' y5 t5.now.2 OK5.full OK5.few)
          clear st t5 OK5
          go_wp2_with fail
          refine AH.out.mono ?_
          rintro e y6 ⟨z6, q6, rfl, p6, j6⟩
          have Y6 := Lib.hid (Y5.out.below j6)
          have SA := Lib.hid (rsame10_any z6 v6o _ _ q6 rows y6 p6.isLL Y6.out.now.1.2)
          rw [decide_eq_true rfl] at SA
          clear Y5 AH p6 j6
          go_wp2_with fail
          refine SA.out.mono ?_
          rintro e y7 ⟨rfl, j7⟩
          have K7 := (Y6.out.below j7).under
          clear SA Y6 j7
          go_wp2
          go_ret
          exact ⟨rfl, K7⟩
      · have b1 : ¬ (k : Int) < (nn : Int) := by omega
        clear hlt
        go_wp2_with fail
        refine st.out.image.mono ?_
        rintro e y5 ⟨z5, rfl, t5⟩
        have Y5 := Lib.hid t5
        have OK5 := t5.okay
        have AH := Lib.hid (rahead_any z5 s' y5 t5.now.2 OK5.full OK5.few)
        clear st t5 OK5
        go_wp2_with fail
        refine AH.out.mono ?_
        rintro e y6 ⟨z6, q6, rfl, p6, j6⟩
        have Y6 := Lib.hid (Y5.out.below j6)
        have SA := Lib.hid (rsame10_any z6 v6o _ _ q6 rows y6 p6.isLL Y6.out.now.1.2)
        rw [decide_eq_true rfl] at SA
        clear Y5 AH p6 j6
        go_wp2_with fail
        refine SA.out.mono ?_
        rintro e y7 ⟨rfl, j7⟩
        have K7 := (Y6.out.below j7).under
        clear SA Y6 j7
        go_wp2
        go_ret
        exact ⟨rfl, K7⟩

end

end Go.Proofs.YtlglkiknpbfnmaaDoor
