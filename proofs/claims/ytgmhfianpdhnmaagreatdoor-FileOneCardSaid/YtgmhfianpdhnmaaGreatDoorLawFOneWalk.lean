/-
  THE WALK OF orloplaw11.FileOne: true, whatever the name and the bytes. Conditions: the tables of package sha lie as laid.
-/
import Derived.Test.YtgmhfianpdhnmaaGreatDoorPf33
namespace Go.Proofs.YtgmhfianpdhnmaaGreatDoor
open Go.RowKit Go.Maps
set_option linter.unusedVariables false
set_option maxRecDepth 100000

namespace M
variable {nm A B : List UInt8}

theorem one_put : fput [] nm A = [⟨nm, A⟩] := by
  simp [fput, fdrop, atF, lessF]

theorem one_drop : fdrop [⟨nm, A⟩] nm = [] := by
  simp [fdrop, atF, List.findIdx_cons]

theorem one_again : fput [⟨nm, A⟩] nm B = [⟨nm, B⟩] := by
  rw [fput, one_drop]
  simp [lessF]

theorem one_has : hasF [⟨nm, A⟩] nm = true := by simp [hasF]
theorem one_data : dataF [⟨nm, A⟩] nm = A := by simp [dataF, atF, List.findIdx_cons]

theorem one_names {d : List UInt8} {g : Bool} : NamesOk [⟨nm, d, g⟩] ↔ 1 ≤ nm.length ∧ nm.length ≤ 40 := by
  simp [NamesOk]

theorem one_free : freeF ((100 : Nat) : Int) [⟨nm, A⟩] = 100 - ((need A.length : Nat) : Int) := by
  simp [freeF]

theorem one_blk : blkN [⟨nm, A, false⟩] = need A.length := by simp [blkN, blkS]

theorem one_all {F : Fs} : AllF F [⟨nm, A, false⟩] := fun i hi => by
  have : i = 0 := by simpa using hi
  subst this
  rfl

theorem one_bad (h : ¬ (1 ≤ nm.length ∧ nm.length ≤ 40)) : fcode ((100 : Nat) : Int) [] [⟨nm, A, false⟩] = 1 := fcode_names fun hh => h (one_names.1 hh)

theorem one_no (h : 1 ≤ nm.length ∧ nm.length ≤ 40) (hn : 100 < need A.length) : fcode ((100 : Nat) : Int) [] [⟨nm, A, false⟩] = 2 := by
  have e : fapply [] [⟨nm, A, false⟩] = [⟨nm, A⟩] := one_put
  rw [fcode, if_neg (not_not_intro (one_names.2 h)), if_neg (not_not_intro one_all), e, if_neg (by simp), one_blk, if_pos]
  show (100 : Int) < _
  omega

theorem one_yes (h : 1 ≤ nm.length ∧ nm.length ≤ 40) (hn : need A.length ≤ 100) : fcode ((100 : Nat) : Int) [] [⟨nm, A, false⟩] = 0 := by
  have e : fapply [] [⟨nm, A, false⟩] = [⟨nm, A⟩] := one_put
  refine fcode_ok (one_names.2 h) one_all (by rw [e]; simp) ?_
  rw [one_blk]
  show _ ≤ (100 : Int)
  omega

theorem one_no2 (h : 1 ≤ nm.length ∧ nm.length ≤ 40) (hn : 100 < need A.length + need B.length) : fcode ((100 : Nat) : Int) [⟨nm, A⟩] [⟨nm, B, false⟩] = 2 := by
  have e : fapply [⟨nm, A⟩] [⟨nm, B, false⟩] = [⟨nm, B⟩] := one_again
  rw [fcode, if_neg (not_not_intro (one_names.2 h)), if_neg (not_not_intro one_all), e, if_neg (by simp), one_blk, one_free, if_pos]
  omega

theorem one_yes2 (h : 1 ≤ nm.length ∧ nm.length ≤ 40) (hn : need A.length + need B.length ≤ 100) : fcode ((100 : Nat) : Int) [⟨nm, A⟩] [⟨nm, B, false⟩] = 0 := by
  have e : fapply [⟨nm, A⟩] [⟨nm, B, false⟩] = [⟨nm, B⟩] := one_again
  refine fcode_ok (one_names.2 h) one_all (by rw [e]; simp) ?_
  rw [one_blk, one_free]
  omega

theorem one_gone (h : 1 ≤ nm.length ∧ nm.length ≤ 40) (hn : need A.length ≤ 100) : fcode ((100 : Nat) : Int) [⟨nm, A⟩] [⟨nm, [], true⟩] = 0 := by
  have e : fapply [⟨nm, A⟩] [⟨nm, [], true⟩] = [] := one_drop
  refine fcode_ok (one_names.2 h) (fun i hi => ?_) (by rw [e]; decide) ?_
  · have : i = 0 := by simpa using hi
    subst this
    show (true && !hasF [⟨nm, A⟩] nm) = false
    rw [one_has]
    rfl
  · rw [one_free]
    show (0 : Int) ≤ _
    omega
end M

/-- A commit of one change, its list just made. -/
theorem fine_one {w0 w wB : World} {g gf N p : Nat} {F : M.Fs} {R : Nat → Prop} (f : Fine w0 w g gf N F R) (hL : Laid w0) (s : ByteArray) (nm bs : List UInt8) (gone : Bool) (dv : Value) (hs : s = ⟨nm.toArray⟩) (hnm : nm.length ≤ maxLen) (hd : IsB w0 dv bs) (h0 : ∀ n c, dv = .slice none n c → c = 0) (hbs : bs.length ≤ 1099511627776)
    (hw : wB = w.alloc (.cells #[.string s, dv, .bool gone] 44)) (hp : p = w.heap.size) (r : Int) (hr : r = M.fcode N F [⟨nm, bs, gone⟩]) (G : M.Fs) (hG : G = if r = 0 then M.fapply F [⟨nm, bs, gone⟩] else F) :
    Calls Tryz.prog 13 #[.pointer (some ⟨gf, 0, none⟩), .slice (some ⟨p, 0, none⟩) 1 1] wB fun e w' => e = .returned (.int .i64 r) ∧ Far w0 R w w' ∧ Fine w0 w' g gf N G R := by
  have k : Below w.heap.size w wB := by rw [hw]; exact (Below.refl _ _).alloc (Nat.le_refl _) _
  have b : Blk wB p 44 [.string ⟨nm.toArray⟩, dv, .bool gone] := by rw [← hs, hw]; exact Blk.newAt _ _ _ _ _ hp rfl
  have hlt := b.lt
  have f2 := f.below k
  refine (f2.commit hL (.slice (some ⟨p, 0, none⟩) 1 1) [⟨nm, bs, gone⟩] [dv] (fun x c => fl_one hnm (hd.below (f2.under.trans (Chg.below c f2.under.size fun _ h => h.2))) h0 (b.chg c fun h => h.1 (.inr ⟨by omega, hlt⟩))) (by show 1 ≤ 10000; decide) (fun c hc => ?_) r hr G hG).mono ?_
  · have : c = ⟨nm, bs, gone⟩ := by simpa using hc
    subst this
    exact hbs
  · rintro e w' ⟨he, far, f3⟩
    exact ⟨he, (Far.of_below k).trans (far.mono fun j _ h => ⟨fun hr => h.1 (.inl hr), h.2⟩), f3.less fun k h => .inl h⟩


set_option maxHeartbeats 16000000 in
theorem fileOne_walk (W : World) (hL : Laid W) (s : ByteArray) (hsl : s.size ≤ maxLen) (av : Value) (A : List UInt8) (ha : IsB W av A) (za : ∀ n c, av = .slice none n c → c = 0) (bv : Value) (B : List UInt8) (hb : IsB W bv B) (zb : ∀ n c, bv = .slice none n c → c = 0) :
    Calls Tryz.prog 7 #[.string s, av, bv] W fun e w' => e = .returned (.bool true) ∧ Below W.heap.size W w' := by
  obtain ⟨nm, hnm⟩ : ∃ nm : List UInt8, nm = s.data.toList := ⟨_, rfl⟩
  have HS : Hid (s = ⟨nm.toArray⟩) := by rw [Hid, hnm]
  have hsz : s.size = nm.length := by rw [HS.out]; rfl
  obtain ⟨n, hn⟩ : ∃ n, n = nm.length := ⟨_, rfl⟩
  rw [← hn] at hsz
  have HN : Hid (n = nm.length) := hn
  have HNM : Hid (nm.length ≤ maxLen) := by rw [Hid, ← hn, ← hsz]; exact hsl
  obtain ⟨aa, ac, rfl⟩ := ha.shape
  obtain ⟨ba, bc, rfl⟩ := hb.shape
  obtain ⟨an, han⟩ : ∃ n, n = A.length := ⟨_, rfl⟩
  obtain ⟨bn, hbn⟩ : ∃ n, n = B.length := ⟨_, rfl⟩
  rw [← han] at ha za ⊢
  rw [← hbn] at hb zb ⊢
  have HA := Lib.hid ha
  have HB := Lib.hid hb
  have ZA := Lib.hid za
  have ZB := Lib.hid zb
  have HAN := Lib.hid han
  have HBN := Lib.hid hbn
  have HL := Lib.hid hL
  have CA := Lib.hid (awake11_any W hL)
  clear ha hb za zb han hbn hL hnm hn hsl
  go_enter Tryz.func7, Tryz.ntmps7
  go_wp2_with fail
  refine CA.out.mono ?_
  rintro e w1 ⟨rfl, k1⟩
  have K1 := Lib.hid k1
  clear CA k1
  by_cases g1 : 100 < n
  · have b1 : (100 : Int) < (n : Int) := by omega
    go_wp2
    go_ret
    exact ⟨rfl, K1.out⟩
  have b1 : ¬ (100 : Int) < (n : Int) := by omega
  by_cases g2 : 20000 < an
  · have b2 : (20000 : Int) < (an : Int) := by omega
    go_wp2
    go_ret
    exact ⟨rfl, K1.out⟩
  have b2 : ¬ (20000 : Int) < (an : Int) := by omega
  by_cases g3 : 20000 < bn
  · have b3 : (20000 : Int) < (bn : Int) := by omega
    go_wp2
    go_ret
    exact ⟨rfl, K1.out⟩
  have b3 : ¬ (20000 : Int) < (bn : Int) := by omega
  have CN := Lib.hid (dst_new (R := fun _ => False) 174 (by decide) K1.out (fun k h => h.elim))
  have HG := Lib.hid (And.intro g1 (And.intro g2 g3))
  clear g1 g2 g3
  go_wp2_with fail
  refine CN.out.mono ?_
  rintro e w2 ⟨g, rfl, d2, k2⟩
  have CO := Lib.hid (fine_new (n := 174) d2 HL.out (by decide) (by decide))
  clear CN d2 k2
  go_wp2_with fail
  refine CO.out.mono ?_
  rintro e w3 ⟨-, gf, rfl, f3⟩
  have F3 := Lib.hid f3
  have C1 := Lib.hid (fun (r : Int) hr G hG => fine_one f3 HL.out s nm A false (.slice aa an ac) HS.out HNM.out HA.out ZA.out (by have := HAN.out; have := HG.out; omega) rfl rfl r hr G hG)
  clear CO f3 b1 b2 b3
  by_cases hok : 1 ≤ n ∧ n ≤ 40
  · have HOK : Hid (1 ≤ nm.length ∧ nm.length ≤ 40) := by rw [Hid, ← HN.out]; exact hok
    have b4 : ¬ (n : Int) < (1 : Int) := by omega
    have b5 : ¬ (40 : Int) < (n : Int) := by omega
    by_cases hsp : M.need A.length ≤ 100
    · have HNA : Hid (M.need A.length ≤ 100) := hsp
      have C1' := Lib.hid (C1.out 0 (M.one_yes HOK.out hsp).symm [⟨nm, A⟩] (by rw [if_pos rfl]; exact M.one_put.symm))
      clear C1 hok hsp
      go_wp2_with fail
      refine C1'.out.mono ?_
      rintro e w4 ⟨rfl, -, f4⟩
      have CR := Lib.hid (f4.read_yes nm M.one_has)
      rw [M.one_data, ← HS.out] at CR
      clear C1'
      go_wp2_with fail
      refine CR.out.mono ?_
      rintro e w5 ⟨xr, rfl, o5, k5⟩
      have F5 := Lib.hid (f4.below k5)
      have X5 := Lib.hid o5.isB
      have LX := Lib.hid (o5.lies (S := fun b => w4.heap.size ≤ b ∧ b < w5.heap.size) fun k h1 h2 => ⟨h1, h2⟩)
      clear CR o5 k5 f4
      have C2 := Lib.hid (fun (r : Int) hr G hG => fine_one F5.out HL.out s nm B false (.slice ba bn bc) HS.out HNM.out HB.out ZB.out (by have := HBN.out; have := HG.out; omega) rfl rfl r hr G hG)
      by_cases hsp2 : M.need A.length + M.need B.length ≤ 100
      · have C2' := Lib.hid (C2.out 0 (M.one_yes2 HOK.out hsp2).symm [⟨nm, B⟩] (by rw [if_pos rfl]; exact M.one_again.symm))
        have HNX : Hid (M.need B.length ≤ 100) := by rw [Hid]; omega
        clear C2 hsp2
        go_wp2_with fail
        refine C2'.out.mono ?_
        rintro e w6 ⟨rfl, far6, f6⟩
        have X6 := Lib.hid (X5.out.chg far6 (LX.out.mono fun b hb e => e.1 (.inr hb)))
        clear C2' far6 X5 F5
        have CR := Lib.hid (f6.read_yes nm M.one_has)
        rw [M.one_data, ← HS.out] at CR
        have F6 := Lib.hid f6
        clear f6
        go_wp2_with fail
        refine CR.out.mono ?_
        rintro e w7 ⟨yr, rfl, o7, k7⟩
        have F7 := Lib.hid (F6.out.below k7)
        have Y7 := Lib.hid o7.isB
        have LY := Lib.hid (o7.lies (S := fun b => w6.heap.size ≤ b ∧ b < w7.heap.size) fun k h1 h2 => ⟨h1, h2⟩)
        have X7 := Lib.hid (X6.out.below k7)
        have C4 := Lib.hid (fine_one F7.out HL.out s nm [] true (.slice none 0 0) HS.out HNM.out (IsB.nil _) (fun n c e => by injection e with _ _ e; exact e.symm) (by decide) rfl rfl 0 (M.one_gone HOK.out HNX.out).symm [] (by rw [if_pos rfl]; exact M.one_drop.symm))
        clear CR o7 k7 F6 X6
        go_wp2_with fail
        refine C4.out.mono ?_
        rintro e w8 ⟨rfl, far8, f8⟩
        have Y8 := Lib.hid (Y7.out.chg far8 (LY.out.mono fun b hb e => e.1 (.inr hb)))
        have X8 := Lib.hid (X7.out.chg far8 (LX.out.mono fun b hb e => e.1 (.inl (.inr hb))))
        have C5 := Lib.hid (f8.read_no nm HNM.out rfl)
        rw [← HS.out] at C5
        have F8 := Lib.hid f8
        clear C4 f8 far8 X7 Y7
        go_wp2_with fail
        refine C5.out.mono ?_
        rintro e w9 ⟨rfl, k9⟩
        have F9 := Lib.hid (F8.out.see k9)
        have U9 := Lib.hid F9.out.under
        have CE1 := Lib.hid (requal_b xr (.slice aa an ac) A A w9 (X8.out.below k9) (HA.out.below U9.out))
        rw [decide_eq_true rfl] at CE1
        have Y9 := Lib.hid (Y8.out.below k9)
        clear C5 k9 F8 X8 Y8
        go_wp2_with fail
        refine CE1.out.mono ?_
        rintro e w10 ⟨rfl, k10⟩
        have U10 : Hid (Below W.heap.size W w10) := U9.out.trans (k10.mono U9.out.size)
        have F10 := Lib.hid (F9.out.see k10)
        have CE2 := Lib.hid (requal_b yr (.slice ba bn bc) B B w10 (Y9.out.below k10) (HB.out.below U10.out))
        rw [decide_eq_true rfl] at CE2
        clear CE1 k10 F9 Y9
        go_wp2_with fail
        refine CE2.out.mono ?_
        rintro e w11 ⟨rfl, k11⟩
        have U11 : Hid (Below W.heap.size W w11) := U10.out.trans (k11.mono U10.out.size)
        have CF := Lib.hid ((F10.out.see k11).free)
        clear CE2 k11 F10
        go_wp2_with fail
        refine CF.out.mono ?_
        rintro e w12 ⟨rfl, k12⟩
        have U12 : Hid (Below W.heap.size W w12) := U11.out.trans (k12.mono U11.out.size)
        clear CF k12
        go_wp2
        go_ret
        exact ⟨rfl, U12.out⟩
      · have C2' := Lib.hid (C2.out 2 (M.one_no2 HOK.out (by omega)).symm [⟨nm, A⟩] (by rw [if_neg (by decide)]))
        have HNX : Hid (M.need A.length ≤ 100) := HNA
        clear C2 hsp2
        go_wp2_with fail
        refine C2'.out.mono ?_
        rintro e w6 ⟨rfl, far6, f6⟩
        have X6 := Lib.hid (X5.out.chg far6 (LX.out.mono fun b hb e => e.1 (.inr hb)))
        clear C2' far6 X5 F5
        have CR := Lib.hid (f6.read_yes nm M.one_has)
        rw [M.one_data, ← HS.out] at CR
        have F6 := Lib.hid f6
        clear f6
        go_wp2_with fail
        refine CR.out.mono ?_
        rintro e w7 ⟨yr, rfl, o7, k7⟩
        have F7 := Lib.hid (F6.out.below k7)
        have Y7 := Lib.hid o7.isB
        have LY := Lib.hid (o7.lies (S := fun b => w6.heap.size ≤ b ∧ b < w7.heap.size) fun k h1 h2 => ⟨h1, h2⟩)
        have X7 := Lib.hid (X6.out.below k7)
        have C4 := Lib.hid (fine_one F7.out HL.out s nm [] true (.slice none 0 0) HS.out HNM.out (IsB.nil _) (fun n c e => by injection e with _ _ e; exact e.symm) (by decide) rfl rfl 0 (M.one_gone HOK.out HNX.out).symm [] (by rw [if_pos rfl]; exact M.one_drop.symm))
        clear CR o7 k7 F6 X6
        go_wp2_with fail
        refine C4.out.mono ?_
        rintro e w8 ⟨rfl, far8, f8⟩
        have Y8 := Lib.hid (Y7.out.chg far8 (LY.out.mono fun b hb e => e.1 (.inr hb)))
        have X8 := Lib.hid (X7.out.chg far8 (LX.out.mono fun b hb e => e.1 (.inl (.inr hb))))
        have C5 := Lib.hid (f8.read_no nm HNM.out rfl)
        rw [← HS.out] at C5
        have F8 := Lib.hid f8
        clear C4 f8 far8 X7 Y7
        go_wp2_with fail
        refine C5.out.mono ?_
        rintro e w9 ⟨rfl, k9⟩
        have F9 := Lib.hid (F8.out.see k9)
        have U9 := Lib.hid F9.out.under
        have CE1 := Lib.hid (requal_b xr (.slice aa an ac) A A w9 (X8.out.below k9) (HA.out.below U9.out))
        rw [decide_eq_true rfl] at CE1
        have Y9 := Lib.hid (Y8.out.below k9)
        clear C5 k9 F8 X8 Y8
        go_wp2_with fail
        refine CE1.out.mono ?_
        rintro e w10 ⟨rfl, k10⟩
        have U10 : Hid (Below W.heap.size W w10) := U9.out.trans (k10.mono U9.out.size)
        have F10 := Lib.hid (F9.out.see k10)
        have CE2 := Lib.hid (requal_b yr (.slice aa an ac) A A w10 (Y9.out.below k10) (HA.out.below U10.out))
        rw [decide_eq_true rfl] at CE2
        clear CE1 k10 F9 Y9
        go_wp2_with fail
        refine CE2.out.mono ?_
        rintro e w11 ⟨rfl, k11⟩
        have U11 : Hid (Below W.heap.size W w11) := U10.out.trans (k11.mono U10.out.size)
        have CF := Lib.hid ((F10.out.see k11).free)
        clear CE2 k11 F10
        go_wp2_with fail
        refine CF.out.mono ?_
        rintro e w12 ⟨rfl, k12⟩
        have U12 : Hid (Below W.heap.size W w12) := U11.out.trans (k12.mono U11.out.size)
        clear CF k12
        go_wp2
        go_ret
        exact ⟨rfl, U12.out⟩
    · have C1' := Lib.hid (C1.out 2 (M.one_no HOK.out (by omega)).symm [] (by rw [if_neg (by decide)]))
      have hbig : 25600 < an := by rw [HAN.out]; unfold M.need at hsp; omega
      have HB6 : Hid ((25600 : Int) < (an : Int)) := by rw [Hid]; omega
      clear C1 hok hsp hbig
      go_wp2_with fail
      refine C1'.out.mono ?_
      rintro e w4 ⟨rfl, -, f4⟩
      have b6 := HB6.out
      have KE := Lib.hid f4.under
      clear C1' f4
      go_wp2
      all_goals (
        go_ret
        exact ⟨rfl, KE.out⟩)
  · have C1' := Lib.hid (C1.out 1 (M.one_bad (by rw [← HN.out]; exact hok)).symm [] (by rw [if_neg (by decide)]))
    clear C1
    go_wp2_with fail
    refine C1'.out.mono ?_
    rintro e w4 ⟨rfl, -, f4⟩
    have CN := Lib.hid f4.names
    have U4 := Lib.hid f4.under
    clear C1' f4
    by_cases h1 : n < 1
    · have b4 : (n : Int) < (1 : Int) := by omega
      go_wp2_with fail
      refine CN.out.mono ?_
      rintro e w5 ⟨v, rfl, o5, k5⟩
      obtain ⟨va, vc, hv⟩ := ownShape o5
      have U5 : Hid (Below W.heap.size W w5) := U4.out.trans (k5.mono U4.out.size)
      subst hv
      clear CN o5 k5
      go_wp2
      go_ret
      exact ⟨rfl, U5.out⟩
    · have b4 : ¬ (n : Int) < (1 : Int) := by omega
      have b5 : (40 : Int) < (n : Int) := by omega
      go_wp2_with fail
      refine CN.out.mono ?_
      rintro e w5 ⟨v, rfl, o5, k5⟩
      obtain ⟨va, vc, hv⟩ := ownShape o5
      have U5 : Hid (Below W.heap.size W w5) := U4.out.trans (k5.mono U4.out.size)
      subst hv
      clear CN o5 k5
      go_wp2
      go_ret
      exact ⟨rfl, U5.out⟩

end Go.Proofs.YtgmhfianpdhnmaaGreatDoor
