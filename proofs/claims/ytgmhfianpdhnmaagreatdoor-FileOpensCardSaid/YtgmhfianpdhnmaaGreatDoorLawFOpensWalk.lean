/-
  THE WALK OF orloplaw11.FileOpens: true, whatever the image and the name. Conditions: the tables of package sha lie as laid.
-/
import Derived.Test.YtgmhfianpdhnmaaGreatDoorPf33
namespace Go.Proofs.YtgmhfianpdhnmaaGreatDoor
open Go.RowKit Go.Maps
set_option linter.unusedVariables false
set_option maxRecDepth 100000

theorem M.nbS_big {s : List (List UInt8)} (h : 74 < s.length) (h2 : s.length ≤ 90) : M.nbS s = s.length - 74 := by unfold M.nbS; omega

/-- The document's files laid beside the code's: all as they lie on the disk, and one commit of both. -/
structure Beside (w0 w : World) (g gf gr N : Nat) (F : M.Fs) (R S : Nat → Prop) (v : Value) (xs : List Value) : Prop where
  fine : Fine w0 w g gf N F R
  at_ : RefAt11 w gr v ((N : Nat) : Int)
  fs : IsFs S w v F xs
  there : R gr
  sR : ∀ k, S k → R k
  ne : ¬ S gr

section
variable {w0 w w' : World} {g gf gr N : Nat} {F : M.Fs} {R S : Nat → Prop} {v : Value} {xs : List Value}

theorem Beside.below (b : Beside w0 w g gf gr N F R S v xs) (k : Below w.heap.size w w') : Beside w0 w' g gf gr N F (fun b => R b ∨ (w.heap.size ≤ b ∧ b < w'.heap.size)) S v xs :=
  ⟨b.fine.below k, b.at_.below k b.at_.lt, b.fs.below k, .inl b.there, fun k hk => .inl (b.sR k hk), b.ne⟩

theorem Beside.less {R' : Nat → Prop} (b : Beside w0 w g gf gr N F R S v xs) (hg : R' gr) (hS : ∀ k, S k → R' k) (h : ∀ k, R' k → R k) : Beside w0 w g gf gr N F R' S v xs :=
  ⟨b.fine.less h, b.at_, b.fs, hg, hS, b.ne⟩

theorem Beside.see (b : Beside w0 w g gf gr N F R S v xs) (k : Below w.heap.size w w') : Beside w0 w' g gf gr N F R S v xs :=
  (b.below k).less b.there b.sR fun _ h => .inl h

theorem Beside.far {F2 : M.Fs} (b : Beside w0 w g gf gr N F R S v xs) (far : Far w0 R w w') (f : Fine w0 w' g gf N F2 R) : RefAt11 w' gr v ((N : Nat) : Int) ∧ IsFs S w' v F xs :=
  ⟨far.blk b.at_ b.there, far.fs b.fs b.sR⟩
end

set_option maxHeartbeats 32000000 in
theorem fileOpens_walk (W : World) (hL : Laid W) (iv : Value) (img : List UInt8) (hi : IsB W iv img) (hnil : ∀ n c, iv = .slice none n c → c = 0) (s : ByteArray) (hsl : s.size ≤ maxLen) :
    Calls Tryz.prog 6 #[iv, .string s] W fun e w' => e = .returned (.bool true) ∧ Below W.heap.size W w' := by
  obtain ⟨nm, hnm⟩ : ∃ nm : List UInt8, nm = s.data.toList := ⟨_, rfl⟩
  have HS : Hid (s = ⟨nm.toArray⟩) := by rw [Hid, hnm]
  have hsz : s.size = nm.length := by rw [HS.out]; rfl
  obtain ⟨n0, hn0⟩ : ∃ n, n = nm.length := ⟨_, rfl⟩
  rw [← hn0] at hsz
  have HNM : Hid (nm.length ≤ maxLen) := by rw [Hid, ← hn0, ← hsz]; exact hsl
  have HI := Lib.hid hi
  have HNIL := Lib.hid hnil
  have HL := Lib.hid hL
  obtain ⟨ia, ic, rfl⟩ := hi.shape
  obtain ⟨q, hq⟩ : ∃ q, q = img.length := ⟨_, rfl⟩
  rw [← hq] at HI HNIL ⊢
  have HQ : Hid (img.length = q) := hq.symm
  have CA := Lib.hid (awake11_any W hL)
  clear hi hnil hL hq hnm hn0 hsl
  go_enter Tryz.func6, Tryz.ntmps6
  go_wp2_with fail
  refine CA.out.mono ?_
  rintro e w1 ⟨rfl, k1⟩
  have K1 := Lib.hid k1
  clear CA k1
  by_cases g1 : 23040 < q
  · have b1 : (23040 : Int) < (q : Int) := by omega
    go_wp2
    go_ret
    exact ⟨rfl, K1.out⟩
  have b1 : ¬ (23040 : Int) < (q : Int) := by omega
  by_cases g2 : 100 < n0
  · have b2 : (100 : Int) < (n0 : Int) := by omega
    go_wp2
    go_ret
    exact ⟨rfl, K1.out⟩
  have b2 : ¬ (100 : Int) < (n0 : Int) := by omega
  have HQL : Hid (q ≤ 23040) := by rw [Hid]; omega
  clear g1 g2
  have E1 : Hid (Own (w1.alloc (.cells #[] 5)) w1.heap.size (.slice (some ⟨w1.heap.size, 0, none⟩) 0 0) []) := own_empty w1
  have KA : Hid (Below w1.heap.size w1 (w1.alloc (.cells #[] 5))) := (Below.refl _ _).alloc (Nat.le_refl _) _
  go_wp2_with (at_builtin; go_must (refine wpList_app _ rfl _ _ rfl w1.heap.size _ [] rfl E1.out _ img rfl ?c1 HNIL.out (by have := HQ.out; have := HQL.out; simp; omega) KA.out.size ?_))
  case c1 => exact (HI.out.below K1.out).below KA.out
  intro v2 w2 o2 k2 _
  have O2 : Hid (Own w2 w1.heap.size v2 (img ++ List.replicate 0 0)) := by rw [List.replicate_zero, List.append_nil]; exact o2
  have K2 : Hid (Below w1.heap.size w1 w2) := KA.out.trans (k2.mono (Nat.le_refl _))
  obtain ⟨va, vc, rfl⟩ := o2.shape'
  rw [HQ.out]
  rw [HQ.out] at O2
  clear o2 k2 E1 KA b1 b2 hsz
  obtain ⟨P, hP⟩ : ∃ P, P = (256 - q % 256) % 256 := ⟨_, rfl⟩
  have HP : Hid (P < 256 ∧ (q + P) % 256 = 0 ∧ q + P ≤ 23040) := ⟨by omega, by omega, by have := HQL.out; omega⟩
  clear hP
  go_wp2
  go_loopw [5] (fun v wr => ∃ (j : Nat) (a : Option Addr) (c : Nat), v = .slice a (q + j) c ∧ Hid (j ≤ P) ∧ Hid (Own wr w1.heap.size (.slice a (q + j) c) (img ++ List.replicate j 0)) ∧ Hid (Below w1.heap.size w1 wr))
    (fun v _ => P + q - lenOf9 v)
  case atStart => exact ⟨0, va, vc, rfl, Nat.zero_le _, O2, K2⟩
  case round =>
    clear O2 K2
    obtain ⟨wz, rfl⟩ : ∃ x, x = wr := ⟨_, rfl⟩
    obtain ⟨j, a, c, rfl, hj, oo, kk⟩ := hrel
    obtain ⟨n, hn⟩ : ∃ n, n = q + j := ⟨_, rfl⟩
    rw [← hn] at oo ⊢
    have HN := Lib.hid hn
    obtain ⟨r, hr⟩ : ∃ r, r = n % 256 := ⟨_, rfl⟩
    have t1 : (n : Int).tmod 256 = (r : Int) := by rw [Int.tmod_eq_emod_of_nonneg (by omega)]; omega
    have t1' : (n : Int) % 256 = (r : Int) := by omega
    by_cases hz : r = 0
    · have t3 : ((r : Int) != 0) = false := by rw [hz]; rfl
      have H256 : Hid (n % 256 = 0) := by rw [Hid, ← hr, hz]
      have HNL : Hid (n ≤ 23040) := by rw [Hid]; have := hj.out; have := HP.out; omega
      obtain ⟨G, hG⟩ : ∃ F, F = img ++ List.replicate j 0 := ⟨_, rfl⟩
      rw [← hG] at oo
      have HGL : Hid (G.length = n) := by rw [Hid, hG, List.length_append, List.length_replicate, HQ.out, hn]
      clear hr hz hn hG hj
      go_upto_region 8 with fail
      clear t1 t1' t3
      have KW : Hid (Below W.heap.size W wz) := K1.out.trans (kk.out.mono K1.out.size)
      have XL := Lib.hid (dst_load (w0 := W) (R := fun _ => False) oo.out.isB (by rw [HGL.out]; exact H256.out) (by rw [HGL.out]; have := HNL.out; omega) KW.out (fun _ h => h.elim))
      obtain ⟨s1, hs⟩ : ∃ s, s = (M.dload G).safe := ⟨_, rfl⟩
      have hd : M.dload G = ⟨s1, [], 0, false⟩ := by rw [hs]; rfl
      have HSL : Hid (256 * s1.length = n) := by
        have := M.dload_ok G (by rw [HGL.out]; exact H256.out) (by rw [HGL.out]; have := HNL.out; omega)
        rw [Hid, hs, ← flat_length _ this.1.full, this.2, HGL.out]
      rw [hd] at XL
      clear hs hd oo kk KW
      go_wp2_with fail
      refine XL.out.mono ?_
      rintro e w3 ⟨g, rfl, d3, k3⟩
      have D3 := Lib.hid d3
      clear XL d3 k3
      by_cases h42 : s1.length ≤ 42
      · have b2 : (n : Int) ≤ 10752 := by have := HSL.out; omega
        have KD := Lib.hid D3.out.under
        have XO := Lib.hid (D3.out.wopen_no HL.out h42)
        clear h42
        go_wp2_with fail
        refine XO.out.mono ?_
        rintro e w4 ⟨rfl, k4⟩
        have K4 : Hid (Below W.heap.size W w4) := KD.out.trans (k4.mono KD.out.size)
        clear XO k4 D3
        go_wp2
        go_ret
        exact ⟨rfl, K4.out⟩
      · have XO := Lib.hid (D3.out.wopen HL.out (by omega) (by decide))
        have H42 : Hid (42 < s1.length) := by rw [Hid]; omega
        clear h42 D3
        go_wp2_with fail
        refine XO.out.mono ?_
        rintro e w4 ⟨-, gw, s2, rfl, ws, op⟩
        have hl2 := op.1
        have hz2 := Lib.hid op.2.2.2
        have CF := Lib.hid (ws.fopen HL.out (by have := H42.out; omega) op.2.1)
        obtain ⟨sl, hsl⟩ : ∃ sl, sl = s2.length := ⟨_, rfl⟩
        have HSN : Hid (256 * sl = n ∧ sl ≤ 90) := by have h1 := HSL.out; have h2 := HNL.out; rw [← hl2, ← hsl] at h1; exact ⟨h1, by omega⟩
        have UW : Hid (Below W.heap.size W w4) := by obtain ⟨_, _, _, u, _⟩ := ws; exact u
        have d1 : (n : Int).tdiv 256 = (sl : Int) := by rw [Int.tdiv_eq_ediv_of_nonneg (by omega)]; have := HSN.out; omega
        have d1' : (n : Int) / 256 = (sl : Int) := by have := HSN.out; omega
        have d2 : wrap64 (sl : Int) = (sl : Int) := by have := HSN.out; clear d1 d1'; unfold wrap64; omega
        obtain ⟨bn, hbn⟩ : ∃ b : Int, b = (sl : Int) - 74 := ⟨_, rfl⟩
        have d3 : (sl : Int) - 42 - 32 = bn := by clear d1 d1' d2; omega
        have d4 : wrap64 ((sl : Int) - 42) = (sl : Int) - 42 := by have := HSN.out; clear d1 d1' d2; unfold wrap64; omega
        have d5 : wrap64 bn = bn := by have := HSN.out; clear d1 d1' d2 d4 d3; unfold wrap64; omega
        clear XO ws op hl2
        go_wp2_with fail
        refine CF.out.mono ?_
        rintro e w5 ⟨k5, hh⟩
        have K5 := Lib.hid k5
        have UE : Hid (Below W.heap.size W w5) := UW.out.trans (k5.mono UW.out.size)
        clear CF k5
        rw [← hsl] at hh
        rcases hh with ⟨h1, rfl⟩ | ⟨h1, ⟨t, gf, on, rfl, fs⟩ | ⟨hno, rfl⟩⟩
        · have b3 : bn < 1 := by clear d1 d1' d2 d3 d4 d5; omega
          clear h1 hbn hsl
          go_wp2
          go_ret
          exact ⟨rfl, UE.out⟩
        · have b3 : ¬ bn < 1 := by clear d1 d1' d2 d3 d4 d5; omega
          have HBN : Hid (bn = ((M.nbS s2 : Nat) : Int) ∧ M.nbS s2 ≤ 400) := by
            have h2 := HSN.out
            have h3 := M.nbS_big (s := s2) (by rw [← hsl]; exact h1) (by rw [← hsl]; exact h2.2)
            clear d1 d1' d2 d3 d4 d5
            rw [Hid, h3, ← hsl]
            omega
          have CS := Lib.hid (seen11_any fs on)
          have D5 := Lib.hid d5
          have FI : Hid (Fine W w5 g gf (M.nbS s2) (M.filesB s2 t) (fun _ => False)) := ⟨gw, s2, t, fs, on, hz2.out, rfl, HBN.out.2, rfl⟩
          have HFQ : Hid (M.freeF ((M.nbS s2 : Nat) : Int) (M.filesB s2 t) = ((M.free (M.nbS s2) t).length : Int)) := M.freeF_img on.ok (M.datB s2) fun p hp => M.datB_len on hp
          clear h1 hbn hsl on fs
          go_wp2_with fail
          refine CS.out.mono ?_
          rintro e w6 ⟨v, xs, rfl, is6, k6⟩
          obtain ⟨va, vcp, rfl⟩ := is6.shape
          obtain ⟨fl, hfl⟩ : ∃ n, n = (M.filesB s2 t).length := ⟨_, rfl⟩
          rw [← hfl] at is6 ⊢
          obtain ⟨N, hN⟩ : ∃ N, N = M.nbS s2 := ⟨_, rfl⟩
          obtain ⟨F, hF⟩ : ∃ F, F = M.filesB s2 t := ⟨_, rfl⟩
          obtain ⟨fq, hfq⟩ : ∃ n, n = (M.free (M.nbS s2) t).length := ⟨_, rfl⟩
          rw [← hF] at is6
          rw [← hN, ← hF] at FI
          rw [← hfq, ← hN, ← hF] at HFQ
          rw [← hN] at HBN
          clear d1 d1' d2 d3 d4 d5
          have hk6 := k6.size
          obtain ⟨w7, hw7⟩ : ∃ x, Hid (x = w6.alloc (.cells #[.slice va fl vcp, .int .i64 bn] 32)) := ⟨_, rfl⟩
          obtain ⟨gr, hgr⟩ : ∃ x, Hid (x = w6.heap.size) := ⟨_, rfl⟩
          have k7 : Below w6.heap.size w6 w7 := by rw [hw7.out]; exact (Below.refl _ _).alloc (Nat.le_refl _) _
          have b7 : RefAt11 w7 gr (.slice va fl vcp) ((N : Nat) : Int) := by
            rw [← HBN.out.1, hw7.out]; exact Blk.newAt _ _ _ _ _ hgr.out rfl
          have hgr' := hgr.out
          have hlt7 := b7.lt
          have B7 : Hid (Beside W w7 g gf gr N F (fun b => False ∨ (w5.heap.size ≤ b ∧ b < w7.heap.size)) (fun j => w5.heap.size ≤ j ∧ j < w6.heap.size) (.slice va fl vcp) xs) :=
            ⟨FI.out.below (k6.trans (k7.mono hk6)), b7, is6.below k7, .inr ⟨by omega, hlt7⟩, fun k hk => .inr ⟨hk.1, by have := k7.size; omega⟩, fun h => by omega⟩
          clear CS is6 k6 hfl hN hF hfq hk6 k7 b7 hgr' hlt7 FI
          have CF := Lib.hid B7.out.fine.free
          rw [HFQ.out] at CF
          have d5 := D5.out
          go_wp2_with (first
            | (go_at_call 29; rw [← hgr.out, ← hw7.out]; go_must (refine CF.out.mono ?_)))
          rintro e w8 ⟨rfl, k8⟩
          clear d5
          have B8 := Lib.hid (B7.out.see k8)
          have CR := Lib.hid (rfree_any B8.out.at_ B8.out.fs (by have := B8.out.fine.few; omega) B8.out.fine.data (by have := HBN.out; omega))
          rw [HFQ.out] at CR
          clear CF k8 B7 hw7 hgr
          go_wp2_with fail
          refine CR.out.mono ?_
          rintro e w9 ⟨rfl, rfl⟩
          have CF := Lib.hid B8.out.fine.free
          rw [HFQ.out] at CF
          have bq : ¬ (fq : Int) < 0 := by omega
          clear CR
          go_wp2_with fail
          refine CF.out.mono ?_
          rintro e wA ⟨rfl, kA⟩
          have BA := Lib.hid (B8.out.see kA)
          clear CF kA B8
          have hcv : (convert 42 42 (.slice (some ⟨wA.heap.size, 0, none⟩) 1 1)).run Tryz.prog (wA.alloc (.cells #[.int .u8 120] 5)) = .ok (.slice (some ⟨wA.heap.size, 0, none⟩) 1 1) (wA.alloc (.cells #[.int .u8 120] 5 (1, 2))) :=
            Lib.run_convert_bytes_const wA 42 5 #[.int .u8 120] 1 1 Tryz.underlying42 Tryz.underlying5
          obtain ⟨wB, hwB⟩ : ∃ x, Hid (x = wA.alloc (.cells #[.int .u8 120] 5 (1, 2))) := ⟨_, rfl⟩
          obtain ⟨pB, hpB⟩ : ∃ x, Hid (x = wA.heap.size) := ⟨_, rfl⟩
          obtain ⟨wC, hwC⟩ : ∃ x, Hid (x = wB.alloc (.cells #[.string s, .slice (some ⟨pB, 0, none⟩) 1 1, .bool false] 44)) := ⟨_, rfl⟩
          obtain ⟨pC, hpC⟩ : ∃ x, Hid (x = wA.heap.size + 1) := ⟨_, rfl⟩
          have hpCB : pC = wB.heap.size := by rw [hpC.out, hwB.out]; simp
          have kB : Below wA.heap.size wA wB := by rw [hwB.out]; exact (Below.refl _ _).alloc (Nat.le_refl _) _
          have kC : Below wB.heap.size wB wC := by rw [hwC.out]; exact (Below.refl _ _).alloc (Nat.le_refl _) _
          have KAC : Hid (Below wA.heap.size wA wC) := kB.trans (kC.mono kB.size)
          have iB : IsB wB (.slice (some ⟨pB, 0, none⟩) 1 1) [120] := by rw [hpB.out, hwB.out]; exact isB_oneM wA _ 120 120 rfl _
          have IC := Lib.hid (iB.below kC)
          have hzB := kB.size
          have hzC := kC.size
          have hpB' := hpB.out
          have bC : Blk wC pC 44 [.string ⟨nm.toArray⟩, .slice (some ⟨pB, 0, none⟩) 1 1, .bool false] := by rw [← HS.out, hwC.out]; exact Blk.newAt _ _ _ _ _ hpCB rfl
          have hltC := bC.lt
          have HRB : wA.heap.size ≤ pB ∧ pB < wC.heap.size := by
            have := iB.there (by decide) ⟨pB, 0, none⟩ 1 1 rfl
            exact ⟨by omega, by have : pB < wB.heap.size := this; omega⟩
          have BC := Lib.hid (BA.out.below KAC.out)
          have HFLs : Hid (∀ x, Chg (fun k => ¬ (((False ∨ (w5.heap.size ≤ k ∧ k < w7.heap.size)) ∨ (wA.heap.size ≤ k ∧ k < wC.heap.size))) ∧ W.heap.size ≤ k) wC x → IsFL x (.slice (some ⟨pC, 0, none⟩) 1 1) [⟨nm, [120], false⟩] [.slice (some ⟨pB, 0, none⟩) 1 1]) := fun x cx =>
            fl_one HNM.out (IC.out.chg cx (fun ad n cc e => by
              injection e with e
              injection e with e
              subst e
              exact fun h => h.1 (.inr HRB))) (fun n c e => by cases e) (bC.chg cx fun h => h.1 (.inr ⟨by omega, hltC⟩))
          obtain ⟨r2, hr2⟩ : ∃ r : Int, r = M.fcode N F [⟨nm, [120], false⟩] := ⟨_, rfl⟩
          obtain ⟨F2, hF2⟩ : ∃ F2, F2 = if r2 = 0 then M.fapply F [⟨nm, [120], false⟩] else F := ⟨_, rfl⟩
          have HR2 := Lib.hid hr2
          have HF2 := Lib.hid hF2
          have C1 := Lib.hid (BC.out.fine.commit HL.out (.slice (some ⟨pC, 0, none⟩) 1 1) [⟨nm, [120], false⟩] [.slice (some ⟨pB, 0, none⟩) 1 1] HFLs.out (by show 1 ≤ 10000; decide) (fun c hc => by
            have : c = ⟨nm, [120], false⟩ := by simpa using hc
            subst this
            show 1 ≤ 1099511627776
            decide) r2 hr2 F2 hF2)
          clear hr2 hF2 kB kC iB hzB hzC hpB' bC hltC HRB hpCB bq
          go_wp2_with (first
            | (go_at_call 13; rw [← hpC.out, ← hwB.out, ← hpB.out, ← hwC.out]; go_must (refine C1.out.mono ?_)))
          rintro e wD ⟨rfl, farD, fD⟩
          have hb := BC.out.far farD fD
          have hfl := HFLs.out wD farD
          have hst := BC.out.sR
          have hth := BC.out.there
          have CR := Lib.hid (rcommit11_any hb.1 hb.2 BC.out.ne (fun j hj => (fD.rlt j (hst j hj)).2) BC.out.fine.few BC.out.fine.data (by have := HBN.out; omega) _ _ _ hfl (by show 1 ≤ 100; decide) (fun c hc => by
            have : c = ⟨nm, [120], false⟩ := by simpa using hc
            subst this
            show 1 ≤ 1099511627776
            decide) r2 HR2.out F2 HF2.out)
          have FD := Lib.hid fD
          have HTH := Lib.hid hth
          clear C1 farD fD hb hfl hst hth hcv hwB hpB hwC hpC
          go_wp2_with fail
          refine CR.out.mono ?_
          rintro e wE ⟨rfl, cE, v2, xs2, atE, isE⟩
          have FE := Lib.hid (FD.out.ref HTH.out cE)
          have CS := Lib.hid (FE.out.same atE isE (by have := FE.out.few; omega) FE.out.data true (by simp))
          have UEE := Lib.hid FE.out.under
          clear CR cE atE isE FE
          go_wp2_with fail
          refine CS.out.mono ?_
          rintro e wF ⟨rfl, kF⟩
          have UF : Hid (Below W.heap.size W wF) := UEE.out.trans (kF.mono UEE.out.size)
          clear CS kF
          go_wp2
          go_ret
          exact ⟨rfl, UF.out⟩
        · have b3 : ¬ bn < 1 := by clear d1 d1' d2 d3 d4 d5; omega
          clear h1 hbn hsl hno
          go_wp2
          go_ret
          exact ⟨rfl, UE.out⟩
    · have t2 : ¬ (r : Int) = 0 := by omega
      have t3 : ((r : Int) != 0) = true := by simpa using t2
      have HJ2 : Hid (j + 1 ≤ P) := by
        have h1 := hj.out
        have h2 := HP.out.2.1
        rw [Hid]
        by_cases e : j = P
        · rw [e] at hn; rw [← hn, ← hr] at h2; exact absurd h2 hz
        · omega
      have I1 : IsB (wz.alloc (.cells #[.int .u8 0] 5)) (.slice (some ⟨wz.heap.size, 0, none⟩) 1 1) [0] := isB_one wz 5 0 0 rfl
      have HBL : Hid ((img ++ List.replicate j 0).length + 1 ≤ 140737488355328) := by rw [Hid, List.length_append, List.length_replicate, HQ.out]; have := hj.out; have := HP.out; have := HQL.out; omega
      clear hr hz hn
      go_upto_region 7 with fail
      clear t1 t1' t3
      go_wp2_with (at_builtin; go_must (refine wpList_app _ rfl _ _ rfl w1.heap.size _ (img ++ List.replicate j 0) rfl (oo.out.below ((Below.refl _ _).alloc (Nat.le_refl _) _)) _ [0] rfl I1 (by intro n c e; cases e) HBL.out (kk.out.alloc kk.out.size _).size ?_))
      intro v3 w3 o3 k3 _
      have e2 : img ++ (List.replicate j 0 ++ [0]) = img ++ List.replicate (j + 1) 0 := by rw [← List.replicate_succ']
      rw [e2] at o3
      obtain ⟨a3, c3, rfl⟩ := o3.shape'
      have e3 : (img ++ List.replicate (j + 1) (0 : UInt8)).length = q + (j + 1) := by rw [List.length_append, List.length_replicate, HQ.out]
      rw [e3] at o3 ⊢
      have O3 := Lib.hid o3
      have K3 : Hid (Below w1.heap.size w1 w3) := (kk.out.alloc kk.out.size (.cells #[.int .u8 (0 : Int)] 5)).trans k3
      clear o3 k3 e2 e3 I1 oo kk
      go_wp2
      go_roundw
      case rel => exact ⟨j + 1, a3, c3, rfl, HJ2.out, O3.out, K3⟩
      case measure =>
        have := HJ2.out
        have := HN.out
        show P + q - (q + (j + 1)) < P + q - n
        omega

end Go.Proofs.YtgmhfianpdhnmaaGreatDoor
