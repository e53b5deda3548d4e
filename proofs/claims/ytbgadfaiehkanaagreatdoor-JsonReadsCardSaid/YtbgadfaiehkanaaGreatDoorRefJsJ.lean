/-
  CONTRACT OF orlopref15.text: the walk. Conditions: rows of up to 2^40 bytes.
-/
import Derived.Test.YtbgadfaiehkanaaGreatDoorRefJsI
import Derived.Test.YtbgadfaiehkanaaGreatDoorPj4
import Derived.Test.YtbgadfaiehkanaaGreatDoorPj2
namespace Go.Proofs.YtbgadfaiehkanaaGreatDoor
open Go.RowKit
set_option linter.unusedVariables false
set_option maxRecDepth 100000

set_option maxHeartbeats 16000000 in
theorem rtext_any (bv : Value) (b : List UInt8) (w : World) (h : IsB w bv b) (i : Nat) (hi : i ≤ b.length) (hl : b.length ≤ 1099511627776) :
    Calls Tryz.prog 92 #[bv, .int .i64 (i : Int)] w fun e w' => e = .returned (.tuple #[.string ⟨(M.tS (M.text (b.drop i))).toArray⟩, .int .i64 (M.tP b.length (M.text (b.drop i)))]) ∧ Below w.heap.size w w' := by
  have HI := Lib.hid h
  obtain ⟨ao, cap, rfl, h1, h2, h3⟩ := h
  obtain ⟨n, hn⟩ : ∃ n, n = b.length := ⟨_, rfl⟩
  rw [← hn] at hi hl h1 HI ⊢
  have HN := Lib.hid hn
  have HL := Lib.hid hl
  have hii : (i : Int) ≤ 1099511627776 := by omega
  have hnl : (n : Int) ≤ 1099511627776 := by omega
  have HB0 := Lib.hid (Below.refl w.heap.size w)
  have hcni : (n : Int) ≤ (cap : Int) := by omega
  have HCN := Lib.hid h1
  unfold maxLen at h2
  have hci : (cap : Int) ≤ 2 ^ 63 - 1 := by omega
  obtain ⟨T, hT⟩ : ∃ T, T = M.text (b.drop i) := ⟨_, rfl⟩
  rw [← hT]
  have HT := Lib.hid hT
  clear h3 h1 hT
  by_cases hin : i < n
  · have d0 : decide ((n : Int) ≤ (i : Int)) = false := decide_eq_false (by omega)
    have d0p : ¬ (n : Int) ≤ (i : Int) := by omega
    obtain ⟨bk, off, rfl, hcs⟩ := HI.out.cellAt (by rw [← HN.out]; omega)
    have cI := hcs i (by rw [← HN.out]; exact hin)
    obtain ⟨cc, hc⟩ : ∃ c, c = b.getD i 0 := ⟨_, rfl⟩
    have HDR : Hid (b.drop i = cc :: b.drop (i + 1)) := by rw [Hid, drop_cons64 (by rw [← HN.out]; exact hin), ← hc]
    rw [← hc] at cI
    obtain ⟨xx, hx⟩ : ∃ x, x = cc.toNat := ⟨_, rfl⟩
    have hx8 : xx < 256 := by rw [hx]; exact cc.toNat_lt
    rw [← hx] at cI
    have HX := Lib.hid hx
    have p2 : (0 : Int) ≤ (i : Int) := Int.natCast_nonneg i
    have p3 : ((i : Int)).toNat = i := Int.toNat_natCast i
    have p4 : (i : Int) < (n : Int) := by omega
    have HIN := Lib.hid hin
    clear hcs hc hin hx hn hi hl
    by_cases k34 : xx = 34
    · have q0 : ((xx : Int) != 34) = false := by simp [k34]
      have HST0 : Hid (M.txtU (b.drop (i + 1)) [] = T) := by
        rw [Hid, HT.out, HDR.out, show cc = 34 from UInt8.toNat_inj.1 (HX.out.symm.trans k34)]
        exact (M.text_34 _).symm
      clear k34
      go_enter Tryz.func92, Tryz.ntmps92
      go_wp2
      go_loopw [1, 6] (fun x ov wr => ∃ (k : Nat) (o : List UInt8), x = .int .i64 (k : Int) ∧ Hid (k ≤ n) ∧ Hid (Own wr w.heap.size ov o) ∧ Hid (M.txtU (b.drop k) o = T) ∧ Hid (o.length ≤ 4 * k) ∧ Hid (Below w.heap.size w wr)) (fun x _ _ => n - (intOf x).toNat)
      case atStart => exact ⟨i + 1, [], rfl, HIN.out, Lib.hid (World.ownsRow_nil _ _ _ _), HST0, Lib.hid (Nat.zero_le _), HB0⟩
      case round =>
        obtain ⟨wz, rfl⟩ : ∃ x, x = wr := ⟨_, rfl⟩
        obtain ⟨k, o, rfl, hkn, HOW, HST, HOL, kb⟩ := hrel
        have hkl : (k : Int) ≤ 1099511627776 := by have := hkn.out; have := HL.out; omega
        by_cases hlt : k < n
        · have b0 : decide ((k : Int) < (n : Int)) = true := decide_eq_true (by omega)
          have b0p : (k : Int) < (n : Int) := by omega
          have b9 : ¬ (n : Int) ≤ (k : Int) := by omega
          have HIZ := Lib.hid (HI.out.below kb.out)
          obtain ⟨b2, o2, e2, hcs⟩ := HIZ.out.cellAt (by rw [← HN.out]; omega)
          injection e2 with e2
          injection e2 with e3 e4
          subst e3 e4
          have c1 := hcs k (by rw [← HN.out]; exact hlt)
          obtain ⟨c, hc⟩ : ∃ c, c = b.getD k 0 := ⟨_, rfl⟩
          have HDK : Hid (b.drop k = c :: b.drop (k + 1)) := by rw [Hid, drop_cons64 (by rw [← HN.out]; exact hlt), ← hc]
          rw [← hc] at c1
          obtain ⟨x, hx⟩ : ∃ x, x = c.toNat := ⟨_, rfl⟩
          have hx8 : x < 256 := by rw [hx]; exact c.toNat_lt
          rw [← hx] at c1
          have HXC := Lib.hid hx
          have g2 : (0 : Int) ≤ (k : Int) := Int.natCast_nonneg k
          have g3 : ((k : Int)).toNat = k := Int.toNat_natCast k
          have HLT := Lib.hid hlt
          have HIB := Lib.hid (HIZ.out.on k (Nat.le_of_lt hlt))
          clear hc hx hlt hcs
          by_cases e34 : x = 34
          · have t1 : ((x : Int) != 34) = false := by simp [e34]
            have HE : Hid (T = some (o, b.drop (k + 1))) := by
              rw [Hid, ← HST.out, HDK.out, show c = 34 from UInt8.toNat_inj.1 (HXC.out.symm.trans e34)]
              exact M.txtU_end _ _
            have HP : Hid (M.tP n (some (o, b.drop (k + 1))) = ((k + 1 : Nat) : Int)) := by rw [Hid, HN.out]; exact M.tP_drop b o (k + 1) (by rw [← HN.out]; exact HLT.out)
            have hst := str_any HOW.out.isB
            clear e34
            go_wp2
            go_ret2
            exact ⟨by rw [HE.out, HP.out]; rfl, kb.out⟩
          have t1 : ((x : Int) != 34) = true := by simp; omega
          have HC34 : Hid (c ≠ 34) := fun e => e34 (by rw [HXC.out, e]; rfl)
          by_cases low : x < 32
          · have t2 : (x : Int) < 32 := by omega
            have HE : Hid (T = none) := by
              rw [Hid, ← HST.out, HDK.out]
              exact M.txtU_low c _ _ HC34.out (by rw [← HXC.out]; exact low)
            clear e34 low
            go_wp2
            go_ret2
            exact ⟨by rw [HE.out]; rfl, kb.out⟩
          have t2 : ¬ (x : Int) < 32 := by omega
          have HLOW : Hid (¬ c.toNat < 32) := by rw [Hid, ← HXC.out]; exact low
          by_cases e92 : x = 92
          · have t3 : (x : Int) = 92 := by omega
            have HST2 : Hid (T = M.txtU (92 :: b.drop (k + 1)) o) := by rw [Hid, ← HST.out, HDK.out, show c = 92 from UInt8.toNat_inj.1 (HXC.out.symm.trans e92)]
            have CE := Lib.hid (rescape_any _ b wz HIZ.out (k + 1) (by rw [← HN.out]; exact HLT.out) (by rw [← HN.out]; exact HL.out))
            rw [← HN.out] at CE
            have EE := Lib.hid (M.txtU_esc (b.drop (k + 1)) o)
            clear e34 low e92
            cases he : M.esc (b.drop (k + 1)) with
            | none =>
              rw [he] at CE EE
              have HE : Hid (T = none) := by rw [Hid, HST2.out, EE.out]
              have HV0 : Hid (M.oP n none = -1) := rfl
              clear he EE HST2
              go_wp2_with fail
              refine CE.out.mono ?_
              rintro e w2 ⟨rfl, k2⟩
              have K2 := Lib.hid (kb.out.trans (k2.mono kb.out.size))
              clear k2
              rw [HV0.out]
              go_wp2
              go_ret2
              exact ⟨by rw [HE.out]; rfl, K2.out⟩
            | some p =>
              obtain ⟨v, r2⟩ := p
              rw [he] at CE EE
              obtain ⟨hv, j, j1, j2, hr2⟩ := M.esc_some he
              rw [List.length_drop, ← HN.out] at j2
              obtain ⟨q, hq⟩ : ∃ q, q = k + 1 + j := ⟨_, rfl⟩
              have hqn : q ≤ n := by have := HLT.out; omega
              have HR2 : Hid (r2 = b.drop q) := by rw [Hid, hr2, List.drop_drop, hq]
              have HVV : Hid (M.oV (some (v, r2)) = (v : Int)) := rfl
              have HPP : Hid (M.oP n (some (v, r2)) = (q : Int)) := by rw [Hid, HR2.out, HN.out]; exact M.oP_drop b v q (by rw [← HN.out]; exact hqn)
              have HST3 : Hid (M.txtU (b.drop q) (o ++ M.rbytes v) = T) := by rw [Hid, HST2.out, EE.out, HR2.out]
              have z1 : ¬ (q : Int) < 0 := by omega
              have HQN := Lib.hid hqn
              have HKQ : Hid (k + 2 ≤ q) := by rw [Hid]; omega
              have HVL := Lib.hid hv
              clear he EE HST2 hr2 hq hqn j1 j2 hv
              go_wp2_with fail
              refine CE.out.mono ?_
              rintro e w2 ⟨rfl, k2⟩
              have K2 := Lib.hid (kb.out.trans (k2.mono kb.out.size))
              have HO2 := Lib.hid (HOW.out.below k2)
              clear k2
              rw [HVV.out, HPP.out]
              have CN := Lib.hid (rencode_any v w2 HVL.out)
              go_wp2_with fail
              refine CN.out.mono ?_
              rintro e w3 ⟨rv, rfl, o3, k3⟩
              have HO3 := Lib.hid (HO2.out.below k3)
              have K3 := Lib.hid (K2.out.trans (k3.mono K2.out.size))
              have HR3 := Lib.hid o3
              clear o3 k3
              go_upto_region 13 with (refine wpList_app _ rfl _ _ rfl w.heap.size _ o rfl HO3.out _ (M.rbytes v) rfl HR3.out.isB HR3.out.nil0 (by have := HOL.out; have := hkn.out; have := HL.out; have := M.rbytes_le v; omega) K3.out.size ?_; intro v' w4 hown4 k4 _)
              have HO4 := Lib.hid hown4
              have K4 := Lib.hid (K3.out.trans k4)
              clear hown4 k4
              go_wp2
              refine ⟨⟨q, o ++ M.rbytes v, rfl, HQN, HO4, HST3, ?_, K4⟩, ?_⟩
              · rw [Hid, List.length_append]
                have := HOL.out
                have := M.rbytes_le v
                have := HKQ.out
                omega
              · simp only [intOf]
                have := HKQ.out
                have := HQN.out
                omega
          · have t3 : ¬ (x : Int) = 92 := by omega
            have HC92 : Hid (c ≠ 92) := fun e => e92 (by rw [HXC.out, e]; rfl)
            have CR := Lib.hid (rrune_any _ _ wz HIB.out (by rw [List.length_drop, ← HN.out]; have := HL.out; omega))
            have HLE : Hid ((M.rune (b.drop k)).2 ≤ n - k) := by have := M.rune_le (b.drop k); rw [List.length_drop, ← HN.out] at this; exact this
            have HBAD : Hid ((M.rune (b.drop k)).2 = 0 → T = none) := by
              intro h
              rw [← HST.out, HDK.out]
              exact M.txtU_bad c _ _ HC34.out HLOW.out HC92.out (by rw [← HDK.out]; exact h)
            have HGOOD : Hid ((M.rune (b.drop k)).2 ≠ 0 → M.txtU ((b.drop k).drop (M.rune (b.drop k)).2) (o ++ (b.drop k).take (M.rune (b.drop k)).2) = T) := by
              intro h
              rw [← HST.out, HDK.out]
              exact (M.txtU_rune c _ _ HC34.out HLOW.out HC92.out (by rw [← HDK.out]; exact h)).symm
            obtain ⟨rn, hrn⟩ : ∃ z, z = M.rune (b.drop k) := ⟨_, rfl⟩
            rw [← hrn] at CR HLE HBAD HGOOD
            obtain ⟨rv, rk⟩ := rn
            have hrk : rk ≤ n - k := HLE.out
            have hrki : (rk : Int) ≤ 1099511627776 := by have := HL.out; omega
            have b2 : (k : Int) ≤ (n : Int) := by omega
            have b3 : (k : Int) ≤ (cap : Int) := by omega
            clear hrn e34 low e92
            go_wp2_with fail
            refine CR.out.mono ?_
            rintro e w2 ⟨rfl, rfl⟩
            by_cases hz : rk = 0
            · have z1 : (rk : Int) = 0 := by omega
              have HE := Lib.hid (HBAD.out hz)
              clear hz HBAD HGOOD HLE CR
              go_wp2
              go_ret2
              exact ⟨by rw [HE.out]; rfl, kb.out⟩
            · have z1 : ¬ (rk : Int) = 0 := by omega
              have HG := Lib.hid (HGOOD.out hz)
              obtain ⟨q, hq⟩ : ∃ q, q = k + rk := ⟨_, rfl⟩
              have hqi : (k : Int) + (rk : Int) = (q : Int) := by omega
              have hqn : q ≤ n := by have := HLT.out; omega
              have hqn1 : (q : Int) ≤ (n : Int) := by omega
              have hqc : (q : Int) ≤ (cap : Int) := by omega
              have hkq : (k : Int) ≤ (q : Int) := by omega
              have HSL : Hid (IsB w2 (.slice (some ⟨bk, off + k, none⟩) rk (cap - k)) ((b.drop k).take rk)) := HIB.out.take rk HLE.out
              have HRK : Hid (((b.drop k).take rk).length = rk) := by rw [Hid, List.length_take, List.length_drop, ← HN.out]; omega
              have hsub : q - k = rk := by omega
              have HQ := Lib.hid hq
              have HQN := Lib.hid hqn
              have HZ := Lib.hid hz
              clear hz HBAD HGOOD HLE CR hq hqn
              go_upto_region 18 with (refine wpList_app _ rfl _ _ rfl w.heap.size _ o rfl HOW.out _ ((b.drop k).take rk) rfl HSL.out (fun _ _ e => by cases e) (by rw [HRK.out]; have := HOL.out; have := hkn.out; have := HL.out; omega) kb.out.size ?_; intro v' w4 hown4 k4 _)
              have HO4 := Lib.hid hown4
              have K4 := Lib.hid (kb.out.trans k4)
              clear hown4 k4
              go_wp2
              refine ⟨⟨q, o ++ (b.drop k).take rk, by go_num, HQN, HO4, ?_, ?_, K4⟩, ?_⟩
              · have := HG.out
                rw [List.drop_drop] at this
                rw [Hid, HQ.out]
                exact this
              · rw [Hid, List.length_append, HRK.out, HQ.out]
                have := HOL.out
                omega
              · simp only [intOf]
                have := HZ.out
                have := HQ.out
                have := HQN.out
                omega
        · have b0 : decide ((k : Int) < (n : Int)) = false := decide_eq_false (by omega)
          have b0p : ¬ (k : Int) < (n : Int) := by omega
          have b9 : (n : Int) ≤ (k : Int) := by omega
          have HE : Hid (T = none) := by
            rw [Hid, ← HST.out, List.drop_eq_nil_of_le (by rw [← HN.out]; omega)]
            rfl
          clear hlt
          go_wp2
          go_ret2
          exact ⟨by rw [HE.out]; rfl, kb.out⟩
    · have q0 : ((xx : Int) != 34) = true := by simp; omega
      have HE : Hid (T = none) := by
        rw [Hid, HT.out, HDR.out]
        exact M.text_no cc _ fun e => k34 (by rw [HX.out, e]; rfl)
      clear k34
      go_enter Tryz.func92, Tryz.ntmps92
      go_wp2
      go_ret2
      exact ⟨by rw [HE.out]; rfl, HB0.out⟩
  · have d0 : decide ((n : Int) ≤ (i : Int)) = true := decide_eq_true (by omega)
    have d0p : (n : Int) ≤ (i : Int) := by omega
    have HE : Hid (T = none) := by
      rw [Hid, HT.out, List.drop_eq_nil_of_le (by rw [← HN.out]; omega)]
      rfl
    clear hin hn hi hl
    go_enter Tryz.func92, Tryz.ntmps92
    go_wp2
    go_ret2
    exact ⟨by rw [HE.out]; rfl, HB0.out⟩

end Go.Proofs.YtbgadfaiehkanaaGreatDoor
