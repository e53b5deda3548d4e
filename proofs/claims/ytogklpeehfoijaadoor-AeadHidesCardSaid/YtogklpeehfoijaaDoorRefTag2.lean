/-
  CONTRACT OF orlopref05.Tag: the document's tag by definition. Conditions: messages of up to 4096 bytes.
-/
import Derived.Test.YtogklpeehfoijaaDoorRefTag
import Derived.Deep.Cut
namespace Go.Proofs.YtogklpeehfoijaaDoor
open Go.RowKit
set_option linter.unusedVariables false

set_option maxRecDepth 100000 in
set_option maxHeartbeats 8000000 in
theorem rtag_any (kv mv : Value) (key m : List UInt8) (w : World) (hk : IsB w kv key) (hm : IsB w mv m) (hkl : key.length = 32) (hlen : m.length ≤ 4096) :
    Calls Tryd.prog 19 #[kv, mv] w fun e w' => ∃ r, e = .returned (.tuple #[r, .int .i64 0]) ∧ Own w' w.heap.size r (M.tag key m) ∧ Below w.heap.size w w' := by
  have HKL := Lib.hid hkl
  have HM := Lib.hid hm
  obtain ⟨a1, c1, rfl, hk1, hk2, hat⟩ := hk
  obtain ⟨b1, o1, rfl, hkc⟩ : ∃ b off, a1 = some ⟨b, off, none⟩ ∧ ∀ i, i < key.length → w.cell? ⟨b, off + i, none⟩ = some (.int .u8 ((key.getD i 0).toNat : Int)) := by
    rcases hat with h | h
    · rw [h] at hkl; simp at hkl
    · exact h
  have HKC : Hid (∀ w', Below w.heap.size w w' → ∀ i, i < 32 → w'.cell? ⟨b1, o1 + i, none⟩ = some (.int .u8 ((key.getD i 0).toNat : Int))) := fun w' kw i hi => by
    have h := hkc i (by omega)
    rw [kw.cell (by exact World.block_lt_of_cell? w _ h), h]
  obtain ⟨a2, c2, rfl, hm1, hm2, hmt⟩ := hm
  rw [hkl]
  obtain ⟨L, hL⟩ : ∃ L, L = m.length := ⟨_, rfl⟩
  have HLN := Lib.hid hL
  rw [← hL] at HM hm1 hlen ⊢
  clear hL hkl hat hkc hmt
  go_enter Tryd.func19, Tryd.ntmps19
  go_wp2
  go_loopw [6, 7, 8] (fun rv sv iv wr => ∃ k : Nat, k ≤ 16 ∧ iv = .int .i64 k ∧ Hid (OwnI wr w.heap.size rv (M.rD key k)) ∧ Hid (OwnI wr w.heap.size sv (M.bD (key.drop 16) k)) ∧ Hid (ApartI rv sv) ∧ Below w.heap.size w wr)
    (fun _ _ iv _ => 16 - (intOf iv).toNat)
  case atStart => exact ⟨0, by omega, rfl, ownI_nil _ _, ownI_nil _ _, (fun k e => by simp [Value.ownBlock] at e), Below.refl _ _⟩
  case round =>
    obtain ⟨wA, rfl⟩ : ∃ x, x = wr := ⟨_, rfl⟩
    obtain ⟨rv, rfl⟩ : ∃ z, z = u6 := ⟨_, rfl⟩
    obtain ⟨sv, rfl⟩ : ∃ z, z = u7 := ⟨_, rfl⟩
    obtain ⟨k, hk, rfl, hr, hs, hap, kk⟩ := hrel
    by_cases hlt : k < 16
    · obtain ⟨x, hx⟩ : ∃ x : Nat, Hid (x = (key.getD k 0).toNat) := ⟨_, rfl⟩
      obtain ⟨y, hy⟩ : ∃ y : Nat, Hid (y = (key.getD (16 + k) 0).toNat) := ⟨_, rfl⟩
      have hxb : x < 256 := by rw [hx.out]; exact (key.getD k 0).toNat_lt
      have hyb : y < 256 := by rw [hy.out]; exact (key.getD (16 + k) 0).toNat_lt
      have cx : wA.cell? ⟨b1, o1 + k, none⟩ = some (.int .u8 (x : Int)) := by rw [hx.out]; exact HKC.out wA kk k (by omega)
      have cyA : Hid (∀ w', Below w.heap.size w w' → w'.cell? ⟨b1, o1 + (16 + k), none⟩ = some (.int .u8 (y : Int))) := fun w' kw => by rw [hy.out]; exact HKC.out w' kw (16 + k) (by omega)
      obtain ⟨p, hp⟩ : ∃ p, p = 16 + k := ⟨_, rfl⟩
      have hpi : (16 : Int) + k = p := by omega
      have hp32 : p < 32 := by omega
      have hpI : (p : Int) < 32 := by omega
      rw [← hp] at cyA
      obtain ⟨z, hz⟩ : ∃ z : Nat, Hid (z = ((M.clamp key).getD k 0).toNat) := ⟨_, rfl⟩
      have hzb : z < 256 := by rw [hz.out]; exact ((M.clamp key).getD k 0).toNat_lt
      have HZ := Lib.hid (M.clamp_get key HKL.out k hlt)
      rw [← hz.out, ← hx.out] at HZ
      have HRL : Hid ((M.rD key k).length ≤ 1000) := by rw [Hid, M.rD_eq, M.bD_length]; omega
      have HSL : Hid ((M.bD (key.drop 16) k).length ≤ 1000) := by rw [Hid, M.bD_length]; omega
      have HNR : Hid (M.rD key (k + 1) = M.rD key k ++ [z]) := by rw [Hid, M.rD, ← hz.out]
      have HNS : Hid (M.bD (key.drop 16) (k + 1) = M.bD (key.drop 16) k ++ [y]) := by
        rw [Hid, M.bD, hy.out]
        simp [List.getD_eq_getElem?_getD, List.getElem?_drop]
      obtain ⟨k4, hk4⟩ : ∃ j, j = k % 4 := ⟨_, rfl⟩
      have u1 : (k : Int) % 4 = (k4 : Int) := by omega
      have u2 : (k : Int).tmod 4 = (k4 : Int) := by rw [Int.tmod_eq_emod_of_nonneg (by omega)]; omega
      have hk4b : k4 < 4 := by omega
      have HP := Lib.hid hp
      have hszA : Hid (w.heap.size ≤ wA.heap.size + 1) := Nat.le_succ_of_le kk.size
      have HRL1 : Hid ((M.rD key k).length ≤ 1000000) := Nat.le_trans HRL.out (by decide)
      have OR : Hid (∀ o, OwnI (wA.alloc o) w.heap.size rv (M.rD key k)) := fun o => hr.out.below ((Below.refl _ _).alloc (Nat.le_refl _) o)
      have OS : Hid (∀ o, OwnI (wA.alloc o) w.heap.size sv (M.bD (key.drop 16) k)) := fun o => hs.out.below ((Below.refl _ _).alloc (Nat.le_refl _) o)
      have HSL1 : Hid ((M.bD (key.drop 16) k).length ≤ 1000000) := Nat.le_trans HSL.out (by decide)
      have HK4 := Lib.hid hk4
      clear hk4 hp
      by_cases h3 : k4 = 3
      have h3i : (k4 : Int) = 3 := by omega
      have h30 : ¬ (k4 : Int) = 0 := by omega
      obtain ⟨x16, hx16⟩ : ∃ j, j = x % 16 := ⟨_, rfl⟩
      have u3 : (x : Int) % 16 = (x16 : Int) := by omega
      have u4 : (x : Int).tmod 16 = (x16 : Int) := by rw [Int.tmod_eq_emod_of_nonneg (by omega)]; omega
      have hzx : z = x16 := by have e1 := HZ.out; have e2 := HK4.out; rw [if_pos (by omega)] at e1; omega
      have hk0 : 0 < k := by have := HK4.out; omega
      have hk0i : (0 : Int) < k := by omega
      clear hx16
      subst hzx
      clear hk4b
      focus (go_upto_region 13 with fail)
      clear u3 u4
      rotate_left
      have h3i : ¬ (k4 : Int) = 3 := by omega
      by_cases hk0 : 0 < k
      rotate_left
      have hk00 : k = 0 := by omega
      have hk0i : ¬ (0 : Int) < k := by omega
      have hzx : z = x := by have e1 := HZ.out; have e2 := HK4.out; rw [if_neg (by omega), if_neg (by omega)] at e1; exact e1
      clear hk4b hk00
      have HZX := Lib.hid hzx
      clear hzx
      focus (go_upto_region 13 with fail)
      rw [← HZX.out]
      rotate_right
      by_cases h0 : k4 = 0
      have h0i : (k4 : Int) = 0 := by omega
      have hk0i : (0 : Int) < k := by omega
      obtain ⟨xq, hxq⟩ : ∃ j, j = x / 4 := ⟨_, rfl⟩
      have u5 : (x : Int) / 4 = (xq : Int) := by omega
      have u6 : (x : Int).tdiv 4 = (xq : Int) := by rw [Int.tdiv_eq_ediv_of_nonneg (by omega)]; omega
      obtain ⟨x44, hx44⟩ : ∃ j, j = xq * 4 := ⟨_, rfl⟩
      have u7 : (xq : Int) * 4 = (x44 : Int) := by omega
      have hqb : xq < 64 := by omega
      have hzx : z = x44 := by have e1 := HZ.out; have e2 := HK4.out; rw [if_neg (by omega), if_pos (by omega)] at e1; omega
      clear hxq hx44
      subst hzx
      clear hk4b
      focus (go_upto_region 13 with fail)
      clear u5 u6 u7 hqb
      rotate_left
      have h0i : ¬ (k4 : Int) = 0 := by omega
      have hk0i : (0 : Int) < k := by omega
      have hzx : z = x := by have e1 := HZ.out; have e2 := HK4.out; rw [if_neg (by omega), if_neg (by omega)] at e1; exact e1
      clear hk4b
      have HZX := Lib.hid hzx
      clear hzx
      focus (go_upto_region 13 with fail)
      rw [← HZX.out]
      all_goals
        clear u1 u2 hpI
        try clear h3i
        try clear hxb
        go_wp2_with (at_builtin; go_must (refine wpList_appI_at _ rfl _ _ rfl w.heap.size rv (M.rD key k) rfl (OR.out _) wA.heap.size z rfl (by simp) HRL1.out (by simp; exact hszA.out) ?_))
        intro v3 w3 o3 g3 at3
        have kA1 : Below w.heap.size w (wA.alloc (.cells #[.int .i64 (z : Int)] 3)) := kk.alloc kk.size _
        have k3 : Below w.heap.size w w3 := kA1.trans ((Below.refl _ _).grown g3 kA1.size (fun j hj => (World.ownsRow.lt (OR.out (.cells #[.int .i64 (z : Int)] 3)) j hj).1))
        have os3 : OwnI w3 w.heap.size sv (M.bD (key.drop 16) k) := (OS.out (.cells #[.int .i64 (z : Int)] 3)).kept2 g3 (fun j hj e => hap.out.symm j hj e)
        have ap3 : ApartI v3 sv := hap.out.next (OS.out (.cells #[.int .i64 (z : Int)] 3)) _ (by simp) at3
        have cy := cyA.out w3 k3
        have OS3 : Hid (∀ o, OwnI (w3.alloc o) w.heap.size sv (M.bD (key.drop 16) k)) := fun o => os3.below ((Below.refl _ _).alloc (Nat.le_refl _) o)
        have OR3 : Hid (∀ o, OwnI (w3.alloc o) w.heap.size v3 (M.rD key (k + 1))) := fun o => by
          rw [HNR.out]
          exact o3.below ((Below.refl _ _).alloc (Nat.le_refl _) o)
        have AP3 := Lib.hid ap3
        have hsz3 : Hid (w.heap.size ≤ w3.heap.size + 1) := Nat.le_succ_of_le k3.size
        clear o3 g3 at3 kA1 os3 ap3 OR OS hr hs kk cx
        go_wp2_with (at_builtin; go_must (refine wpList_appI_at _ rfl _ _ rfl w.heap.size sv (M.bD (key.drop 16) k) rfl (OS3.out _) w3.heap.size y rfl (by simp) HSL1.out (by simp; exact hsz3.out) ?_))
        intro v4 w4 o4 g4 at4
        have kA3 : Below w.heap.size w (w3.alloc (.cells #[.int .i64 (y : Int)] 3)) := k3.alloc k3.size _
        have k4' : Below w.heap.size w w4 := kA3.trans ((Below.refl _ _).grown g4 kA3.size (fun j hj => (World.ownsRow.lt (OS3.out (.cells #[.int .i64 (y : Int)] 3)) j hj).1))
        have or4 : Hid (OwnI w4 w.heap.size v3 (M.rD key (k + 1))) := (OR3.out (.cells #[.int .i64 (y : Int)] 3)).kept2 g4 (fun j hj e => AP3.out j hj e)
        have os4 : Hid (OwnI w4 w.heap.size v4 (M.bD (key.drop 16) (k + 1))) := by rw [HNS.out]; exact o4
        have ap4 : Hid (ApartI v3 v4) := (AP3.out.symm.next (OR3.out (.cells #[.int .i64 (y : Int)] 3)) _ (by simp) at4).symm
        clear o4 g4 at4 kA3 k3 OS3 OR3
        go_wp2
        go_roundw
        case rel => exact ⟨k + 1, by omega, by go_num, or4, os4, ap4, k4'⟩
        case measure => simp [intOf]; omega
    · obtain rfl : k = 16 := by omega
      obtain ⟨RD, hRD⟩ : ∃ R, Hid (R = M.rD key 16) := ⟨_, rfl⟩
      obtain ⟨SD, hSD⟩ : ∃ R, Hid (R = M.bD (key.drop 16) 16) := ⟨_, rfl⟩
      rw [← hRD.out] at hr
      rw [← hSD.out] at hs
      clear hap hlt hk
      have HRL : Hid (RD.length = 16) := by rw [Hid, hRD.out, M.rD_eq, M.bD_length]
      have HRDig : Hid (M.Dig RD) := by rw [Hid, hRD.out, M.rD_eq]; exact M.bD_dig _ _
      have HRV : Hid (M.gi RD 16 = M.rN key) := by rw [Hid, hRD.out, M.rD_eq, M.gi_bD, M.rN_eq key HKL.out]
      have HSL : Hid (SD.length = 16) := by rw [Hid, hSD.out, M.bD_length]
      have HSDig : Hid (M.Dig SD) := by rw [Hid, hSD.out]; exact M.bD_dig _ _
      have HSV : Hid (M.gi SD 16 = M.gl (key.drop 16) 16) := by rw [Hid, hSD.out, M.gi_bD]
      have HRI : Hid (∀ w', Below wA.heap.size wA w' → IsI w' rv RD) := fun w' k => (OwnI.isI hr.out).below k
      have HSI : Hid (∀ w', Below wA.heap.size wA w' → IsI w' sv SD) := fun w' k => (OwnI.isI hs.out).below k
      have HMI : Hid (∀ w', Below wA.heap.size wA w' → IsB w' (.slice a2 L c2) m) := fun w' k => HM.out.below (kk.trans (k.mono kk.size))
      obtain ⟨i0, hi, hz0, hz1, hz2⟩ := info_parts Tryd.info47
      obtain ⟨r, hr'⟩ : ∃ r, Hid (r = M.rN key) := ⟨_, rfl⟩
      have HR124 : Hid (r < 2 ^ 124) := by rw [Hid, hr'.out]; exact M.rN_lt' key HKL.out
      obtain ⟨N, hN⟩ : ∃ N, N = (L + 15) / 16 := ⟨_, rfl⟩
      have hNL : 16 * N ≤ L + 15 ∧ L ≤ 16 * N := by omega
      have HN := Lib.hid hN
      clear hN hr hs
      go_wp2_with (at_make; go_must (refine wpList_make_full _ rfl _ _ 49 rfl wA.heap.size 3 i0 (.int .i64 0) 1 Tryd.underlying49 hi hz0 hz1 .i64 .i64 17 17 17 rfl rfl rfl rfl (by rw [hz2]; omega) (by unfold maxLen; omega) (Nat.le_refl _) ?_))
      intro w1 hown hgrow
      have k1 : Below wA.heap.size wA w1 := (Below.refl _ _).grown hgrow (Nat.le_refl _) (by intro k hk; cases hk)
      have HA0 : Hid (IsI w1 (.slice (some ⟨wA.heap.size, 0, none⟩) 17 17) (M.dg (M.accN r m (List.range 0)) 17)) := by
        have e : (madeCells #[Value.int IntKind.i64 0] 17).toList = ic (M.dg 0 17) := by
          rw [toList_madeCells_one, ic_zero]
          congr 1
        have h : OwnI w1 wA.heap.size (.slice (some ⟨wA.heap.size, 0, none⟩) 17 17) (M.dg 0 17) := by
          rw [OwnI, M.dg_length, ← e]
          exact hown
        exact OwnI.isI h
      clear hown hgrow hi hz0 hz1 hz2
      go_wp2
      go_loopw [10, 11] (fun av iv wr => ∃ c : Nat, c ≤ N ∧ iv = .int .i64 (16 * c : Nat) ∧ Hid (IsI wr av (M.dg (M.accN r m (List.range c)) 17)) ∧ Below wA.heap.size wA wr)
        (fun _ iv _ => L + 16 - (intOf iv).toNat)
      case atStart => exact ⟨0, Nat.zero_le _, rfl, HA0, k1⟩
      case round =>
        clear HA0 k1
        obtain ⟨wB, rfl⟩ : ∃ x, x = wr := ⟨_, rfl⟩
        obtain ⟨av, rfl⟩ : ∃ z, z = u10 := ⟨_, rfl⟩
        obtain ⟨c, hcN, rfl, ha, kB⟩ := hrel
        obtain ⟨at_, hat⟩ : ∃ p, p = 16 * c := ⟨_, rfl⟩
        rw [← hat]
        by_cases hlt : at_ < L
        · obtain ⟨ch, hch⟩ : ∃ ch, Hid (ch = M.chk16 m c) := ⟨_, rfl⟩
          obtain ⟨q, hq⟩ : ∃ q, q = ch.length := ⟨_, rfl⟩
          have hq2 : q = min 16 (L - at_) := by rw [hq, hch.out, M.chk16_length, ← HLN.out, hat]
          have hq16 : q ≤ 16 := by omega
          have hqL : at_ + q ≤ L := by omega
          have HQ := Lib.hid hq
          have HQ2 := Lib.hid hq2
          have HAT := Lib.hid hat
          have hltI : (at_ : Int) < L := by omega
          have HMC : Hid (∀ w', Below wA.heap.size wA w' → ∀ j, j < q → ∃ b off, a2 = some ⟨b, off, none⟩ ∧ w'.cell? ⟨b, off + (at_ + j), none⟩ = some (.int .u8 (((M.chk16 m c).getD j 0).toNat : Int))) := by
            intro w' kw j hj
            obtain ⟨ao, cap, e, h1, h2, h3⟩ := HMI.out w' kw
            injection e with e1 e2 e3
            rcases h3 with h3 | ⟨b, off, h4, hc⟩
            · have := HLN.out; rw [h3] at this; simp at this; omega
            · refine ⟨b, off, by rw [e1]; exact h4, ?_⟩
              rw [hc (at_ + j) (by have := HLN.out; omega), hat]
              congr 3
              rw [M.chk16]
              simp [List.getD_eq_getElem?_getD, List.getElem?_drop, show j < 16 by omega]
          rw [← hch.out] at HMC
          obtain ⟨ae, hae⟩ : ∃ p, p = at_ + 16 := ⟨_, rfl⟩
          have haei : (at_ : Int) + 16 = ae := by omega
          clear hq hq2 hat
          go_wp2
          go_loopw [12, 13] (fun bv iv wr => ∃ j : Nat, j ≤ q ∧ iv = .int .i64 (at_ + j : Nat) ∧ Hid (OwnI wr wB.heap.size bv (M.bD ch j)) ∧ Below wB.heap.size wB wr)
            (fun _ iv _ => at_ + 16 - (intOf iv).toNat)
          case atStart => exact ⟨0, Nat.zero_le _, rfl, ownI_nil _ _, Below.refl _ _⟩
          case round =>
            obtain ⟨wz, rfl⟩ : ∃ x, x = wr := ⟨_, rfl⟩
            obtain ⟨bv, rfl⟩ : ∃ z, z = u12 := ⟨_, rfl⟩
            obtain ⟨j, hj, rfl, hb, kz⟩ := hrel
            obtain ⟨p, hp⟩ : ∃ p, p = at_ + j := ⟨_, rfl⟩
            rw [← hp]
            have hwz : wB.heap.size ≤ wz.heap.size := kz.size
            by_cases hlt2 : j < q
            · obtain ⟨b3, o3, rfl, cy⟩ := HMC.out wz (kB.trans (kz.mono kB.size)) j hlt2
              obtain ⟨y, hy⟩ : ∃ y : Nat, Hid (y = (ch.getD j 0).toNat) := ⟨_, rfl⟩
              rw [← hy.out, ← hp] at cy
              have hyb : y < 256 := by rw [hy.out]; exact (ch.getD j 0).toNat_lt
              have hpL : p < L := by omega
              have hpLI : (p : Int) < L := by omega
              have hp16 : (p : Int) < (ae : Int) := by omega
              have hp16n : p < ae := by omega
              have OB : Hid (∀ o, OwnI (wz.alloc o) wB.heap.size bv (M.bD ch j)) := fun o => hb.out.below ((Below.refl _ _).alloc (Nat.le_refl _) o)
              have HBL : Hid ((M.bD ch j).length ≤ 1000000) := by rw [Hid, M.bD_length]; omega
              have HNB : Hid (M.bD ch (j + 1) = M.bD ch j ++ [y]) := by rw [Hid, M.bD, hy.out]
              have hsz1 : Hid (wB.heap.size ≤ wz.heap.size + 1) := Nat.le_succ_of_le hwz
              have HP := Lib.hid hp
              have HAE := Lib.hid hae
              clear hp hae
              go_wp2_with (at_builtin; (refine wpList_appI_at _ rfl _ _ rfl wB.heap.size bv (M.bD ch j) rfl (OB.out _) wz.heap.size y rfl (by simp) HBL.out (by simp; exact hsz1.out) ?_))
              intro v4 w4 o4 g4 at4
              have kA3 : Below wB.heap.size wB (wz.alloc (.cells #[.int .i64 (y : Int)] 3)) := kz.alloc kz.size _
              have k4 : Below wB.heap.size wB w4 := kA3.trans ((Below.refl _ _).grown g4 kA3.size (fun j hj => (World.ownsRow.lt (OB.out (.cells #[.int .i64 (y : Int)] 3)) j hj).1))
              have ob4 : Hid (OwnI w4 wB.heap.size v4 (M.bD ch (j + 1))) := by rw [HNB.out]; exact o4
              clear o4 g4 at4 kA3 OB
              go_wp2
              go_roundw
              case rel => exact ⟨j + 1, by omega, by have := HP.out; go_num, ob4, k4⟩
              case measure => have := HP.out; have := HAE.out; simp [intOf]; omega
            · obtain rfl : j = q := by omega
              obtain ⟨x, hx⟩ : ∃ x, Hid (x = M.accN r m (List.range c)) := ⟨_, rfl⟩
              rw [← hx.out] at ha
              obtain ⟨pn, hpn⟩ : ∃ x, Hid (x = M.pN m c) := ⟨_, rfl⟩
              have hgp := M.gi_piece m c j (by rw [← hch.out]; exact HQ.out)
              rw [← hch.out, ← hpn.out] at hgp
              have HGP := Lib.hid hgp
              have hxP : x < M.P := by rw [hx.out]; exact M.accN_lt r m _
              have hpn130 : pn < 2 ^ 130 := by rw [hpn.out]; exact M.pN_lt m c
              have HX17 : Hid (x < 256 ^ 17) := Nat.lt_trans hxP (by decide)
              have HXP : Hid (x + pn < 2 ^ 131) := by
                have h : M.P < 2 ^ 130 := by decide
                have e : (2 : Nat) ^ 131 = 2 ^ 130 + 2 ^ 130 := by decide
                rw [Hid, e]
                omega
              have HSUM : Hid (M.gi (M.dg x 17) 18 + M.gi (M.bD ch j ++ [1]) 18 = x + pn) := by
                rw [Hid, HGP.out.1, M.gi_dg_all x 17 18 (by decide), Nat.mod_eq_of_lt HX17.out]
              have HPROD : Hid (M.gi (M.dg (x + pn) 18) 18 * M.gi RD 16 = (x + pn) * r) := by
                rw [Hid, HRV.out, ← hr'.out, M.gi_dg_all _ 18 18 (by decide), Nat.mod_eq_of_lt (Nat.lt_trans HXP.out (by decide))]
              have H256 : Hid ((x + pn) * r < 2 ^ 256) := by
                have h1 : (x + pn) * r ≤ 2 ^ 131 * r := Nat.mul_le_mul_right _ (Nat.le_of_lt HXP.out)
                have h2 : 2 ^ 131 * r < 2 ^ 131 * 2 ^ 124 := (Nat.mul_lt_mul_left (show 0 < 2 ^ 131 by decide)).2 HR124.out
                have h3 : (2 : Nat) ^ 131 * 2 ^ 124 < 2 ^ 256 := by decide
                exact Nat.lt_trans (Nat.lt_of_le_of_lt h1 h2) h3
              have HNEXT : Hid ((x + pn) * r % M.P = M.accN r m (List.range (c + 1))) := by rw [Hid, M.accN_next, ← hx.out, ← hpn.out]
              clear hxP hpn130 hgp
              have OB : Hid (∀ o, OwnI (wz.alloc o) wB.heap.size bv (M.bD ch j)) := fun o => hb.out.below ((Below.refl _ _).alloc (Nat.le_refl _) o)
              have HBL : Hid ((M.bD ch j).length ≤ 1000000) := by rw [Hid, M.bD_length]; omega
              have hsz1 : Hid (wB.heap.size ≤ wz.heap.size + 1) := Nat.le_succ_of_le hwz
              have HAE := Lib.hid hae
              have HP := Lib.hid hp
              have hcN1 : c + 1 ≤ N := by have := HAT.out; omega
              by_cases hpe : p < ae
              have hpeI : (p : Int) < ae := by omega
              have hpL : ¬ p < L := by have := HQ2.out; omega
              have hpLI : ¬ (p : Int) < L := by omega
              clear hp hae
              focus (go_upto_region 24 with fail)
              rotate_left
              have hpeI : ¬ (p : Int) < ae := by omega
              clear hp hae
              focus (go_upto_region 24 with fail)
              all_goals
                go_wp2_with (at_builtin; (refine wpList_appI_at _ rfl _ _ rfl wB.heap.size bv (M.bD ch j) rfl (OB.out _) wz.heap.size 1 rfl (by simp) HBL.out (by simp; exact hsz1.out) ?_))
                intro v4 w4 o4 g4 at4
                have kA3 : Below wB.heap.size wB (wz.alloc (.cells #[.int .i64 1] 3)) := kz.alloc kz.size _
                have k4 : Below wB.heap.size wB w4 := kA3.trans ((Below.refl _ _).grown g4 kA3.size (fun j hj => (World.ownsRow.lt (OB.out (.cells #[.int .i64 1] 3)) j hj).1))
                have kA4 : Below wA.heap.size wA w4 := kB.trans (k4.mono kB.size)
                have HAD : Hid (Calls Tryd.prog 31 #[av, v4, .int .i64 18] w4 (MakesI w4 (M.dg (x + pn) 18))) := by
                  have h := radd_any av v4 (M.dg x 17) (M.bD ch j ++ [1]) 18 w4 (ha.out.below k4) (OwnI.isI o4) (M.dg_dig _ _) HGP.out.2 (by decide)
                  rw [HSUM.out] at h
                  exact h
                clear o4 g4 at4 kA3 k4
                go_wp2_with fail
                refine HAD.out.mono ?_
                rintro e w5 ⟨r5, rfl, o5, k5⟩
                have kA5 : Below wA.heap.size wA w5 := kA4.trans (k5.mono kA4.size)
                have HTI : Hid (Calls Tryd.prog 30 #[r5, rv] w5 (MakesI w5 (M.dg ((x + pn) * r) 36))) := by
                  have h := rtimes_any r5 rv (M.dg (x + pn) 18) RD w5 (OwnI.isI o5) (HRI.out w5 kA5) (M.dg_dig _ _) HRDig.out (by rw [M.dg_length, HRL.out]; decide)
                  rw [M.dg_length, HRL.out, HPROD.out] at h
                  exact h
                clear o5 k5 kA4 HAD
                go_wp2_with fail
                refine HTI.out.mono ?_
                rintro e w6 ⟨r6, rfl, o6, k6⟩
                have kA6 : Below wA.heap.size wA w6 := kA5.trans (k6.mono kA5.size)
                have HRE : Hid (Calls Tryd.prog 29 #[r6] w6 (MakesI w6 (M.dg (M.accN r m (List.range (c + 1))) 17))) := by
                  have h := rrest_any r6 ((x + pn) * r) w6 (OwnI.isI o6) H256.out
                  rw [HNEXT.out] at h
                  exact h
                clear o6 k6 kA5 HTI
                go_wp2_with fail
                refine HRE.out.mono ?_
                rintro e w7 ⟨r7, rfl, o7, k7⟩
                have kA7 : Below wA.heap.size wA w7 := kA6.trans (k7.mono kA6.size)
                have hi7 : Hid (IsI w7 r7 (M.dg (M.accN r m (List.range (c + 1))) 17)) := OwnI.isI o7
                clear o7 k7 kA6 HRE
                go_wp2
                go_roundw
                case rel => exact ⟨c + 1, hcN1, by have := HAT.out; have := HAE.out; go_num, hi7, kA7⟩
                case measure => have := HAE.out; simp [intOf]; omega
        · obtain rfl : c = N := by omega
          obtain ⟨x, hx⟩ : ∃ x, Hid (x = M.accN r m (List.range c)) := ⟨_, rfl⟩
          rw [← hx.out] at ha
          obtain ⟨T, hT⟩ : ∃ T, Hid (T = x + M.gl (key.drop 16) 16) := ⟨_, rfl⟩
          have HTAG : Hid (M.tag key m = M.le T 16) := by rw [Hid, M.tag, ← HLN.out, ← HN.out, ← hr'.out, ← hx.out, ← hT.out]
          have hltI : ¬ (at_ : Int) < L := by omega
          have kw : Below w.heap.size w wB := kk.trans (kB.mono kk.size)
          have HAD : Hid (Calls Tryd.prog 31 #[av, sv, .int .i64 16] wB (MakesI wB (M.dg T 16))) := by
            have h := radd_any av sv (M.dg x 17) SD 16 wB ha.out (HSI.out wB kB) (M.dg_dig _ _) HSDig.out (by decide)
            have e : M.dg (M.gi (M.dg x 17) 16 + M.gi SD 16) 16 = M.dg T 16 := by
              rw [HSV.out, M.gi_dg x 17 16 (by decide), hT.out]
              exact M.dg_congr _ _ _ (by rw [Nat.mod_add_mod])
            rw [e] at h
            exact h
          clear hat
          go_wp2_with fail
          refine HAD.out.mono ?_
          rintro e w5 ⟨r5, rfl, o5, k5⟩
          obtain ⟨b5, q5, c5, rfl, hc5, hcell⟩ := (OwnI.isI o5).at2 16 (M.dg_length _ _) (by decide)
          have HCE : Hid (∀ w', Below w5.heap.size w5 w' → ∀ i, i < 16 → w'.cell? ⟨b5, q5 + i, none⟩ = some (.int .i64 ((T / 256 ^ i % 256 : Nat) : Int))) := fun w' kw i hi => by
            have h := hcell i hi
            rw [kw.cell (by exact World.block_lt_of_cell? w5 _ h), h, M.dg_get T 16 i hi]
          have kw5 : Below w.heap.size w w5 := kw.trans (k5.mono kw.size)
          clear o5 k5 hcell HAD
          go_wp2
          go_loopw [15, 16] (fun ov iv wr => ∃ i : Nat, i ≤ 16 ∧ iv = .int .i64 i ∧ Hid (Own wr w5.heap.size ov (M.le T i)) ∧ Below w5.heap.size w5 wr)
            (fun _ iv _ => 16 - (intOf iv).toNat)
          case atStart => exact ⟨0, by omega, rfl, World.ownsRow_nil _ _ _ _, Below.refl _ _⟩
          case round =>
            obtain ⟨wz, rfl⟩ : ∃ x, x = wr := ⟨_, rfl⟩
            obtain ⟨ov, rfl⟩ : ∃ z, z = u15 := ⟨_, rfl⟩
            obtain ⟨i, hi, rfl, ho, kz⟩ := hrel
            have kwz : Below w.heap.size w wz := kw5.trans (kz.mono kw5.size)
            by_cases hlt2 : i < 16
            · obtain ⟨d, hd⟩ : ∃ d, Hid (d = T / 256 ^ i % 256) := ⟨T / 256 ^ i % 256, rfl⟩
              have hdb : d < 256 := by rw [hd.out]; omega
              have cd : wz.cell? ⟨b5, q5 + i, none⟩ = some (.int .i64 (d : Int)) := by rw [hd.out]; exact HCE.out wz kz i hlt2
              have hdm : (d : Int) % 256 = (d : Int) := by omega
              have HDU : Hid ((d : Int) = ((UInt8.ofNat d).toNat : Int)) := by rw [Hid, UInt8.toNat_ofNat']; omega
              have OO : Hid (∀ o, Own (wz.alloc o) w5.heap.size ov (M.le T i)) := fun o => ho.out.below ((Below.refl _ _).alloc (Nat.le_refl _) o)
              have HOL : Hid ((M.le T i).length + [UInt8.ofNat d].length ≤ 140737488355328) := by rw [Hid, M.le_length]; show i + 1 ≤ _; omega
              have hsz1 : Hid (w5.heap.size ≤ wz.heap.size + 1) := Nat.le_succ_of_le kz.size
              go_wp2_with (at_builtin; (refine wpList_app _ rfl _ _ rfl w5.heap.size ov (M.le T i) rfl (OO.out _) _ [UInt8.ofNat d] rfl (isB_one wz 5 (UInt8.ofNat d) d HDU.out) (fun n c h => by cases h) HOL.out (by simp; exact hsz1.out) ?_))
              intro v6 w6 o6 k6 _
              have k56 : Below w5.heap.size w5 w6 := (kz.alloc kz.size _).trans k6
              have ho6 : Hid (Own w6 w5.heap.size v6 (M.le T (i + 1))) := by rw [M.le_next, ← hd.out]; exact o6
              go_wp2
              go_roundw
              case rel => exact ⟨i + 1, by omega, by go_num, ho6, k56⟩
              case measure => simp [intOf]; omega
            · obtain rfl : i = 16 := by omega
              go_wp2
              go_ret2
              exact ⟨ov, rfl, by rw [HTAG.out]; exact Own.mono ho.out kw5.size, kwz⟩

end Go.Proofs.YtogklpeehfoijaaDoor
