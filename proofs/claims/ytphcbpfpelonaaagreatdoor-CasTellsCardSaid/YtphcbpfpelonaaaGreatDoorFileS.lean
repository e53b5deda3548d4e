/-
  THE CONTRACT OF Files.may. Conditions: all lies so, at most 100000 changes, of 2^40 bytes each.
-/
import Derived.Test.YtphcbpfpelonaaaGreatDoorPf25
namespace Go.Proofs.YtphcbpfpelonaaaGreatDoor
open Go.RowKit Go.Maps
set_option linter.unusedVariables false
set_option maxRecDepth 100000

namespace M
/-- How many files there will be, as may counts them. -/
def cntS (t : Tab) (a : Int) (c : FC) : Int := if c.gone = true then a - 1 else if has t c.nm = true then a else a + 1
def blkS (a : Nat) (c : FC) : Nat := if c.gone = true then a else a + need c.data.length
def cntN (t : Tab) (l : FL) : Int := l.foldl (cntS t) (t.length : Int)
def blkN (l : FL) : Nat := l.foldl blkS 0

/-- What may answers. -/
noncomputable def fmay (nb : Nat) (t : Tab) (l : FL) : Int :=
  if ¬ NamesOk l then 1 else if ¬ AllThere t l then 4 else if 64 < cntN t l then 3 else if (free nb t).length < blkN l then 2 else 0

theorem cntN_next (t : Tab) (l : FL) (k : Nat) (hk : k < l.length) : cntN t (l.take (k + 1)) = cntS t (cntN t (l.take k)) (l.getD k default) := by
  rw [cntN, List.take_add_one, List.foldl_append, List.getElem?_eq_getElem hk, List.getD_eq_getElem?_getD, List.getElem?_eq_getElem hk]
  rfl

theorem blkN_next (l : FL) (k : Nat) (hk : k < l.length) : blkN (l.take (k + 1)) = blkS (blkN (l.take k)) (l.getD k default) := by
  rw [blkN, List.take_add_one, List.foldl_append, List.getElem?_eq_getElem hk, List.getD_eq_getElem?_getD, List.getElem?_eq_getElem hk]
  rfl

theorem cntN_le (t : Tab) (l : FL) : ∀ k, k ≤ l.length → (t.length : Int) - k ≤ cntN t (l.take k) ∧ cntN t (l.take k) ≤ t.length + k
  | 0, _ => by rw [List.take_zero]; show _ ≤ (t.length : Int) ∧ (t.length : Int) ≤ _; omega
  | k + 1, h => by
    have ih := cntN_le t l k (by omega)
    rw [cntN_next t l k (by omega), cntS]
    split
    · omega
    · split <;> omega

theorem blkN_le (l : FL) (hd : ∀ c ∈ l, c.data.length ≤ 1099511627776) : ∀ k, k ≤ l.length → blkN (l.take k) ≤ k * 4294967297
  | 0, _ => by rw [List.take_zero]; exact Nat.zero_le _
  | k + 1, h => by
    have ih := blkN_le l hd k (by omega)
    have h1 := hd (l.getD k default) (by rw [List.getD_eq_getElem?_getD, List.getElem?_eq_getElem (by omega)]; exact List.getElem_mem _)
    rw [blkN_next l k (by omega), blkS, need, Nat.succ_mul]
    generalize k * 4294967297 = z at ih ⊢
    split <;> omega
end M

set_option maxHeartbeats 8000000 in
theorem fmay_any {T : Nat → Prop} {w : World} {gf gw g mb nb : Nat} {m : M.Dsk} {dn : Bool} {t : M.Tab} {vs : List Value} (hF : FLies T w gf gw g mb nb m dn t vs) (lv : Value) (l : M.FL) (xs : List Value) (hl : IsFL w lv l xs) (hlen : l.length ≤ 100000) (hd : ∀ c ∈ l, c.data.length ≤ 1099511627776) (r : Int) (hr : r = M.fmay nb t l) :
    Calls Tryz.prog 27 #[.pointer (some ⟨gf, 0, none⟩), lv] w fun e w' => e = .returned (.int .i64 r) ∧ Below w.heap.size w w' := by
  have hmf : ∀ (fn : Fn) (first cap : Array Value) (w : World), (Instr.makeFunc fn first cap).run Tryz.prog w = .ok (.func fn first cap) w := fun _ _ _ _ => rfl
  obtain ⟨W, hW⟩ : ∃ x, Hid (x = w.alloc (.cells #[.pointer (some ⟨gf, 0, none⟩)] 26)) := ⟨_, rfl⟩
  obtain ⟨x0, hx0⟩ : ∃ x, Hid (x = w.heap.size) := ⟨_, rfl⟩
  have KW : Hid (Below w.heap.size w W) := by rw [hW.out]; exact (Below.refl _ _).alloc (Nat.le_refl _) _
  have BW : Hid (Blk W x0 26 [.pointer (some ⟨gf, 0, none⟩)]) := by rw [hW.out]; exact Blk.newAt _ _ _ _ _ hx0.out rfl
  have HF := Lib.hid (hF.below KW.out)
  have HL := Lib.hid (hl.below KW.out)
  have hl' := hl
  obtain ⟨ao, cap, rfl, -, -, -, -, -⟩ := hl'
  obtain ⟨n, hn⟩ : ∃ n, n = l.length := ⟨_, rfl⟩
  have HN : Hid (l.length = n) := hn.symm
  have HLN : Hid (n ≤ 100000) := by rw [Hid, hn]; exact hlen
  have HD := Lib.hid hd
  have HR := Lib.hid hr
  rw [← hn] at HL ⊢
  have hlm := HF.out.tab.lenM 3
  have c0 := BW.out.cell 0
  have c1 := HF.out.at_.cell 1
  simp only [List.getElem?_cons_succ, List.getElem?_cons_zero] at c0 c1
  have HFEW : Hid (t.length ≤ 64) := HF.out.ok.few
  clear hF hl hlen hd hr hn
  go_enter Tryz.func27, Tryz.ntmps27
  go_upto_region 1 with fail
  rw [← hW.out, ← hx0.out]
  clear hW hx0
  go_upto_region 3 with fail
  clear hlm c0 c1
  go_wp2
  go_loopw [5, 6, 16] (fun cv bv i wr => ∃ k : Nat, i = .int .i64 (k : Int) ∧ Hid (k ≤ n) ∧ cv = .int .i64 (M.cntN t (l.take k)) ∧ bv = .int .i64 ((M.blkN (l.take k) : Nat) : Int) ∧ Hid (Below W.heap.size W wr))
    (fun _ _ i _ => n - numOf i)
  case atStart => exact ⟨0, rfl, Nat.zero_le _, by rw [List.take_zero]; rfl, by rw [List.take_zero]; rfl, Below.refl _ _⟩
  case round =>
    obtain ⟨wz, rfl⟩ : ∃ x, x = wr := ⟨_, rfl⟩
    obtain ⟨k, rfl, hk, ecv, ebv, kk⟩ := hrel
    obtain ⟨cnt, hcnt⟩ : ∃ z, z = M.cntN t (l.take k) := ⟨_, rfl⟩
    obtain ⟨blk, hblk⟩ : ∃ z, z = M.blkN (l.take k) := ⟨_, rfl⟩
    have HCL : Hid (-100000 ≤ cnt ∧ cnt ≤ 100064) := by
      have h1 := M.cntN_le t l k (by rw [HN.out]; exact hk.out)
      have h2 := HFEW.out
      have h3 := HLN.out
      have h4 := hk.out
      rw [Hid, hcnt]
      omega
    have HBL : Hid (blk ≤ 429496729700000) := by
      have h1 := M.blkN_le l HD.out k (by rw [HN.out]; exact hk.out)
      have h3 := HLN.out
      have h4 := hk.out
      rw [Hid, hblk]
      omega
    rw [← hcnt] at ecv
    rw [← hblk] at ebv
    subst ecv ebv
    by_cases hlt : k < n
    · have b1 : (k : Int) < (n : Int) := by omega
      have HK := Lib.hid hlt
      have hkl : k < l.length := by rw [HN.out]; exact hlt
      have hcn := M.cntN_next t l k hkl
      have hbn := M.blkN_next l k hkl
      obtain ⟨lb, lo, rfl, c0, c1, c2, ib, -, hnm⟩ := (HL.out.below kk.out).at_ k hkl
      have hdl := HD.out (l.getD k default) (by rw [List.getD_eq_getElem?_getD, List.getElem?_eq_getElem hkl]; exact List.getElem_mem _)
      obtain ⟨c, hc⟩ : ∃ c, c = l.getD k default := ⟨_, rfl⟩
      rw [← hc] at c0 c2 ib hnm hcn hbn hdl
      rw [← hcnt, M.cntS] at hcn
      rw [← hblk, M.blkS] at hbn
      obtain ⟨da, dc, hdv⟩ := ib.shape
      obtain ⟨dn, hdn⟩ : ∃ z, z = c.data.length := ⟨_, rfl⟩
      rw [hdv, ← hdn] at c1
      rw [← hdn] at hdl hbn
      obtain ⟨gone, hgone⟩ : ∃ z, z = c.gone := ⟨_, rfl⟩
      rw [← hgone] at c2 hcn hbn
      have CH0 := fun (x : World) (kx : Below wz.heap.size wz x) => fhas_any ((HF.out.at_.below kk.out).below kx) ((HF.out.tab.below kk.out).below kx) c.nm hnm
      have CH := Lib.hid CH0
      obtain ⟨hs, hhs⟩ : ∃ z, z = t.any fun p => p.nm == c.nm := ⟨_, rfl⟩
      rw [← hhs] at CH
      have ehs : M.has t c.nm = hs := by rw [M.has, hhs]
      rw [ehs] at hcn
      obtain ⟨nm, hnm0⟩ : ∃ s : ByteArray, s = ⟨c.nm.toArray⟩ := ⟨_, rfl⟩
      rw [← hnm0] at c0 CH
      obtain ⟨nd, hnd⟩ : ∃ z, z = M.need dn := ⟨_, rfl⟩
      have CN := Lib.hid (fun x => need_any dn x hdl)
      rw [← hnd] at CN hbn
      have HNDL : Hid (nd ≤ 4294967297) := by rw [Hid, hnd, M.need]; omega
      obtain ⟨w1, hw1⟩ : ∃ x, Hid (x = wz.alloc (.cells #[.string nm, .slice da dn dc, .bool gone] 58)) := ⟨_, rfl⟩
      obtain ⟨x1, hx1⟩ : ∃ x, Hid (x = wz.heap.size) := ⟨_, rfl⟩
      have K1 : Hid (Below wz.heap.size wz w1) := by rw [hw1.out]; exact (Below.refl _ _).alloc (Nat.le_refl _) _
      have B1 : Hid (Blk w1 x1 58 [.string nm, .slice da dn dc, .bool gone]) := by rw [hw1.out]; exact Blk.newAt _ _ _ _ _ hx1.out rfl
      have BZ := Lib.hid (BW.out.below (kk.out.trans (K1.out.mono kk.out.size)) BW.out.lt)
      have d0 := B1.out.cell 0
      have d2 := B1.out.cell 2
      have db := BZ.out.cell 0
      simp only [List.getElem?_cons_zero, List.getElem?_cons_succ] at d0 d2 db
      have KZ1 : Hid (Below W.heap.size W w1) := kk.out.trans (K1.out.mono kk.out.size)
      have g2 : (0 : Int) ≤ (k : Int) := Int.natCast_nonneg k
      have g3 : ((k : Int)).toNat = k := Int.toNat_natCast k
      have n3 : wrap64 ((k : Int) + 1) = ((k + 1 : Nat) : Int) := by have := HLN.out; unfold wrap64; omega
      have N3 := Lib.hid n3
      have HCN := Lib.hid hcn
      have HBN := Lib.hid hbn
      clear hc hnm hdv hdn hgone hhs ehs hnm0 hnd n3 ib hdl hkl hcn hbn hcnt hblk CH0
      cases gone with
      | true =>
        have w5 : wrap64 (cnt - 1) = cnt - 1 := by have := HCL.out; unfold wrap64; omega
        have W5 := Lib.hid w5
        go_upto_region 5 with fail
        rw [← hw1.out, ← hx1.out]
        clear c0 c1 c2 hw1 hx1 w5
        go_wp2
        go_roundw
        case rel => exact ⟨k + 1, by first | rw [N3.out] | rfl, HK.out, by rw [HCN.out, if_pos rfl]; first | rw [W5.out] | rfl, by rw [HBN.out, if_pos rfl], KZ1.out⟩
        case measure =>
          first | rw [N3.out] | skip
          exact step_down HK.out
      | false =>
        have w6 : wrap64 ((blk : Int) + (nd : Int)) = ((blk + nd : Nat) : Int) := by have := HBL.out; have := HNDL.out; unfold wrap64; omega
        have W6 := Lib.hid w6
        have CHI := Lib.hid (CH.out w1 K1.out)
        cases hs with
        | true =>
          go_upto_region 5 with fail
          rw [← hw1.out, ← hx1.out]
          clear c0 c1 c2 hw1 hx1 w6
          go_wp2_with fail
          refine CHI.out.mono ?_
          rintro e w2 ⟨rfl, k2⟩
          have d1 := (B1.out.below k2 B1.out.lt).cell 1
          have d2 := (B1.out.below k2 B1.out.lt).cell 2
          simp only [List.getElem?_cons_zero, List.getElem?_cons_succ] at d1 d2
          have KZ2 : Hid (Below W.heap.size W w2) := KZ1.out.trans (k2.mono KZ1.out.size)
          go_wp2_with fail
          refine (CN.out _).mono ?_
          rintro e w3 ⟨rfl, rfl⟩
          go_wp2
          go_roundw
          case rel => exact ⟨k + 1, by first | rw [N3.out] | rfl, HK.out, by rw [HCN.out]; rfl, by rw [HBN.out]; first | rw [W6.out]; rfl | rfl, KZ2.out⟩
          case measure =>
            first | rw [N3.out] | skip
            exact step_down HK.out
        | false =>
          have w5 : wrap64 (cnt + 1) = cnt + 1 := by have := HCL.out; unfold wrap64; omega
          have W5 := Lib.hid w5
          go_upto_region 5 with fail
          rw [← hw1.out, ← hx1.out]
          clear c0 c1 c2 hw1 hx1 w6 w5
          go_wp2_with fail
          refine CHI.out.mono ?_
          rintro e w2 ⟨rfl, k2⟩
          have d1 := (B1.out.below k2 B1.out.lt).cell 1
          have d2 := (B1.out.below k2 B1.out.lt).cell 2
          simp only [List.getElem?_cons_zero, List.getElem?_cons_succ] at d1 d2
          have KZ2 : Hid (Below W.heap.size W w2) := KZ1.out.trans (k2.mono KZ1.out.size)
          go_wp2_with fail
          refine (CN.out _).mono ?_
          rintro e w3 ⟨rfl, rfl⟩
          go_wp2
          go_roundw
          case rel => exact ⟨k + 1, by first | rw [N3.out] | rfl, HK.out, by rw [HCN.out]; first | (rw [W5.out]; rfl) | rfl, by rw [HBN.out]; first | rw [W6.out]; rfl | rfl, KZ2.out⟩
          case measure =>
            first | rw [N3.out] | skip
            exact step_down HK.out
    · have b1 : ¬ (k : Int) < (n : Int) := by omega
      obtain rfl : k = n := by have := hk.out; omega
      rw [List.take_of_length_le (by rw [HN.out]; exact Nat.le_refl _)] at hcnt hblk
      have C1 := Lib.hid (namesMay_any (HL.out.below kk.out) (by rw [HN.out]; exact HLN.out))
      obtain ⟨ok, hok⟩ : ∃ b, b = decide (M.NamesOk l) := ⟨_, rfl⟩
      obtain ⟨bad, hbad⟩ : ∃ b, b = !decide (M.AllThere t l) := ⟨_, rfl⟩
      have C2 := Lib.hid (fun (x : World) (kx : Below wz.heap.size wz x) => fcontains_any ((HF.out.at_.below kk.out).below kx) ((HF.out.tab.below kk.out).below kx) x0 (((BW.out.below kk.out BW.out.lt).below kx (BW.out.below kk.out BW.out.lt).lt).cell 0) _ l xs ((HL.out.below kk.out).below kx) (by rw [HN.out]; exact HLN.out) bad hbad)
      have C3 := Lib.hid (fun (x : World) (kx : Below wz.heap.size wz x) => ffree_any ((HF.out.below kk.out).below kx))
      have DB := Lib.hid (fun (x : World) (kx : Below wz.heap.size wz x) => (((BW.out.below kk.out BW.out.lt).below kx (BW.out.below kk.out BW.out.lt).lt).cell 0))
      rw [← hok] at C1
      obtain ⟨fr, hfr⟩ : ∃ z, z = (M.free nb t).length := ⟨_, rfl⟩
      rw [← hfr] at C3
      have HRR : Hid (r = if ok = false then 1 else if bad = true then 4 else if 64 < cnt then 3 else if fr < blk then 2 else 0) := by
        rw [Hid, HR.out, M.fmay, hok, hbad, hcnt, hblk, hfr]
        by_cases h1 : M.NamesOk l
        · by_cases h2 : M.AllThere t l
          · simp [h1, h2]
          · simp [h1, h2]
        · simp [h1]
      clear hlt hcnt hblk hok hbad hfr
      go_wp2_with fail
      refine C1.out.mono ?_
      rintro e w1 ⟨rfl, k1⟩
      have K1 := Lib.hid k1
      have KK1 : Hid (Below w.heap.size w w1) := KW.out.trans ((kk.out.trans (k1.mono kk.out.size)).mono KW.out.size)
      clear k1 C1
      cases ok with
      | false =>
        have HR1 : Hid (r = 1) := by rw [Hid, HRR.out, if_pos rfl]
        go_wp2
        go_ret
        exact ⟨by rw [HR1.out]; rfl, KK1.out⟩
      | true =>
        have C2' := Lib.hid (C2.out w1 K1.out)
        go_wp2_with fail
        refine C2'.out.mono ?_
        rintro e w2 ⟨rfl, k2⟩
        have K2 : Hid (Below wz.heap.size wz w2) := K1.out.trans (k2.mono K1.out.size)
        have KK2 : Hid (Below w.heap.size w w2) := KK1.out.trans (k2.mono KK1.out.size)
        clear k2 C2 C2'
        cases bad with
        | true =>
          have HR1 : Hid (r = 4) := by rw [Hid, HRR.out, if_neg (by decide), if_pos rfl]
          go_wp2
          go_ret
          exact ⟨by rw [HR1.out]; rfl, KK2.out⟩
        | false =>
          by_cases h64 : 64 < cnt
          · have HR1 : Hid (r = 3) := by rw [Hid, HRR.out, if_neg (by decide), if_neg (by decide), if_pos h64]
            go_wp2
            go_ret
            exact ⟨by rw [HR1.out]; rfl, KK2.out⟩
          · have HR0 : Hid (r = if fr < blk then 2 else 0) := by rw [Hid, HRR.out, if_neg (by decide), if_neg (by decide), if_neg h64]
            have C3' := Lib.hid (C3.out w2 K2.out)
            have db := DB.out w2 K2.out
            simp only [List.getElem?_cons_zero] at db
            go_wp2_with fail
            refine C3'.out.mono ?_
            rintro e w3 ⟨rfl, k3⟩
            have KK3 : Hid (Below w.heap.size w w3) := KK2.out.trans (k3.mono KK2.out.size)
            clear k3 C3 C3' db
            by_cases hfb : fr < blk
            · have b3 : (fr : Int) < (blk : Int) := by omega
              have HR1 : Hid (r = 2) := by rw [Hid, HR0.out, if_pos hfb]
              go_wp2
              go_ret
              exact ⟨by rw [HR1.out]; rfl, KK3.out⟩
            · have b3 : ¬ (fr : Int) < (blk : Int) := by omega
              have HR1 : Hid (r = 0) := by rw [Hid, HR0.out, if_neg hfb]
              go_wp2
              go_ret
              exact ⟨by rw [HR1.out]; rfl, KK3.out⟩

end Go.Proofs.YtphcbpfpelonaaaGreatDoor
