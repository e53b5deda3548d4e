/-
  CONTRACT OF orlopref11.Commit. Conditions: the files and the changes lie so.
-/
import Derived.Test.YtgmhfianpdhnmaaGreatDoorPf32
namespace Go.Proofs.YtgmhfianpdhnmaaGreatDoor
open Go.RowKit
set_option linter.unusedVariables false
set_option maxRecDepth 100000

def M.nameAt (c : M.FC) : Prop := 1 ≤ c.nm.length ∧ c.nm.length ≤ 40

theorem M.names_iff (l : M.FL) : M.NamesOk l ↔ ∀ i, i < l.length → M.nameAt (l.getD i default) ∧ ∀ k, k < i → (l.getD k default).nm ≠ (l.getD i default).nm := by
  have g : ∀ j, (hj : j < l.length) → l.getD j default = l[j] := fun j hj => by rw [List.getD_eq_getElem?_getD, List.getElem?_eq_getElem hj]; rfl
  constructor
  · intro h i hi
    refine ⟨h.1 _ (by rw [g i hi]; exact List.getElem_mem hi), fun k hk => M.names_ne h hi hk⟩
  · intro h
    refine ⟨fun c hc => ?_, ?_⟩
    · obtain ⟨i, hi, rfl⟩ := List.mem_iff_getElem.1 hc
      have := (h i hi).1
      rwa [g i hi] at this
    · rw [List.Nodup, List.pairwise_map, List.pairwise_iff_getElem]
      intro i j hi hj hij e
      have := (h j hj).2 i hij
      rw [g i hi, g j hj] at this
      exact this e

theorem M.fdrop_le (F : M.Fs) (k : List UInt8) : (M.fdrop F k).length ≤ F.length := by
  rw [M.fdrop, List.length_append, List.length_take, List.length_drop]
  omega

theorem M.fput_le (F : M.Fs) (k b : List UInt8) : (M.fput F k b).length ≤ F.length + 1 := by
  have := M.fdrop_le F k
  rw [M.fput, List.length_append, List.length_cons, List.length_take, List.length_drop]
  omega

theorem M.fapply_le (F : M.Fs) (l : M.FL) : ∀ k, k ≤ l.length → (M.fapply F (l.take k)).length ≤ F.length + k
  | 0, _ => Nat.le_refl _
  | k + 1, h => by
    have ih := M.fapply_le F l k (by omega)
    rw [M.fapply_next F l k (by omega), M.fstep]
    split
    · have := M.fdrop_le (M.fapply F (l.take k)) (l.getD k default).nm
      omega
    · have := M.fput_le (M.fapply F (l.take k)) (l.getD k default).nm (l.getD k default).data
      omega

theorem M.atI_neg (F : M.Fs) (k : List UInt8) : (M.atI F k < 0) ↔ M.hasF F k = false := by
  rw [M.atI]
  by_cases h : M.atF F k < F.length
  · rw [if_pos h]
    rw [M.atF, List.findIdx_lt_length] at h
    have : M.hasF F k = true := by rw [M.hasF, List.any_eq_true]; exact h
    rw [this]
    constructor
    · intro h; omega
    · intro h; cases h
  · rw [if_neg h]
    have : M.hasF F k = false := by
      cases hh : M.hasF F k with
      | false => rfl
      | true =>
        rw [M.hasF, List.any_eq_true] at hh
        exact absurd (by rw [M.atF, List.findIdx_lt_length]; exact hh) h
    rw [this]
    exact ⟨fun _ => rfl, fun _ => by decide⟩

theorem IsFL.there {w : World} {v : Value} {l : M.FL} {xs : List Value} (h : IsFL w v l xs) (i : Nat) (hi : i < l.length) (hn : (l.getD i default).data ≠ []) : Lies (fun k => k < w.heap.size) (xs.getD i undef) := by
  obtain ⟨ao, cap, e, _, _, _, h1, _⟩ := h
  exact (h1 i hi).1.there hn

/-- What Commit leaves of the document's files. -/
def RefEnds (S : Nat → Prop) (w : World) (gr : Nat) (nb : Int) (F : M.Fs) (w' : World) : Prop :=
  Chg (fun b => b = gr) w w' ∧ ∃ v xs, RefAt11 w' gr v nb ∧ IsFs (fun j => S j ∨ (w.heap.size ≤ j ∧ j < w'.heap.size)) w' v F xs

set_option maxHeartbeats 16000000 in
theorem rcommit11_any {S : Nat → Prop} {w : World} {gr : Nat} {v : Value} {nb : Int} {F : M.Fs} {xs : List Value} (hb : RefAt11 w gr v nb) (hF : IsFs S w v F xs) (hS : ¬ S gr) (hSl : ∀ j, S j → j < w.heap.size) (hlen : F.length ≤ 64) (hd : ∀ q ∈ F, q.data.length ≤ 1099511627776) (hnb : -1099511627776 ≤ nb ∧ nb ≤ 1099511627776)
    (lv : Value) (l : M.FL) (ys : List Value) (hl : IsFL w lv l ys) (hll : l.length ≤ 100) (hld : ∀ c ∈ l, c.data.length ≤ 1099511627776) (r : Int) (hr : r = M.fcode nb F l) (FE : M.Fs) (hFE : FE = if r = 0 then M.fapply F l else F) :
    Calls Tryz.prog 14 #[.pointer (some ⟨gr, 0, none⟩), lv] w fun e w' => e = .returned (.int .i64 r) ∧ RefEnds S w gr nb FE w' := by
  obtain ⟨ao, cap, e⟩ : ∃ ao cap, lv = .slice ao l.length cap := by obtain ⟨a, c, e, _⟩ := hl; exact ⟨a, c, e⟩
  subst e
  obtain ⟨n, hn⟩ : ∃ n, n = l.length := ⟨_, rfl⟩
  rw [← hn] at hl hll ⊢
  have HN : Hid (l.length = n) := hn.symm
  have HL := Lib.hid hl
  have HLL := Lib.hid hll
  have HB := Lib.hid hb
  have HF := Lib.hid hF
  have HS := Lib.hid hS
  have HSL := Lib.hid hSl
  have HLEN := Lib.hid hlen
  have HD := Lib.hid hd
  have HNB := Lib.hid hnb
  have HLD := Lib.hid hld
  have HR := Lib.hid hr
  have HFE0 : Hid (r ≠ 0 → FE = F) := fun h => by rw [hFE, if_neg h]
  have HFE1 : Hid (r = 0 → FE = M.fapply F l) := fun h => by rw [hFE, if_pos h]
  have HGL := Lib.hid hb.lt
  clear hb hF hS hSl hlen hd hnb hl hll hld hr hn hFE
  have HEND : Hid (∀ y, Below w.heap.size w y → r ≠ 0 → RefEnds S w gr nb FE y) := fun y ky h1 => by
    rw [HFE0.out h1]
    exact ⟨Chg.of_below ky, v, xs, HB.out.below ky HGL.out, (HF.out.below ky).mono fun j hj => .inl hj⟩
  go_enter Tryz.func14, Tryz.ntmps14
  go_wp2
  go_loopw [5] (fun i wr => ∃ j : Nat, i = .int .i64 (j : Int) ∧ Hid (j ≤ n ∧ ∀ x, x < j → M.nameAt (l.getD x default) ∧ ∀ k, k < x → (l.getD k default).nm ≠ (l.getD x default).nm) ∧ Hid (Below w.heap.size w wr))
    (fun i _ => n - numOf i)
  case atStart => exact ⟨0, rfl, ⟨Nat.zero_le _, fun x hx => by omega⟩, Below.refl _ _⟩
  case round =>
    obtain ⟨wz, rfl⟩ : ∃ x, x = wr := ⟨_, rfl⟩
    obtain ⟨j, rfl, hj, kk⟩ := hrel
    by_cases hlt : j < n
    · have b1 : (j : Int) < (n : Int) := by omega
      have hj' : j < l.length := by rw [HN.out]; exact hlt
      have HNO : Hid (∀ x, x < l.length → ¬ (M.nameAt (l.getD x default) ∧ ∀ k, k < x → (l.getD k default).nm ≠ (l.getD x default).nm) → r = 1) := fun x hx h => by
        rw [HR.out, M.fcode, if_pos fun hh => h ((M.names_iff l).1 hh x hx)]
      obtain ⟨b, off, hao, d0, d1, d2, ib, _, hnl⟩ := (HL.out.below kk.out).at_ j hj'
      obtain ⟨p, hp⟩ : ∃ q, q = (l.getD j default).nm.length := ⟨_, rfl⟩
      have HNA : Hid (M.nameAt (l.getD j default) ↔ 1 ≤ p ∧ p ≤ 40) := by rw [Hid, M.nameAt, hp]
      obtain ⟨sn, hsn⟩ : ∃ s : ByteArray, s = ⟨(l.getD j default).nm.toArray⟩ := ⟨_, rfl⟩
      have zsn : sn.size = p := by rw [hsn, hp]; rfl
      rw [← hsn] at d0
      have HSN := Lib.hid hsn
      have HLT := Lib.hid hlt
      have g2 : (0 : Int) ≤ (j : Int) := by omega
      have g3 : ((j : Int)).toNat = j := by omega
      subst hao
      clear d1 d2 ib hnl hp hsn hlt hj'
      by_cases s1 : p < 1
      · have b3 : (p : Int) < (1 : Int) := by omega
        have HE := Lib.hid (HNO.out j (by rw [HN.out]; exact HLT.out) fun h => by have := HNA.out.1 h.1; omega)
        clear hj HNO s1
        go_wp2
        go_ret
        exact ⟨by rw [HE.out]; rfl, HEND.out _ kk.out (by rw [HE.out]; decide)⟩
      · have b3 : ¬ (p : Int) < (1 : Int) := by omega
        by_cases s2 : 40 < p
        · have b4 : (40 : Int) < (p : Int) := by omega
          have HE := Lib.hid (HNO.out j (by rw [HN.out]; exact HLT.out) fun h => by have := HNA.out.1 h.1; omega)
          clear hj HNO s1 s2
          go_wp2
          go_ret
          exact ⟨by rw [HE.out]; rfl, HEND.out _ kk.out (by rw [HE.out]; decide)⟩
        · have b4 : ¬ (40 : Int) < (p : Int) := by omega
          have HNJ : Hid (M.nameAt (l.getD j default)) := HNA.out.2 (by omega)
          clear s1 s2
          go_wp2
          go_loopw [6] (fun i wr => ∃ k : Nat, i = .int .i64 (k : Int) ∧ Hid (k ≤ j ∧ ∀ x, x < k → (l.getD x default).nm ≠ (l.getD j default).nm) ∧ Hid (Below w.heap.size w wr))
            (fun i _ => j - numOf i)
          case atStart => exact ⟨0, rfl, ⟨Nat.zero_le _, fun x hx => by omega⟩, kk.out⟩
          case round =>
            obtain ⟨wy, rfl⟩ : ∃ x, x = wr := ⟨_, rfl⟩
            obtain ⟨k, rfl, hk, kk2⟩ := hrel
            by_cases hlt2 : k < j
            · have b5 : (k : Int) < (j : Int) := by omega
              have hj' : j < l.length := by rw [HN.out]; exact HLT.out
              obtain ⟨b', off', e', c0, _, _, _, _, _⟩ := (HL.out.below kk2.out).at_ k (by omega)
              injection e' with e'
              injection e' with e1 e2 e3
              subst e1 e2
              obtain ⟨b', off', e', c1, _, _, _, _, _⟩ := (HL.out.below kk2.out).at_ j hj'
              injection e' with e'
              injection e' with e1 e2 e3
              subst e1 e2
              rw [← HSN.out] at c1
              obtain ⟨nk, hnk⟩ : ∃ z, z = (l.getD k default).nm := ⟨_, rfl⟩
              rw [← hnk] at c0
              obtain ⟨sk, hsk⟩ : ∃ s : ByteArray, s = ⟨nk.toArray⟩ := ⟨_, rfl⟩
              rw [← hsk] at c0
              have q1 : (sk.toList == sn.toList) = decide (nk = (l.getD j default).nm) := by rw [hsk, HSN.out]; exact str_eq nk _
              have HNK := Lib.hid hnk
              have HLT2 := Lib.hid hlt2
              have g4 : (0 : Int) ≤ (k : Int) := by omega
              have g5 : ((k : Int)).toNat = k := by omega
              have hb2 : (k : Int) < (n : Int) := by have := HLT.out; omega
              have G1 : Hid (wrap64 ((k : Int) + 1) = ((k + 1 : Nat) : Int)) := wrap_next (by have := HLL.out; have := HLT.out; omega)
              clear hnk hsk hlt2 hj'
              by_cases he : nk = (l.getD j default).nm
              · rw [decide_eq_true he] at q1
                have HE := Lib.hid (HNO.out j (by rw [HN.out]; exact HLT.out) fun h => h.2 k HLT2.out (by rw [← HNK.out]; exact he))
                clear hj hk HNO he
                go_upto_region 9 with fail
                go_quiet (fail)
                go_wp2
                go_ret
                exact ⟨by rw [HE.out]; rfl, HEND.out _ (drewN_below kk2.out _) (by rw [HE.out]; decide)⟩
              · rw [decide_eq_false he] at q1
                have hS' : Hid (k + 1 ≤ j ∧ ∀ x, x < k + 1 → (l.getD x default).nm ≠ (l.getD j default).nm) := ⟨HLT2.out, fun x hx => by
                  by_cases e : x = k
                  · rw [e, ← HNK.out]; exact he
                  · exact hk.out.2 x (by omega)⟩
                clear hj hk HNO he
                go_upto_region 9 with fail
                go_quiet (fail)
                go_wp2
                go_roundw
                case rel => exact ⟨k + 1, by first | rfl | rw [G1.out], hS', drewN_below kk2.out _⟩
                case measure =>
                  have := HLT2.out
                  try rw [G1.out]
                  show j - (((k + 1 : Nat) : Int)).toNat < j - ((k : Int)).toNat
                  omega
            · have b5 : ¬ (k : Int) < (j : Int) := by omega
              have hS' : Hid (j + 1 ≤ n ∧ ∀ x, x < j + 1 → M.nameAt (l.getD x default) ∧ ∀ k, k < x → (l.getD k default).nm ≠ (l.getD x default).nm) := ⟨HLT.out, fun x hx => by
                by_cases e : x = j
                · rw [e]
                  exact ⟨HNJ.out, fun y hy => hk.out.2 y (by have := hk.out.1; omega)⟩
                · exact hj.out.2 x (by omega)⟩
              have G1 : Hid (wrap64 ((j : Int) + 1) = ((j + 1 : Nat) : Int)) := wrap_next (by have := HLL.out; have := HLT.out; omega)
              clear hj hk HNO hlt2
              go_wp2
              go_roundw
              case rel => exact ⟨j + 1, by first | rfl | rw [G1.out], hS', kk2.out⟩
              case measure =>
                have := HLT.out
                try rw [G1.out]
                show n - (((j + 1 : Nat) : Int)).toNat < n - ((j : Int)).toNat
                omega
    · have b1 : ¬ (j : Int) < (n : Int) := by omega
      have HNM : Hid (M.NamesOk l) := (M.names_iff l).2 fun i hi => hj.out.2 i (by have := HN.out; omega)
      have CC := Lib.hid (rcopy_any (HB.out.below kk.out HGL.out) (HF.out.below kk.out) (by have := HLEN.out; omega))
      have HZZ := Lib.hid kk.out.size
      clear hj hlt
      go_wp2_with fail
      refine CC.out.mono ?_
      rintro e w1 ⟨gn, v1, x1, rfl, hg1, bb1, ff1, k1⟩
      have K1 : Hid (Below w.heap.size w w1) := kk.out.trans (k1.mono HZZ.out)
      have HG1 : Hid (w.heap.size ≤ gn) := by rw [Hid]; have := HZZ.out; omega
      have R1 : Hid (∃ vg xg, RefAt11 w1 gn vg nb ∧ IsFs (fun i => S i ∨ (w.heap.size ≤ i ∧ i < w1.heap.size ∧ i ≠ gn)) w1 vg (M.fapply F (l.take 0)) xg) :=
        ⟨v1, x1, bb1, ff1.mono fun i hi => hi.imp_right fun h => ⟨by have := HZZ.out; omega, h.2.1, h.2.2⟩⟩
      clear CC k1 hg1 bb1 ff1
      go_wp2
      go_loopw [8, 9] (fun a i wr => ∃ k : Nat, i = .int .i64 (k : Int) ∧ Hid (k ≤ n ∧ ∀ x, x < k → M.badF F (l.getD x default) = false) ∧ (∃ z : Nat, a = .int .i64 (z : Int) ∧ Hid (z = M.blkN (l.take k))) ∧ Hid (Below w.heap.size w wr) ∧
          Hid (∃ vg xg, RefAt11 wr gn vg nb ∧ IsFs (fun i => S i ∨ (w.heap.size ≤ i ∧ i < wr.heap.size ∧ i ≠ gn)) wr vg (M.fapply F (l.take k)) xg))
        (fun a i _ => n - numOf i)
      case atStart => exact ⟨0, rfl, ⟨Nat.zero_le _, fun x hx => by omega⟩, ⟨0, rfl, rfl⟩, K1, R1⟩
      case round =>
        obtain ⟨wy, rfl⟩ : ∃ x, x = wr := ⟨_, rfl⟩
        obtain ⟨k, rfl, hk, ⟨z, rfl, hz⟩, KY, vg, xg, bg, fg⟩ := hrel
        have HBG := Lib.hid bg
        have HFG := Lib.hid fg
        have HGG := Lib.hid bg.lt
        clear bg fg
        by_cases hlt2 : k < n
        · have b2 : (k : Int) < (n : Int) := by omega
          have hk' : k < l.length := by rw [HN.out]; exact hlt2
          obtain ⟨b, off, hao, d0, d1, d2, ib, hi0, hnl⟩ := (HL.out.below KY.out).at_ k hk'
          have hth := HL.out.there k hk'
          have hfl := M.fapply_le F l k (by omega)
          have hfn := M.fapply_next F l k hk'
          have hbn := M.blkN_next l k hk'
          have hble := M.blkN_le l HLD.out k (by omega)
          have hdl := HLD.out (l.getD k default) (by rw [List.getD_eq_getElem?_getD, List.getElem?_eq_getElem hk']; exact List.getElem_mem _)
          obtain ⟨c, hc⟩ : ∃ c, c = l.getD k default := ⟨_, rfl⟩
          rw [← hc] at d0 d2 ib hnl hfn hbn hdl hth
          have HC := Lib.hid hc
          obtain ⟨dv, hdv⟩ : ∃ x, x = ys.getD k undef := ⟨_, rfl⟩
          rw [← hdv] at d1 ib hi0 hth
          obtain ⟨da, dc, rfl⟩ := ib.shape
          obtain ⟨q, hq⟩ : ∃ q, q = c.data.length := ⟨_, rfl⟩
          rw [← hq] at d1 ib hi0 hdl hth
          obtain ⟨Fk, hFk⟩ : ∃ z, z = M.fapply F (l.take k) := ⟨_, rfl⟩
          rw [← hFk] at HFG hfl hfn
          have HCA := Lib.hid (fun y (ky : Below w.heap.size w y) => rat_any (HB.out.below ky HGL.out) (HF.out.below ky) c.nm hnl (by have := HLEN.out; omega))
          have HSG : Hid (¬ (S gn ∨ (w.heap.size ≤ gn ∧ gn < wy.heap.size ∧ gn ≠ gn))) := fun h => by
            rcases h with h | h
            · have := HSL.out gn h
              have := HG1.out
              omega
            · exact h.2.2 rfl
          have HFL : Hid (Fk.length ≤ 1000) := by rw [Hid]; have := HLEN.out; have := HLL.out; omega
          have HCD := Lib.hid (rdrop_any HBG.out HFG.out HSG.out c.nm hnl HFL.out)
          have HCP := Lib.hid (fun y (ky : Below wy.heap.size wy y) => rput_any (HBG.out.below ky HGG.out) (HFG.out.below ky) HSG.out c.nm hnl HFL.out (.slice da q dc) c.data (ib.below ky) hi0 (fun hne => (hth hne).mono fun i hi e => by subst e; have := HG1.out; omega) (by rw [← hq]; exact hdl))
          have HCN := Lib.hid (fun y => rneed_any q y hdl)
          obtain ⟨nd, hnd⟩ : ∃ x, x = M.need q := ⟨_, rfl⟩
          rw [← hnd] at HCN
          have hnd2 : nd ≤ 4294967297 := by rw [hnd]; exact need_le2 hdl
          obtain ⟨s, hs⟩ : ∃ s : ByteArray, s = ⟨c.nm.toArray⟩ := ⟨_, rfl⟩
          rw [← hs] at d0 HCA HCD HCP
          have HLT2 := Lib.hid hlt2
          have G1 : Hid (wrap64 ((k : Int) + 1) = ((k + 1 : Nat) : Int)) := wrap_next (by have := HLL.out; omega)
          have g2 : (0 : Int) ≤ (k : Int) := by omega
          have g3 : ((k : Int)).toNat = k := by omega
          have KZ : Hid (∀ y, Below w.heap.size w y → y.cell? ⟨b, off + k * 3, none⟩ = some (.string s) ∧ y.cell? ⟨b, off + k * 3 + 1, none⟩ = some (.slice da q dc) ∧ y.cell? ⟨b, off + k * 3 + 2, none⟩ = some (.bool c.gone)) := fun y ky => by
            obtain ⟨b', off', e', c0, c1, c2, _, _, _⟩ := (HL.out.below ky).at_ k hk'
            rw [hao] at e'
            injection e' with e'
            injection e' with e1 e2 e3
            subst e1 e2
            rw [← hc] at c0 c2
            rw [← hdv, ← hq] at c1
            rw [← hs] at c0
            exact ⟨c0, c1, c2⟩
          have hNX : M.fapply F (l.take (k + 1)) = M.fstep Fk c := hfn
          have HNX := Lib.hid hNX
          have hBX : M.blkN (l.take (k + 1)) = M.blkS z c := by rw [hbn, hz.out]
          have HBX := Lib.hid hBX
          have HND := Lib.hid hnd
          have HQ := Lib.hid hq
          have HBZ : Hid (z ≤ 100 * 4294967297) := by
            rw [Hid, hz.out]
            refine Nat.le_trans hble (Nat.mul_le_mul_right _ ?_)
            have := HLL.out
            omega
          have HN2 := Lib.hid hnd2
          subst hao
          clear ib hi0 hnl hfn hbn hble hdl hth hc hdv hFk hs hk' hNX hBX hnd hnd2 hfl hlt2 HL d0 d1 d2 hq
          obtain ⟨c0, c1, c2⟩ := KZ.out wy KY.out
          cases hg : c.gone with
          | true =>
            rw [hg] at c2
            have HGN : Hid (c.gone = true) := hg
            have HBY : Hid (M.blkN (l.take (k + 1)) = z) := by rw [Hid, HBX.out, M.blkS, if_pos hg]
            have HFY : Hid (M.fapply F (l.take (k + 1)) = M.fdrop Fk c.nm) := by rw [Hid, HNX.out, M.fstep, if_pos hg]
            have HBD : Hid (M.badF F c = decide (M.atI F c.nm < 0)) := by
              rw [Hid, M.badF, hg, Bool.true_and]
              by_cases h : M.atI F c.nm < 0
              · rw [decide_eq_true h, (M.atI_neg F c.nm).1 h]; rfl
              · rw [decide_eq_false h]
                cases hh : M.hasF F c.nm with
                | true => rfl
                | false => exact absurd ((M.atI_neg F c.nm).2 hh) h
            obtain ⟨ai, hai⟩ : ∃ x, x = M.atI F c.nm := ⟨_, rfl⟩
            rw [← hai] at HCA HBD
            have HCA1 := Lib.hid (HCA.out wy KY.out)
            clear HCA hai hg hz HCP HCN
            go_wp2_with fail
            refine HCA1.out.mono ?_
            rintro e w2 ⟨rfl, rfl⟩
            clear HCA1
            by_cases hneg : ai < 0
            · have HE : Hid (r = 4) := by
                have hb : M.badF F c = true := by rw [HBD.out]; exact decide_eq_true hneg
                have hna : ¬ M.AllF F l := fun h => by
                  have := h k (by rw [HN.out]; exact HLT2.out)
                  rw [← HC.out, hb] at this
                  cases this
                rw [Hid, HR.out, M.fcode, if_neg (not_not_intro HNM.out), if_pos hna]
              clear hk
              go_wp2
              go_ret
              exact ⟨by rw [HE.out]; rfl, HEND.out _ KY.out (by rw [HE.out]; decide)⟩
            · have hS' : Hid (k + 1 ≤ n ∧ ∀ x, x < k + 1 → M.badF F (l.getD x default) = false) := ⟨HLT2.out, fun x hx => by
                by_cases e : x = k
                · rw [e, ← HC.out, HBD.out]
                  exact decide_eq_false hneg
                · exact hk.out.2 x (by omega)⟩
              clear hk
              go_wp2_with fail
              refine HCD.out.mono ?_
              rintro e w3 ⟨rfl, ch3, v3, x3, bb3, ff3⟩
              have h3 := ch3.size
              have K3 : Hid (Below w.heap.size w w3) := KY.out.trans (ch3.below KY.out.size (fun i hi => by subst hi; exact HG1.out))
              have FF := ff3.mono (R := fun i => S i ∨ (w.heap.size ≤ i ∧ i < w3.heap.size ∧ i ≠ gn)) (fun i hi => by
                have := HGG.out
                have := KY.out.size
                rcases hi with (hi | hi) | hi
                · exact .inl hi
                · exact .inr ⟨hi.1, by omega, hi.2.2⟩
                · exact .inr ⟨by omega, hi.2, by omega⟩)
              have R3 : Hid (∃ vg xg, RefAt11 w3 gn vg nb ∧ IsFs (fun i => S i ∨ (w.heap.size ≤ i ∧ i < w3.heap.size ∧ i ≠ gn)) w3 vg (M.fapply F (l.take (k + 1))) xg) :=
                ⟨v3, x3, bb3, by rw [HFY.out]; exact FF⟩
              clear HCD ch3 bb3 ff3 h3 c0 c1 c2
              go_wp2
              go_roundw
              case rel => exact ⟨k + 1, by first | rfl | rw [G1.out], hS', ⟨z, rfl, HBY.out.symm⟩, K3, R3⟩
              case measure =>
                have := HLT2.out
                try rw [G1.out]
                show n - (((k + 1 : Nat) : Int)).toNat < n - ((k : Int)).toNat
                omega
          | false =>
            rw [hg] at c2
            have HBY : Hid (M.blkN (l.take (k + 1)) = z + nd) := by rw [Hid, HBX.out, M.blkS, if_neg (by rw [hg]; decide), HND.out, HQ.out]
            have HFY : Hid (M.fapply F (l.take (k + 1)) = M.fput Fk c.nm c.data) := by rw [Hid, HNX.out, M.fstep, if_neg (by rw [hg]; decide)]
            have hS' : Hid (k + 1 ≤ n ∧ ∀ x, x < k + 1 → M.badF F (l.getD x default) = false) := ⟨HLT2.out, fun x hx => by
              by_cases e : x = k
              · rw [e, ← HC.out, M.badF, hg]
                rfl
              · exact hk.out.2 x (by omega)⟩
            have HGF : Hid (c.gone = false) := hg
            obtain ⟨y, hy⟩ : ∃ y, y = z + nd := ⟨_, rfl⟩
            have G0 : Hid (wrap64 ((z : Int) + (nd : Int)) = (y : Int)) := by
              rw [Hid, wrap_id (by have := HBZ.out; have := HN2.out; omega)]
              omega
            rw [← hy] at HBY
            clear HCA HCD hk hz hy
            rw [hg] at KZ
            clear hg
            go_upto_region 20 with fail
            refine wp_region_any (by kernel_rfl) ?_
            change wpAny _ _ _ _ _ _ _ (World.drew _)
            refine wpAny_of_held (S := fun w' => Below w.heap.size w w') _ _ _ _ ?_
            have S0 : Below w.heap.size w wy.drew := KY.out.drew
            refine wpAnyH_take_at (i := 0) (v := .pointer (some ⟨gn, 0, none⟩)) rfl rfl (by kernel_rfl) (by kernel_rfl) (by kernel_rfl) (fun _ _ _ h => h) (Or.inl ⟨by rfl, fun w hS => by go_simp⟩) S0 ?_
            try simp only [List.setIfInBounds_toArray, List.set_cons_zero, List.set_cons_succ]
            refine wpAnyH_take_at (i := 1) (v := .slice (some ⟨b, off, none⟩) n cap) rfl rfl (by kernel_rfl) (by kernel_rfl) (by kernel_rfl) (fun _ _ _ h => h) (Or.inl ⟨by rfl, fun w hS => by go_simp⟩) S0 ?_
            try simp only [List.setIfInBounds_toArray, List.set_cons_zero, List.set_cons_succ]
            refine wpAnyH_take_at (i := 2) (v := .int .i64 (k : Int)) rfl rfl (by kernel_rfl) (by kernel_rfl) (by kernel_rfl) (fun _ _ _ h => h) (Or.inl ⟨by rfl, fun w hS => by go_simp⟩) S0 ?_
            try simp only [List.setIfInBounds_toArray, List.set_cons_zero, List.set_cons_succ]
            refine wpAnyH_take_at (i := 3) (v := .pointer (some ⟨b, off + k * 3, none⟩)) rfl rfl (by kernel_rfl) (by kernel_rfl) (by kernel_rfl) (fun _ _ _ h => h) (Or.inl ⟨by rfl, fun w hS => by go_simp⟩) S0 ?_
            try simp only [List.setIfInBounds_toArray, List.set_cons_zero, List.set_cons_succ]
            refine wpAnyH_take_at (i := 4) (v := .pointer (some ⟨b, off + k * 3, none⟩)) rfl rfl (by kernel_rfl) (by kernel_rfl) (by kernel_rfl) (fun _ _ _ h => h) (Or.inl ⟨by rfl, fun w hS => by go_simp⟩) S0 ?_
            try simp only [List.setIfInBounds_toArray, List.set_cons_zero, List.set_cons_succ]
            refine wpAnyH_take_at (i := 5) (v := .string s) rfl rfl (by kernel_rfl) (by kernel_rfl) (by kernel_rfl) (fun _ _ _ h => h) (Or.inl ⟨by rfl, fun w hS => by have c := (KZ.out w hS).1; go_simp⟩) S0 ?_
            try simp only [List.setIfInBounds_toArray, List.set_cons_zero, List.set_cons_succ]
            refine wpAnyH_take_at (i := 6) (v := .slice (some ⟨b, off, none⟩) n cap) rfl rfl (by kernel_rfl) (by kernel_rfl) (by kernel_rfl) (fun _ _ _ h => h) (Or.inl ⟨by rfl, fun w hS => by go_simp⟩) S0 ?_
            try simp only [List.setIfInBounds_toArray, List.set_cons_zero, List.set_cons_succ]
            refine wpAnyH_take_at (i := 7) (v := .int .i64 (k : Int)) rfl rfl (by kernel_rfl) (by kernel_rfl) (by kernel_rfl) (fun _ _ _ h => h) (Or.inl ⟨by rfl, fun w hS => by go_simp⟩) S0 ?_
            try simp only [List.setIfInBounds_toArray, List.set_cons_zero, List.set_cons_succ]
            refine wpAnyH_take_at (i := 8) (v := .pointer (some ⟨b, off + k * 3, none⟩)) rfl rfl (by kernel_rfl) (by kernel_rfl) (by kernel_rfl) (fun _ _ _ h => h) (Or.inl ⟨by rfl, fun w hS => by go_simp⟩) S0 ?_
            try simp only [List.setIfInBounds_toArray, List.set_cons_zero, List.set_cons_succ]
            refine wpAnyH_take_at (i := 9) (v := .pointer (some ⟨b, off + k * 3 + 1, none⟩)) rfl rfl (by kernel_rfl) (by kernel_rfl) (by kernel_rfl) (fun _ _ _ h => h) (Or.inl ⟨by rfl, fun w hS => by go_simp⟩) S0 ?_
            try simp only [List.setIfInBounds_toArray, List.set_cons_zero, List.set_cons_succ]
            refine wpAnyH_take_at (i := 10) (v := .slice da q dc) rfl rfl (by kernel_rfl) (by kernel_rfl) (by kernel_rfl) (fun _ _ _ h => h) (Or.inl ⟨by rfl, fun w hS => by have c := (KZ.out w hS).2.1; go_simp⟩) S0 ?_
            try simp only [List.setIfInBounds_toArray, List.set_cons_zero, List.set_cons_succ]
            refine wpAnyH_ready (rs := [11]) (by kernel_rfl) (by simp) ?_
            refine AllReadyH.cons rfl (fun K hK => ?_) AllReadyH.nil
            go_simp
            refine (HCP.out wy.drew (Below.refl _ _).drew).mono ?_
            rintro e w3 ⟨rfl, ch3, v3, x3, bb3, ff3⟩
            have h3 := ch3.size
            have hyd : wy.drew.heap.size = wy.heap.size := rfl
            have K3 : Hid (Below w.heap.size w w3) := S0.trans (ch3.below S0.size (fun i hi => by subst hi; exact HG1.out))
            have FF := ff3.mono (R := fun i => S i ∨ (w.heap.size ≤ i ∧ i < w3.heap.size ∧ i ≠ gn)) (fun i hi => by
              have := HGG.out
              have := KY.out.size
              rcases hi with (hi | hi) | hi
              · exact .inl hi
              · exact .inr ⟨hi.1, by omega, hi.2.2⟩
              · exact .inr ⟨by omega, hi.2, by omega⟩)
            have R3 : Hid (∃ vg xg, RefAt11 w3 gn vg nb ∧ IsFs (fun i => S i ∨ (w.heap.size ≤ i ∧ i < w3.heap.size ∧ i ≠ gn)) w3 vg (M.fapply F (l.take (k + 1))) xg) :=
              ⟨v3, x3, bb3, by rw [HFY.out]; exact FF⟩
            refine hK.out _ _ K3.out (fun _ => ?_)
            clear hK K S0 HCP ch3 bb3 ff3 h3 hyd c0 c1 c2
            refine wpAnyH_done (by kernel_rfl) ?_ _
            obtain ⟨-, e1, e2⟩ := KZ.out w3 K3.out
            have CN := Lib.hid (HCN.out w3)
            clear KZ HCN
            go_wp2_with fail
            refine CN.out.mono ?_
            rintro e w4 ⟨rfl, rfl⟩
            clear CN
            go_wp2
            go_roundw
            case rel => exact ⟨k + 1, by first | rfl | rw [G1.out], hS', ⟨y, by first | rfl | rw [G0.out], HBY.out.symm⟩, K3, R3⟩
            case measure =>
              have := HLT2.out
              try rw [G1.out]
              show n - (((k + 1 : Nat) : Int)).toNat < n - ((k : Int)).toNat
              omega
        · have b2 : ¬ (k : Int) < (n : Int) := by omega
          have e : l.take k = l := List.take_of_length_le (by have := hk.out.1; have := HN.out; omega)
          rw [e] at HFG hz
          have HAF : Hid (M.AllF F l) := fun i hi => hk.out.2 i (by have := HN.out; omega)
          obtain ⟨Fn, hFn⟩ : ∃ z, z = M.fapply F l := ⟨_, rfl⟩
          have HFn := Lib.hid hFn
          rw [← hFn] at HFG
          have hfl := M.fapply_le F l l.length (Nat.le_refl _)
          rw [List.take_length, ← hFn] at hfl
          have hble := M.blkN_le l HLD.out l.length (Nat.le_refl _)
          rw [List.take_length, ← hz.out] at hble
          have hbz : z ≤ 100 * 4294967297 := Nat.le_trans hble (Nat.mul_le_mul_right _ (by have := HLL.out; have := HN.out; omega))
          have HZ := Lib.hid hz.out
          obtain ⟨ga, gc, rfl⟩ := HFG.out.shape
          obtain ⟨m, hm⟩ : ∃ m, m = Fn.length := ⟨_, rfl⟩
          rw [← hm] at HFG HBG hfl
          have HM := Lib.hid hm
          have c0 := HBG.out.cell 0
          have d0 := (HB.out.below KY.out HGL.out).cell 0
          have f0 := (HB.out.below KY.out HGL.out).frozen 0
          simp only [List.getElem?_cons_zero] at c0 d0
          have CF := Lib.hid (rfree_any (HB.out.below KY.out HGL.out) (HF.out.below KY.out) (by have := HLEN.out; omega) HD.out HNB.out)
          obtain ⟨fr, hfr⟩ : ∃ x, x = M.freeF nb F := ⟨_, rfl⟩
          have HFR := Lib.hid hfr
          rw [← hfr] at CF
          clear hk hlt2 e hFn hm hfr hble hz
          have HRV : Hid (r = if 64 < m then 3 else if fr < ((z : Nat) : Int) then 2 else 0) := by
            rw [Hid, HR.out, M.fcode, if_neg (not_not_intro HNM.out), if_neg (not_not_intro HAF.out), ← HFn.out, ← HM.out, ← HFR.out, ← HZ.out]
          by_cases h64 : 64 < m
          · have b3 : (64 : Int) < (m : Int) := by omega
            have HE : Hid (r = 3) := by rw [Hid, HRV.out, if_pos h64]
            clear HRV h64 hbz hfl
            go_wp2
            go_ret
            exact ⟨by rw [HE.out]; rfl, HEND.out _ KY.out (by rw [HE.out]; decide)⟩
          · have b3 : ¬ (64 : Int) < (m : Int) := by omega
            by_cases hsp : fr < ((z : Nat) : Int)
            · have HE : Hid (r = 2) := by rw [Hid, HRV.out, if_neg h64, if_pos hsp]
              clear HRV h64 hbz hfl
              go_wp2_with fail
              refine CF.out.mono ?_
              rintro e w4 ⟨rfl, rfl⟩
              clear CF
              go_wp2
              go_ret
              exact ⟨by rw [HE.out]; rfl, HEND.out _ KY.out (by rw [HE.out]; decide)⟩
            · have HE : Hid (r = 0) := by rw [Hid, HRV.out, if_neg h64, if_neg hsp]
              clear HRV h64 hbz hfl
              go_wp2_with fail
              refine CF.out.mono ?_
              rintro e w4 ⟨rfl, rfl⟩
              clear CF
              obtain ⟨wy, rfl⟩ : ∃ x, x = w4 := ⟨_, rfl⟩
              go_wp2
              go_ret
              have BY := HB.out.below KY.out HGL.out
              have kc : Chg (fun b => b = gr) wy (wy.setCell ⟨gr, 0, none⟩ (.slice ga m gc)) := (Chg.refl _ _).cell 0 _
              refine ⟨by rw [HE.out]; rfl, (Chg.of_below (F := fun b => b = gr) KY.out).trans kc fun _ _ h => h, .slice ga m gc, xg, BY.set_ 0 _, ?_⟩
              rw [HFE1.out HE.out, ← HFn.out]
              refine (HFG.out.chg kc fun i hi e => ?_).mono fun i hi => hi.imp_right fun h => ⟨h.1, ?_⟩
              · subst e
                rcases hi with hi | hi
                · exact HS.out hi
                · have := HGL.out
                  omega
              · have := kc.size
                omega

end Go.Proofs.YtgmhfianpdhnmaaGreatDoor
