/-
  CONTRACTS OF orlopref11.put, Copy. Conditions: the files lie so, out of their box.
-/
import Derived.Test.YtgmhfianpdhnmaaGreatDoorPf31
namespace Go.Proofs.YtgmhfianpdhnmaaGreatDoor
open Go.RowKit
set_option linter.unusedVariables false
set_option maxRecDepth 100000

theorem ownRow_mono {w : World} {B B' n size : Nat} {e : TypeId} {v : Value} {xs : List Value} (h : w.ownsRow B e size v n xs) (hb : B' ≤ B) : w.ownsRow B' e size v n xs :=
  ⟨h.1, h.2.imp id fun ⟨g, cap, cur, h1, h2, h3⟩ => ⟨g, cap, cur, h1, Nat.le_trans hb h2, h3⟩⟩

theorem IsB.chgN {F : Nat → Prop} {w w' : World} {v : Value} {bs : List UInt8} (h : IsB w v bs) (k : Chg F w w') (hl : bs ≠ [] → Lies (fun b => ¬ F b) v) : IsB w' v bs := by
  by_cases h0 : bs = []
  · obtain ⟨ao, cap, rfl, h1, h2, h3⟩ := h
    exact ⟨ao, cap, rfl, h1, h2, .inl h0⟩
  · exact h.chg k (hl h0)

theorem M.lessF_at {F : M.Fs} {k : List UInt8} {j : Nat} (hj : j ≤ F.length) (h : ∀ x, x < j → bytesBefore (F.getD x default).nm k = true) (e : j = F.length ∨ bytesBefore (F.getD j default).nm k = false) : M.lessF F k = j := by
  have g : ∀ j, (hj : j < F.length) → F.getD j default = F[j] := fun j hj => by rw [List.getD_eq_getElem?_getD, List.getElem?_eq_getElem hj]; rfl
  by_cases hlt : j < F.length
  · rw [M.lessF, List.findIdx_eq hlt]
    refine ⟨?_, fun x hx => ?_⟩
    · rcases e with e | e
      · omega
      · rw [g j hlt] at e
        rw [e]
        rfl
    · have := h x hx
      rw [g x (by omega)] at this
      rw [this]
      rfl
  · have e2 : j = F.length := by omega
    rw [e2, M.lessF, List.findIdx_eq_length]
    intro q hq
    obtain ⟨x, hx, rfl⟩ := List.mem_iff_getElem.1 hq
    have := h x (by omega)
    rw [g x hx] at this
    rw [this]
    rfl

theorem fs_one {S : Nat → Prop} {w : World} {q : Nat} {t : TypeId} {nm bs : List UInt8} {dv : Value} (hb : Blk w q t [.string ⟨nm.toArray⟩, dv]) (hd : IsB w dv bs) (h0 : ∀ n c, dv = .slice none n c → c = 0) (hl : Lies S dv) (hn : nm.length ≤ maxLen) (hq : S q) :
    IsFs S w (.slice (some ⟨q, 0, none⟩) 1 1) [⟨nm, bs⟩] [dv] := by
  refine ⟨⟨rfl, fun i hi => ?_⟩, _, 1, rfl, Nat.le_refl _, by unfold maxLen; omega, (fun h => by cases h), .inr ⟨q, 0, rfl, hq, hb.lt, fun j u hj => ?_⟩⟩
  · have : i = 0 := by simp at hi; exact hi
    subst this
    exact ⟨hd, h0, hl, hn⟩
  · rw [Nat.zero_add, hb.cell]
    exact hj


set_option maxHeartbeats 16000000 in
theorem rput_any {S : Nat → Prop} {w : World} {gr : Nat} {v : Value} {nb : Int} {F : M.Fs} {xs : List Value} (hb : RefAt11 w gr v nb) (hF : IsFs S w v F xs) (hS : ¬ S gr) (k : List UInt8) (hk : k.length ≤ maxLen) (hlen : F.length ≤ 1000) (bv : Value) (bs : List UInt8) (hbv : IsB w bv bs) (hn0 : ∀ n c, bv = .slice none n c → c = 0) (hbl : bs ≠ [] → Lies (fun j => j ≠ gr) bv) (hbs : bs.length ≤ 1099511627776) :
    Calls Tryz.prog 38 #[.pointer (some ⟨gr, 0, none⟩), .string ⟨k.toArray⟩, bv] w fun e w' => e = .returned (.tuple #[]) ∧ RefIs S w gr nb (M.fput F k bs) w' := by
  have C := Lib.hid (rdrop_any hb hF hS k hk hlen)
  have hdl : (M.fdrop F k).length ≤ 1000 := by rw [M.fdrop, List.length_append, List.length_take, List.length_drop]; omega
  obtain ⟨F2, hF2⟩ : ∃ z, z = M.fdrop F k := ⟨_, rfl⟩
  have HP : Hid (M.fput F k bs = F2.take (M.lessF F2 k) ++ ⟨k, bs⟩ :: F2.drop (M.lessF F2 k)) := by rw [Hid, M.fput, hF2]
  rw [← hF2] at C hdl
  have CL := Lib.hid (fun (a : List UInt8) (ha : a.length ≤ maxLen) (y : World) => rless_any a k y ha hk)
  obtain ⟨s, hs⟩ : ∃ s : ByteArray, s = ⟨k.toArray⟩ := ⟨_, rfl⟩
  rw [← hs] at C CL ⊢
  have HSS := Lib.hid hs
  have HKL := Lib.hid hk
  have HL2 := Lib.hid hdl
  have HBV := Lib.hid hbv
  have HN0 := Lib.hid hn0
  have HBL := Lib.hid hbl
  have HBS := Lib.hid hbs
  have HSG := Lib.hid hS
  have HGL := Lib.hid hb.lt
  obtain ⟨ba, bc, rfl⟩ := hbv.shape
  obtain ⟨bn, hbn⟩ : ∃ z, z = bs.length := ⟨_, rfl⟩
  rw [← hbn] at HBV HN0 HBL ⊢
  have HBN := Lib.hid hbn
  clear hb hF hF2 hdl hs hk hbv hn0 hbl hbs hS hlen hbn
  go_enter Tryz.func38, Tryz.ntmps38
  go_wp2_with fail
  refine C.out.mono ?_
  rintro e w1 ⟨rfl, c1, v2, xs2, b2, f2⟩
  clear C
  have hz1 := c1.size
  have HC1 := Lib.hid c1
  obtain ⟨S1, hS1⟩ : ∃ R : Nat → Prop, R = fun j => S j ∨ (w.heap.size ≤ j ∧ j < w1.heap.size) := ⟨_, rfl⟩
  rw [← hS1] at f2
  have HSG1 : Hid (¬ S1 gr) := fun h => by
    rw [hS1] at h
    rcases h with h | h
    · exact HSG.out h
    · have := HGL.out; omega
  have HS1 := Lib.hid hS1
  obtain ⟨ao, cap, rfl⟩ := f2.shape
  obtain ⟨n, hn⟩ : ∃ n, n = F2.length := ⟨_, rfl⟩
  rw [← hn] at f2 b2
  have HN : Hid (F2.length = n) := hn.symm
  have hn1k : n ≤ 1000 := by rw [hn]; exact HL2.out
  have HN1 := Lib.hid hn1k
  have HF2 := Lib.hid f2
  have HB2 := Lib.hid b2
  have HGL1 := Lib.hid b2.lt
  have HZ1 := Lib.hid hz1
  clear c1 b2 f2 hz1 hS1 hn hn1k
  go_wp2
  go_loopw [6] (fun i wr => ∃ j : Nat, i = .int .i64 (j : Int) ∧ Hid (j ≤ n ∧ ∀ x, x < j → bytesBefore (F2.getD x default).nm k = true) ∧ Hid (Below w1.heap.size w1 wr))
    (fun i _ => n - numOf i)
  case atStart => exact ⟨0, rfl, ⟨Nat.zero_le _, fun x hx => by omega⟩, Below.refl _ _⟩
  case round =>
    obtain ⟨wz, rfl⟩ : ∃ x, x = wr := ⟨_, rfl⟩
    obtain ⟨j, rfl, hj, kk⟩ := hrel
    have BZ := Lib.hid (HB2.out.below kk.out HGL1.out)
    have FZ := Lib.hid (HF2.out.below kk.out)
    have z0 := BZ.out.cell 0
    simp only [List.getElem?_cons_zero] at z0
    by_cases hgo : j < n ∧ bytesBefore (F2.getD j default).nm k = true
    · have b1 : (j : Int) < (n : Int) := by omega
      obtain ⟨b, off, rfl, d0, _, _, hnl⟩ := FZ.out.at_ j (by rw [HN.out]; exact hgo.1)
      obtain ⟨nm, hnm⟩ : ∃ z, z = (F2.getD j default).nm := ⟨_, rfl⟩
      rw [← hnm] at d0 hnl
      have CC := Lib.hid (CL.out nm hnl wz)
      have hbe : bytesBefore nm k = true := by rw [hnm]; exact hgo.2
      rw [hbe] at CC
      obtain ⟨sn, hsn⟩ : ∃ s : ByteArray, s = ⟨nm.toArray⟩ := ⟨_, rfl⟩
      rw [← hsn] at d0 CC
      have HGO := Lib.hid hgo
      have G1 : Hid (wrap64 ((j : Int) + 1) = ((j + 1 : Nat) : Int)) := wrap_next (by have := HN1.out; omega)
      have g2 : (0 : Int) ≤ (j : Int) := by omega
      have g3 : ((j : Int)).toNat = j := by omega
      have hS' : Hid (j + 1 ≤ n ∧ ∀ x, x < j + 1 → bytesBefore (F2.getD x default).nm k = true) := ⟨hgo.1, fun x hx => by
        by_cases e : x = j
        · rw [e]; exact hgo.2
        · exact hj.out.2 x (by omega)⟩
      clear hnm hnl hbe hsn hgo hj
      go_wp2_with fail
      refine CC.out.mono ?_
      rintro e w2 ⟨rfl, k2⟩
      have K2 : Hid (Below w1.heap.size w1 w2) := kk.out.trans (k2.mono kk.out.size)
      clear k2 CC kk
      go_wp2
      go_roundw
      case rel => exact ⟨j + 1, by rw [G1.out], hS', K2⟩
      case measure =>
        have := HGO.out.1
        rw [G1.out]
        show n - (((j + 1 : Nat) : Int)).toNat < n - ((j : Int)).toNat
        omega
    have HJ : Hid (M.lessF F2 k = j) := M.lessF_at (by rw [HN.out]; exact hj.out.1) hj.out.2 (by
      by_cases h : j < n
      · exact .inr (by cases hh : bytesBefore (F2.getD j default).nm k with | false => rfl | true => exact absurd ⟨h, hh⟩ hgo)
      · exact .inl (by have := hj.out.1; have := HN.out; omega))
    have HJN := Lib.hid hj.out.1
    by_cases hlt : j < n
    focus
      have b1 : (j : Int) < (n : Int) := by omega
      obtain ⟨b, off, rfl, d0, _, _, hnl⟩ := FZ.out.at_ j (by rw [HN.out]; exact hlt)
      obtain ⟨nm, hnm⟩ : ∃ z, z = (F2.getD j default).nm := ⟨_, rfl⟩
      rw [← hnm] at d0 hnl
      have CC := Lib.hid (CL.out nm hnl wz)
      have hbe : bytesBefore nm k = false := by
        rw [hnm]
        cases hh : bytesBefore (F2.getD j default).nm k with
        | false => rfl
        | true => exact absurd ⟨hlt, hh⟩ hgo
      rw [hbe] at CC
      obtain ⟨sn, hsn⟩ : ∃ s : ByteArray, s = ⟨nm.toArray⟩ := ⟨_, rfl⟩
      rw [← hsn] at d0 CC
      have g2 : (0 : Int) ≤ (j : Int) := by omega
      have g3 : ((j : Int)).toNat = j := by omega
      clear hnm hnl hbe hsn hgo hj hlt
      go_wp2_with fail
      refine CC.out.mono ?_
      rintro e w2 ⟨rfl, k2⟩
      have K2 : Hid (Below w1.heap.size w1 w2) := kk.out.trans (k2.mono kk.out.size)
      clear k2 CC kk d0 g2 g3 b1 z0 BZ FZ
      obtain ⟨ao, hao⟩ : ∃ z, z = (some ⟨b, off, none⟩ : Option Addr) := ⟨_, rfl⟩
      rw [← hao] at HF2 HB2 ⊢
      clear hao
      go_upto_region 4 with fail
    rotate_left
    focus
      have b1 : ¬ (j : Int) < (n : Int) := by omega
      have K2 := Lib.hid kk.out
      obtain ⟨w2, rfl⟩ : ∃ x, x = wz := ⟨_, rfl⟩
      clear hgo hj hlt kk BZ FZ
      go_upto_region 4 with fail
      clear b1 z0
    all_goals (
      have BV2 : Hid (IsB w2 (.slice ba bn bc) bs) := (HBV.out.chgN HC1.out HBL.out).below K2.out
      go_wp2_with (at_builtin; go_must (refine wpList_app2 _ rfl _ _ rfl w2.heap.size _ [] rfl (own_empty w2) _ bs rfl ?c1 HN0.out (by have := HBS.out; simp; omega) (by simp) ?_))
      case c1 => exact BV2.out.below ((Below.refl _ _).alloc (Nat.le_refl _) _)
      intro r3 w3 o3 g3
      have k3 : Below w2.heap.size w2 w3 := ((Below.refl _ w2).alloc (Nat.le_refl _) _).grown g3 (by simp) fun k hk => by
        simp only [Value.ownBlock] at hk
        have : k = w2.heap.size := by simpa using hk.symm
        omega
      obtain ⟨da, dc, rfl⟩ := o3.shape'
      have O3 := Lib.hid o3
      have HZ2 := K2.out.size
      have hld : Lies (fun b => w2.heap.size ≤ b ∧ b < w3.heap.size) (.slice da bs.length dc) := o3.lies fun k h1 h2 => ⟨h1, h2⟩
      have hd0 := o3.nil0
      rw [← HBN.out] at O3 hld hd0 ⊢
      obtain ⟨w4, hw4⟩ : ∃ x, Hid (x = w3.alloc (.cells #[.string s, .slice da bn dc] 55)) := ⟨_, rfl⟩
      obtain ⟨p4, hp4⟩ : ∃ x, Hid (x = w3.heap.size) := ⟨_, rfl⟩
      have k4 : Below w3.heap.size w3 w4 := by rw [hw4.out]; exact (Below.refl _ _).alloc (Nat.le_refl _) _
      have B4 : Blk w4 p4 55 [.string s, .slice da bn dc] := by rw [hw4.out]; exact Blk.newAt _ _ _ _ _ hp4.out rfl
      have KD4 : Hid (IsB w4 (.slice da bn dc) bs) := O3.out.isB.below k4
      have K24 : Below w2.heap.size w2 w4 := k3.trans (k4.mono k3.size)
      have KW4 : Hid (Below w1.heap.size w1 w4) := K2.out.trans (K24.mono HZ2)
      have HLD : Hid (Lies (fun b => w1.heap.size ≤ b ∧ b < w4.heap.size) (.slice da bn dc)) := hld.mono fun b hb => ⟨by omega, by have := k4.size; omega⟩
      have HD0 := Lib.hid hd0
      have d40 := B4.cell 0
      have d41 := B4.cell 1
      simp only [List.getElem?_cons_zero, List.getElem?_cons_succ] at d40 d41
      clear k3 o3 g3 O3 hld hd0 k4 K24 B4 HZ2 BV2
      go_upto_region 5 with fail
      rw [← hw4.out, ← hp4.out]
      have K14 := KW4.out
      have BG4 : Blk w4 gr 32 [.slice ao n cap, .int .i64 nb] := HB2.out.below K14 HGL1.out
      have g40 := BG4.cell 0
      simp only [List.getElem?_cons_zero] at g40
      have FW := (HF2.out.below K14)
      obtain ⟨t1, f1, ao2, t2, f2⟩ := FW.cut j HJN.out
      obtain ⟨c2, hc2⟩ : ∃ c, c = cap - j := ⟨_, rfl⟩
      obtain ⟨n2, hn2⟩ : ∃ c, c = n - j := ⟨_, rfl⟩
      rw [← hc2, ← hn2] at t2 f2
      have hcap : n ≤ cap := by
        obtain ⟨_, a, c, e, h1, _⟩ := FW
        injection e with e1 e2 e3
        have := HN.out
        omega
      have HJC : Hid (j ≤ cap) := Nat.le_trans HJN.out hcap
      have HXL := Lib.hid FW.1.len
      have FT := Lib.hid f1
      have FDR := Lib.hid f2
      have T1 := Lib.hid t1
      have T2 := Lib.hid t2
      obtain ⟨W5, hW5⟩ : ∃ x, Hid (x = w4) := ⟨_, rfl⟩
      rw [← hW5.out] at KW4 KD4 HLD d40 d41 BG4 g40 FT FDR ⊢
      have HB5 := Lib.hid BG4
      have HGL5 := Lib.hid BG4.lt
      obtain ⟨dv, hdv⟩ : ∃ x, x = Value.slice da bn dc := ⟨_, rfl⟩
      have HDV := Lib.hid hdv
      have b0 : (0 : Int) ≤ (j : Int) := by omega
      clear t1 f1 t2 f2 hc2 hn2 hcap FW K14 hw4 hW5 hdv BG4
      have KZ : Hid (∀ y, Below W5.heap.size W5 y → y.cell? ⟨gr, 0, none⟩ = some (.slice ao n cap) ∧ y.cell? ⟨p4, 0, none⟩ = some (.string s) ∧ y.cell? ⟨p4, 1, none⟩ = some (.slice da bn dc)) := fun y ky =>
        ⟨(ky.cell (p := ⟨gr, 0, none⟩) (World.block_lt_of_cell? _ _ g40)).trans g40, (ky.cell (p := ⟨p4, 0, none⟩) (World.block_lt_of_cell? _ _ d40)).trans d40, (ky.cell (p := ⟨p4, 1, none⟩) (World.block_lt_of_cell? _ _ d41)).trans d41⟩
      clear g40 d40 d41
      refine region_T (fun w' => Below W5.heap.size W5 w') [19, 20, 21] (by kernel_rfl) ?_
      obtain ⟨y0, hy0⟩ : ∃ x, x = W5.drew := ⟨_, rfl⟩
      have Ky0 : Below W5.heap.size W5 y0 := by rw [hy0]; exact drewN_below (Below.refl _ _) 1
      rw [← hy0]
      clear hy0
      have S0 := Ky0
      refine anyT_take_at (i := 0) (v := .pointer (some ⟨gr, 0, none⟩)) rfl rfl (by kernel_rfl) (by kernel_rfl) (by kernel_rfl) (by kernel_rfl) (fun _ _ _ h => h) (Or.inl ⟨by rfl, fun w hS => by go_simp⟩) S0 ?_
      try simp only [List.setIfInBounds_toArray, List.set_cons_zero, List.set_cons_succ]
      refine anyT_take_at (i := 2) (v := .pointer (some ⟨gr, 0, none⟩)) rfl rfl (by kernel_rfl) (by kernel_rfl) (by kernel_rfl) (by kernel_rfl) (fun _ _ _ h => h) (Or.inl ⟨by rfl, fun w hS => by go_simp⟩) S0 ?_
      try simp only [List.setIfInBounds_toArray, List.set_cons_zero, List.set_cons_succ]
      refine anyT_take_at (i := 3) (v := .pointer (some ⟨gr, 0, none⟩)) rfl rfl (by kernel_rfl) (by kernel_rfl) (by kernel_rfl) (by kernel_rfl) (fun _ _ _ h => h) (Or.inl ⟨by rfl, fun w hS => by go_simp⟩) S0 ?_
      try simp only [List.setIfInBounds_toArray, List.set_cons_zero, List.set_cons_succ]
      refine anyT_take_at (i := 4) (v := .pointer (some ⟨gr, 0, none⟩)) rfl rfl (by kernel_rfl) (by kernel_rfl) (by kernel_rfl) (by kernel_rfl) (fun _ _ _ h => h) (Or.inl ⟨by rfl, fun w hS => by go_simp⟩) S0 ?_
      try simp only [List.setIfInBounds_toArray, List.set_cons_zero, List.set_cons_succ]
      refine anyT_take_at (i := 5) (v := .slice ao n cap) rfl rfl (by kernel_rfl) (by kernel_rfl) (by kernel_rfl) (by kernel_rfl) (fun _ _ _ h => h) (Or.inl ⟨by rfl, fun w hS => by have c := (KZ.out w hS).1; go_simp⟩) S0 ?_
      try simp only [List.setIfInBounds_toArray, List.set_cons_zero, List.set_cons_succ]
      refine anyT_take_at (i := 6) (v := .int .i64 (j : Int)) rfl rfl (by kernel_rfl) (by kernel_rfl) (by kernel_rfl) (by kernel_rfl) (fun _ _ _ h => h) (Or.inl ⟨by rfl, fun w hS => by go_simp⟩) S0 ?_
      try simp only [List.setIfInBounds_toArray, List.set_cons_zero, List.set_cons_succ]
      refine anyT_take_at (i := 7) (v := .slice ao j cap) rfl rfl (by kernel_rfl) (by kernel_rfl) (by kernel_rfl) (by kernel_rfl) (fun _ _ _ h => h) (Or.inl ⟨by rfl, fun w hS => by have t := T1.out; go_simp⟩) S0 ?_
      try simp only [List.setIfInBounds_toArray, List.set_cons_zero, List.set_cons_succ]
      refine anyT_take_at (i := 9) (v := .agg #[.string s, .slice da bn dc]) rfl rfl (by kernel_rfl) (by kernel_rfl) (by kernel_rfl) (by kernel_rfl) (fun _ _ _ h => h) (Or.inl ⟨by rfl, fun w hS => by obtain ⟨-, c, c'⟩ := KZ.out w hS; go_simp⟩) S0 ?_
      try simp only [List.setIfInBounds_toArray, List.set_cons_zero, List.set_cons_succ]
      refine anyT_take_at (i := 12) (v := .pointer (some ⟨gr, 0, none⟩)) rfl rfl (by kernel_rfl) (by kernel_rfl) (by kernel_rfl) (by kernel_rfl) (fun _ _ _ h => h) (Or.inl ⟨by rfl, fun w hS => by go_simp⟩) S0 ?_
      try simp only [List.setIfInBounds_toArray, List.set_cons_zero, List.set_cons_succ]
      refine anyT_take_at (i := 13) (v := .pointer (some ⟨gr, 0, none⟩)) rfl rfl (by kernel_rfl) (by kernel_rfl) (by kernel_rfl) (by kernel_rfl) (fun _ _ _ h => h) (Or.inl ⟨by rfl, fun w hS => by go_simp⟩) S0 ?_
      try simp only [List.setIfInBounds_toArray, List.set_cons_zero, List.set_cons_succ]
      refine anyT_take_at (i := 14) (v := .pointer (some ⟨gr, 0, none⟩)) rfl rfl (by kernel_rfl) (by kernel_rfl) (by kernel_rfl) (by kernel_rfl) (fun _ _ _ h => h) (Or.inl ⟨by rfl, fun w hS => by go_simp⟩) S0 ?_
      try simp only [List.setIfInBounds_toArray, List.set_cons_zero, List.set_cons_succ]
      refine anyT_take_at (i := 15) (v := .slice ao n cap) rfl rfl (by kernel_rfl) (by kernel_rfl) (by kernel_rfl) (by kernel_rfl) (fun _ _ _ h => h) (Or.inl ⟨by rfl, fun w hS => by have c := (KZ.out w hS).1; go_simp⟩) S0 ?_
      try simp only [List.setIfInBounds_toArray, List.set_cons_zero, List.set_cons_succ]
      refine anyT_take_at (i := 16) (v := .int .i64 (j : Int)) rfl rfl (by kernel_rfl) (by kernel_rfl) (by kernel_rfl) (by kernel_rfl) (fun _ _ _ h => h) (Or.inl ⟨by rfl, fun w hS => by go_simp⟩) S0 ?_
      try simp only [List.setIfInBounds_toArray, List.set_cons_zero, List.set_cons_succ]
      refine anyT_take_at (i := 17) (v := .slice ao2 n2 c2) rfl rfl (by kernel_rfl) (by kernel_rfl) (by kernel_rfl) (by kernel_rfl) (fun _ _ _ h => h) (Or.inl ⟨by rfl, fun w hS => by have t := T2.out; go_simp⟩) S0 ?_
      try simp only [List.setIfInBounds_toArray, List.set_cons_zero, List.set_cons_succ]
      refine anyT_ready (rs := [1, 10]) (by kernel_rfl) (by simp) ?_
      refine ReadyT.cons rfl (fun K hK => ?_) (ReadyT.cons rfl (fun K hK => ?_) ReadyT.nil)
      focus
        go_simp
        obtain ⟨y1, hy1⟩ : ∃ x, x = y0.alloc (.cells #[] 55) := ⟨_, rfl⟩
        obtain ⟨e0, he0⟩ : ∃ x, x = y0.heap.size := ⟨_, rfl⟩
        have HEE := Lib.hid he0
        have ky1 : Below y0.heap.size y0 y1 := by rw [hy1]; exact (Below.refl _ y0).alloc (Nat.le_refl _) _
        have Ky1 : Below W5.heap.size W5 y1 := Ky0.trans (ky1.mono Ky0.size)
        have OE : y1.ownsRow e0 55 2 (.slice (some ⟨e0, 0, none⟩) 0 0) ([] : M.Fs).length (fcs [] []) := by rw [he0, hy1]; exact own_emptyF y0
        have HE0 : W5.heap.size ≤ e0 := by rw [he0]; exact Ky0.size
        rw [← hy1, ← he0]
        refine hK.out _ _ (.inr Ky1) ?_
        clear hK K hy1 he0
        try simp only [Act.put, List.getElem_toArray, List.getElem_cons_succ, List.getElem_cons_zero, List.setIfInBounds_toArray, List.set_cons_zero, List.set_cons_succ]
        refine anyT_ready (rs := [8, 10]) (by kernel_rfl) (by simp) ?_
        refine ReadyT.cons rfl (fun K hK => ?_) (ReadyT.cons rfl (fun K hK => ?_) ReadyT.nil)
        focus
          refine step_app_fs rfl _ _ rfl e0 _ [] [] rfl OE rfl _ (F2.take j) (xs2.take j) rfl (FT.out.below Ky1) (by have h1 := HL2.out; simp only [List.length_nil, List.length_take]; omega) (Nat.le_of_lt (OE.lt e0 rfl).2) ?_
          intro v8 y2 o8 g8 a8
          obtain ⟨va8, vn8, vc8, hv8⟩ : ∃ a n c, v8 = .slice a n c := by obtain ⟨a, c, h⟩ := ownShape o8; exact ⟨a, _, c, h⟩
          subst hv8
          have Ky2 : Below W5.heap.size W5 y2 := Ky1.grown g8 Ky1.size fun b hb => Nat.le_trans HE0 (OE.lt b hb).1
          have O8 := ownRow_mono o8 HE0
          refine hK.out _ _ (.inr Ky2) ?_
          clear hK K
          try simp only [Act.put, List.getElem_toArray, List.getElem_cons_succ, List.getElem_cons_zero, List.setIfInBounds_toArray, List.set_cons_zero, List.set_cons_succ]
          refine anyT_ready (rs := [10]) (by kernel_rfl) (by simp) ?_
          refine ReadyT.cons rfl (fun K hK => ?_) ReadyT.nil
          go_simp
          obtain ⟨wf, hwf⟩ : ∃ x, x = y2.alloc (.cells #[.string s, .slice da bn dc] 55) := ⟨_, rfl⟩
          obtain ⟨q, hq⟩ : ∃ x, x = y2.heap.size := ⟨_, rfl⟩
          have HQE := Lib.hid hq
          have kwf : Below y2.heap.size y2 wf := by rw [hwf]; exact (Below.refl _ y2).alloc (Nat.le_refl _) _
          have Kwf : Below W5.heap.size W5 wf := Ky2.trans (kwf.mono Ky2.size)
          have BQ : Blk wf q 55 [.string s, .slice da bn dc] := by rw [hwf]; exact Blk.newAt _ _ _ _ _ hq rfl
          have HQ0 : W5.heap.size ≤ q := by rw [hq]; exact Ky2.size
          rw [← hwf, ← hq]
          refine hK.out _ _ (.inr Kwf) ?_
          clear hK K hwf hq
          try simp only [Act.put, List.getElem_toArray, List.getElem_cons_succ, List.getElem_cons_zero, List.setIfInBounds_toArray, List.set_cons_zero, List.set_cons_succ]
          have OF := own_below O8 kwf
        rotate_left
        focus
          go_simp
          obtain ⟨y2, hy2⟩ : ∃ x, x = y1.alloc (.cells #[.string s, .slice da bn dc] 55) := ⟨_, rfl⟩
          obtain ⟨q, hq⟩ : ∃ x, x = y1.heap.size := ⟨_, rfl⟩
          have HQE := Lib.hid hq
          have ky2 : Below y1.heap.size y1 y2 := by rw [hy2]; exact (Below.refl _ y1).alloc (Nat.le_refl _) _
          have Ky2 : Below W5.heap.size W5 y2 := Ky1.trans (ky2.mono Ky1.size)
          have BQ : Blk y2 q 55 [.string s, .slice da bn dc] := by rw [hy2]; exact Blk.newAt _ _ _ _ _ hq rfl
          have HQ0 : W5.heap.size ≤ q := by rw [hq]; exact Ky1.size
          rw [← hy2, ← hq]
          refine hK.out _ _ (.inr Ky2) ?_
          clear hK K hy2 hq
          try simp only [Act.put, List.getElem_toArray, List.getElem_cons_succ, List.getElem_cons_zero, List.setIfInBounds_toArray, List.set_cons_zero, List.set_cons_succ]
          have OE1 := OE
          have OE := own_below OE ky2
          refine anyT_ready (rs := [8]) (by kernel_rfl) (by simp) ?_
          refine ReadyT.cons rfl (fun K hK => ?_) ReadyT.nil
          refine step_app_fs rfl _ _ rfl e0 _ [] [] rfl OE rfl _ (F2.take j) (xs2.take j) rfl (FT.out.below Ky2) (by have h1 := HL2.out; simp only [List.length_nil, List.length_take]; omega) (Nat.le_of_lt (OE.lt e0 rfl).2) ?_
          intro v8 wf o8 g8 a8
          obtain ⟨va8, vn8, vc8, hv8⟩ : ∃ a n c, v8 = .slice a n c := by obtain ⟨a, c, h⟩ := ownShape o8; exact ⟨a, _, c, h⟩
          subst hv8
          have Kwf : Below W5.heap.size W5 wf := Ky2.grown g8 Ky2.size fun b hb => Nat.le_trans HE0 (OE.lt b hb).1
          have O8 := ownRow_mono o8 HE0
          refine hK.out _ _ (.inr Kwf) ?_
          clear hK K
          try simp only [Act.put, List.getElem_toArray, List.getElem_cons_succ, List.getElem_cons_zero, List.setIfInBounds_toArray, List.set_cons_zero, List.set_cons_succ]
          have OF := O8
          have BQ := BQ.grown g8 fun e => by
            have h1 := (OE1.lt q e.symm).2
            have h2 := HQE.out
            omega
      rotate_left 2
      focus
        go_simp
        obtain ⟨y1, hy1⟩ : ∃ x, x = y0.alloc (.cells #[.string s, .slice da bn dc] 55) := ⟨_, rfl⟩
        obtain ⟨q, hq⟩ : ∃ x, x = y0.heap.size := ⟨_, rfl⟩
        have HQE := Lib.hid hq
        have ky1 : Below y0.heap.size y0 y1 := by rw [hy1]; exact (Below.refl _ y0).alloc (Nat.le_refl _) _
        have Ky1 : Below W5.heap.size W5 y1 := Ky0.trans (ky1.mono Ky0.size)
        have BQ : Blk y1 q 55 [.string s, .slice da bn dc] := by rw [hy1]; exact Blk.newAt _ _ _ _ _ hq rfl
        have HQ0 : W5.heap.size ≤ q := by rw [hq]; exact Ky0.size
        rw [← hy1, ← hq]
        refine hK.out _ _ (.inr Ky1) ?_
        clear hK K hy1 hq
        try simp only [Act.put, List.getElem_toArray, List.getElem_cons_succ, List.getElem_cons_zero, List.setIfInBounds_toArray, List.set_cons_zero, List.set_cons_succ]
        have BQ1 := BQ
        refine anyT_ready (rs := [1]) (by kernel_rfl) (by simp) ?_
        refine ReadyT.cons rfl (fun K hK => ?_) ReadyT.nil
        go_simp
        obtain ⟨y2, hy2⟩ : ∃ x, x = y1.alloc (.cells #[] 55) := ⟨_, rfl⟩
        obtain ⟨e0, he0⟩ : ∃ x, x = y1.heap.size := ⟨_, rfl⟩
        have HEE := Lib.hid he0
        have ky2 : Below y1.heap.size y1 y2 := by rw [hy2]; exact (Below.refl _ y1).alloc (Nat.le_refl _) _
        have Ky2 : Below W5.heap.size W5 y2 := Ky1.trans (ky2.mono Ky1.size)
        have OE : y2.ownsRow e0 55 2 (.slice (some ⟨e0, 0, none⟩) 0 0) ([] : M.Fs).length (fcs [] []) := by rw [he0, hy2]; exact own_emptyF y1
        have HE0 : W5.heap.size ≤ e0 := by rw [he0]; exact Ky1.size
        rw [← hy2, ← he0]
        refine hK.out _ _ (.inr Ky2) ?_
        clear hK K hy2 he0
        try simp only [Act.put, List.getElem_toArray, List.getElem_cons_succ, List.getElem_cons_zero, List.setIfInBounds_toArray, List.set_cons_zero, List.set_cons_succ]
        have BQ := BQ.below ky2 BQ.lt
        refine anyT_ready (rs := [8]) (by kernel_rfl) (by simp) ?_
        refine ReadyT.cons rfl (fun K hK => ?_) ReadyT.nil
        refine step_app_fs rfl _ _ rfl e0 _ [] [] rfl OE rfl _ (F2.take j) (xs2.take j) rfl (FT.out.below Ky2) (by have h1 := HL2.out; simp only [List.length_nil, List.length_take]; omega) (Nat.le_of_lt (OE.lt e0 rfl).2) ?_
        intro v8 wf o8 g8 a8
        obtain ⟨va8, vn8, vc8, hv8⟩ : ∃ a n c, v8 = .slice a n c := by obtain ⟨a, c, h⟩ := ownShape o8; exact ⟨a, _, c, h⟩
        subst hv8
        have Kwf : Below W5.heap.size W5 wf := Ky2.grown g8 Ky2.size fun b hb => Nat.le_trans HE0 (OE.lt b hb).1
        have O8 := ownRow_mono o8 HE0
        refine hK.out _ _ (.inr Kwf) ?_
        clear hK K
        try simp only [Act.put, List.getElem_toArray, List.getElem_cons_succ, List.getElem_cons_zero, List.setIfInBounds_toArray, List.set_cons_zero, List.set_cons_succ]
        have OF := O8
        have BQ := BQ.grown g8 fun e => by
          have h1 := (OE.lt q e.symm).1
          have h2 := HEE.out
          have h3 := BQ1.lt
          omega
      all_goals (
        have BQF : Blk wf q 55 [.string ⟨k.toArray⟩, .slice da bn dc] := by rw [← HSS.out]; exact BQ
        have hfs := fs_one (S := fun b => w1.heap.size ≤ b) BQF (KD4.out.below Kwf) HD0.out (HLD.out.mono fun b hb => hb.1) HKL.out (by have h1 := KW4.out.size; show w1.heap.size ≤ q; omega)
        refine anyT_ready (rs := [11]) (by kernel_rfl) (by simp) ?_
        refine ReadyT.cons rfl (fun K hK => ?_) ReadyT.nil
        refine step_app_fs rfl _ _ rfl W5.heap.size (.slice va8 vn8 vc8) ([] ++ F2.take j) ([] ++ xs2.take j) rfl OF (by simp [HXL.out]) (.slice (some ⟨q, 0, none⟩) 1 1) [(⟨k, bs⟩ : M.Fil)] [.slice da bn dc] rfl hfs (by have h1 := HL2.out; simp only [List.nil_append, List.length_take, List.length_cons, List.length_nil]; omega) Kwf.size ?_
        intro v11 w11 o11 g11 a11
        have K11 : Below W5.heap.size W5 w11 := Kwf.grown g11 Kwf.size fun b hb => (OF.lt b hb).1
        refine hK.out _ _ (.inr K11) ?_
        clear hK K
        try simp only [Act.put, List.getElem_toArray, List.getElem_cons_succ, List.getElem_cons_zero, List.setIfInBounds_toArray, List.set_cons_zero, List.set_cons_succ]
        refine anyT_ready (rs := [18]) (by kernel_rfl) (by simp) ?_
        refine ReadyT.cons rfl (fun K hK => ?_) ReadyT.nil
        refine step_app_fs rfl _ _ rfl W5.heap.size v11 ([] ++ F2.take j ++ [(⟨k, bs⟩ : M.Fil)]) ([] ++ xs2.take j ++ [.slice da bn dc]) rfl o11 (by simp [HXL.out]) (.slice ao2 n2 c2) (F2.drop j) (xs2.drop j) rfl (FDR.out.below K11) (by have h1 := HL2.out; simp only [List.nil_append, List.length_append, List.length_take, List.length_drop, List.length_cons, List.length_nil]; omega) K11.size ?_
        intro v18 w18 o18 g18 a18
        obtain ⟨va, vn, vc, hv18⟩ : ∃ a n c, v18 = .slice a n c := by obtain ⟨a, c, h⟩ := ownShape o18; exact ⟨a, _, c, h⟩
        subst hv18
        have K18 : Below W5.heap.size W5 w18 := K11.grown g18 K11.size fun b hb => (o11.lt b hb).1
        refine hK.out _ _ (.inr K18) ?_
        clear hK K
        try simp only [Act.put, List.getElem_toArray, List.getElem_cons_succ, List.getElem_cons_zero, List.setIfInBounds_toArray, List.set_cons_zero, List.set_cons_succ]
        refine anyT_free_at (i := 19) (v := .pointer (some ⟨gr, 0, none⟩)) rfl rfl (by kernel_rfl) (by kernel_rfl) (by kernel_rfl) (by kernel_rfl) (fun _ _ _ h => h) (Or.inl ⟨by rfl, fun w hS => by go_simp⟩) ?_
        try simp only [List.setIfInBounds_toArray, List.set_cons_zero, List.set_cons_succ]
        refine anyT_free_at (i := 20) (v := .pointer (some ⟨gr, 0, none⟩)) rfl rfl (by kernel_rfl) (by kernel_rfl) (by kernel_rfl) (by kernel_rfl) (fun _ _ _ h => h) (Or.inl ⟨by rfl, fun w hS => by go_simp⟩) ?_
        try simp only [List.setIfInBounds_toArray, List.set_cons_zero, List.set_cons_succ]
        refine anyT_ready (rs := [21]) (by kernel_rfl) (by simp) ?_
        refine ReadyT.cons rfl (fun K hK => ?_) ReadyT.nil
        have B18 := HB5.out.below K18 HGL5.out
        have c3 := B18.cell 0
        have f3 := B18.frozen 0
        simp only [List.getElem?_cons_zero] at c3
        go_simp
        refine hK.out _ _ (.inl (by simp)) ?_
        clear hK K
        refine anyT_done (by kernel_rfl) ?_ _
        obtain ⟨wE, hwE⟩ : ∃ x, x = w18.setCell ⟨gr, 0, none⟩ (.slice va vn vc) := ⟨_, rfl⟩
        rw [← hwE]
        have kc : Chg (fun b => b = gr) w18 wE := by rw [hwE]; exact (Chg.refl _ w18).cell 0 (.slice va vn vc)
        have BE : Blk wE gr 32 [.slice va vn vc, .int .i64 nb] := by rw [hwE]; exact B18.set_ 0 (.slice va vn vc)
        have hgl5 := HGL5.out
        have hgl := HGL.out
        have hz1 := HZ1.out
        have h14 := KW4.out.size
        have h18 := K18.size
        have hE := kc.size
        have K1E : Below w1.heap.size w1 w18 := KW4.out.trans (K18.mono h14)
        have KA : Hid (Chg (fun b => b = gr) w wE) := (HC1.out.trans (Chg.of_below (F := fun b => b = gr) K1E) fun _ _ h => h).trans kc fun _ _ h => h
        have hn1 : FsD (fun i => S i ∨ (w.heap.size ≤ i ∧ i < wE.heap.size)) wE [(⟨k, bs⟩ : M.Fil)] [.slice da bn dc] := ⟨rfl, fun i hi => by
          have : i = 0 := by simp at hi; exact hi
          subst this
          refine ⟨(KD4.out.below K18).chg kc (HLD.out.mono fun b hb e => by have := HGL1.out; omega), HD0.out, HLD.out.mono fun b hb => .inr ⟨by omega, by omega⟩, HKL.out⟩⟩
        have hS1 : ∀ i, S1 i → i ≠ gr ∧ (S i ∨ (w.heap.size ≤ i ∧ i < wE.heap.size)) := fun i hi => ⟨fun e => HSG1.out (e ▸ hi), by
          rw [HS1.out] at hi
          exact hi.imp_right fun h => by omega⟩
        have D0 : FsD S1 W5 ([] ++ F2.take j) ([] ++ xs2.take j) := (FsD.nil S1 W5).append FT.out.1
        have D1 : FsD (fun i => S i ∨ (w.heap.size ≤ i ∧ i < wE.heap.size)) wE ([] ++ F2.take j) ([] ++ xs2.take j) := ((D0.below K18).chg kc fun i hi => (hS1 i hi).1).mono fun i hi => (hS1 i hi).2
        have D2 : FsD (fun i => S i ∨ (w.heap.size ≤ i ∧ i < wE.heap.size)) wE (F2.drop j) (xs2.drop j) := ((FDR.out.1.below K18).chg kc fun i hi => (hS1 i hi).1).mono fun i hi => (hS1 i hi).2
        have DE : FsD (fun i => S i ∨ (w.heap.size ≤ i ∧ i < wE.heap.size)) wE ([] ++ F2.take j ++ [(⟨k, bs⟩ : M.Fil)] ++ F2.drop j) ([] ++ xs2.take j ++ [.slice da bn dc] ++ xs2.drop j) :=
          (D1.append hn1).append D2
        have oE : wE.ownsRow W5.heap.size 55 2 (.slice va vn vc) ([] ++ F2.take j ++ [(⟨k, bs⟩ : M.Fil)] ++ F2.drop j).length (fcs ([] ++ F2.take j ++ [(⟨k, bs⟩ : M.Fil)] ++ F2.drop j) ([] ++ xs2.take j ++ [.slice da bn dc] ++ xs2.drop j)) := own_chg o18 kc fun b hb e => by
          have := (o18.lt b hb).1
          omega
        have IE : Hid (IsFs (fun i => S i ∨ (w.heap.size ≤ i ∧ i < wE.heap.size)) wE (.slice va vn vc) ([] ++ F2.take j ++ [(⟨k, bs⟩ : M.Fil)] ++ F2.drop j) ([] ++ xs2.take j ++ [.slice da bn dc] ++ xs2.drop j)) := isFs_own oE DE fun b hb => .inr (by have := oE.lt b hb; omega)
        have HEQ : Hid ([] ++ F2.take j ++ [(⟨k, bs⟩ : M.Fil)] ++ F2.drop j = M.fput F k bs) := by
          rw [Hid, HP.out, HJ.out]
          simp
        have BEH := Lib.hid BE
        clear BE DE D0 D1 D2 oE kc hwE c3 f3 o11 o18 g11 g18 a11 a18 B18 K11 K18 hS1 hn1 K1E hgl5 hgl hz1 h14 h18 hE OF BQ BQF hfs b0
        go_wp2
        go_end0
        exact ⟨rfl, KA.out, .slice va vn vc, _, BEH.out, by rw [← HEQ.out]; exact IE.out⟩))

end Go.Proofs.YtgmhfianpdhnmaaGreatDoor
