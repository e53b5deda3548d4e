/-
  CONTRACT OF orlopref14.Bytes. Conditions: texts of up to 2^40 bytes.
-/
import Derived.Test.YtmheaefpbebgfaaDoorRefB64Text
import Derived.Test.YtmheaefpbebgfaaDoorB64M2
import Derived.Test.YtmheaefpbebgfaaDoorAppend
import Derived.Test.YtmheaefpbebgfaaDoorHeldA
import Derived.Test.YtmheaefpbebgfaaDoorShaMem
namespace Go.Proofs.YtmheaefpbebgfaaDoor
open Go.RowKit
set_option linter.unusedVariables false
set_option maxRecDepth 100000

/-- What the search among the letters has found behind k of them. -/
def M.valTo (c : UInt8) : Nat → Int
  | 0 => -1
  | k + 1 => if M.let64 k = c then (k : Int) else M.valTo c k

theorem M.valTo_none {c : UInt8} (h : M.val64 c = none) : ∀ k, k ≤ 64 → M.valTo c k = -1
  | 0, _ => rfl
  | k + 1, hk => by rw [M.valTo, if_neg (M.val_none h k (by omega)), M.valTo_none h k (by omega)]

theorem M.valTo_some {c : UInt8} {j : Nat} (h : M.val64 c = some j) : ∀ k, k ≤ 64 → M.valTo c k = if j < k then (j : Int) else -1
  | 0, _ => rfl
  | k + 1, hk => by
    obtain ⟨h1, h2⟩ := M.val_some h
    rw [M.valTo]
    by_cases e : M.let64 k = c
    · have hjk : j = k := M.let64_inj j h1 k (by omega) (by rw [e, h2])
      rw [if_pos e, if_pos (by omega), hjk]
    · have hjk : j ≠ k := by rintro rfl; exact e h2
      rw [if_neg e, M.valTo_some h k (by omega)]
      by_cases hj : j < k
      · rw [if_pos hj, if_pos (by omega)]
      · rw [if_neg hj, if_neg (by omega)]

/-- The call hands back the bytes that the text tells, or none. -/
def GivesR64 (w : World) (s : List UInt8) (e : Ending) (w' : World) : Prop :=
  ∃ r, e = .returned (.tuple #[r, .bool (M.dec64 s).isSome]) ∧ Own w' w.heap.size r ((M.dec64 s).getD []) ∧ Below w.heap.size w w'

theorem rd_none (w w' : World) (s : List UInt8) (h : M.dec64 s = none) (k : Below w.heap.size w w') : GivesR64 w s (.returned (.tuple #[.slice none 0 0, .bool false])) w' :=
  ⟨.slice none 0 0, by rw [h]; rfl, by rw [h]; exact World.ownsRow_nil _ _ _ _, k⟩

theorem and_low64 (v t : Nat) (h : v < 16384) (ht : t < 8) : bits BinOp.and .i64 (v : Int) (((2 ^ t - 1 : Nat)) : Int) = ((v % 2 ^ t : Nat) : Int) := by
  have h2 : 2 ^ t ≤ 2 ^ 7 := Nat.pow_le_pow_right (by decide) (by omega)
  have h3 : v % 2 ^ t < 2 ^ t := Nat.mod_lt _ (Nat.pow_pos (by decide))
  show IntKind.i64.wrap ((BitVec.ofInt 64 (v : Int) &&& BitVec.ofInt 64 ((2 ^ t - 1 : Nat) : Int)).toNat : Int) = _
  rw [BitVec.toNat_and, ofInt_u64 v (by omega), ofInt_u64 _ (by omega), Nat.and_two_pow_sub_one_eq_mod, IntKind.wrap_i64]
  generalize v % 2 ^ t = r at h3 ⊢
  omega

theorem one64 (k : Nat) (h : k < 8) : wrap64 (2 ^ k) - 1 = ((2 ^ k - 1 : Nat) : Int) := by
  have e : (2 : Int) ^ k = ((2 ^ k : Nat) : Int) := by simp
  have h2 : 2 ^ k ≤ 2 ^ 7 := Nat.pow_le_pow_right (by decide) (by omega)
  have h3 : 0 < 2 ^ k := Nat.pow_pos (by decide)
  rw [e]
  unfold wrap64
  omega

theorem one64_low (k : Nat) (h : k < 8) : wrap64 ((2 ^ k - 1 : Nat) : Int) = ((2 ^ k - 1 : Nat) : Int) := by
  have h2 : 2 ^ k ≤ 2 ^ 7 := Nat.pow_le_pow_right (by decide) (by omega)
  unfold wrap64
  omega


set_option maxHeartbeats 4000000 in
theorem rbytes_any (s : List UInt8) (w : World) (hs : s.length ≤ 1099511627776) :
    Calls Tryd.prog 12 #[.string ⟨s.toArray⟩] w (GivesR64 w s) := by
  have HD := Lib.hid (M.dec64_rd s)
  obtain ⟨n, hn⟩ : ∃ n, n = s.length := ⟨_, rfl⟩
  obtain ⟨S, hS⟩ : ∃ S : ByteArray, S = ⟨s.toArray⟩ := ⟨_, rfl⟩
  have hsz : S.size = n := by rw [hS, hn]; rfl
  have HS := Lib.hid hS
  have HN := Lib.hid hn
  rw [← hn] at hs
  have HLEN := Lib.hid hs
  have hni : (n : Int) ≤ 1099511627776 := by omega
  rw [← hS]
  clear hn hS hs
  go_enter Tryd.func12, Tryd.ntmps12
  go_wp2
  go_loopw [4, 5, 6, 7] (fun ov v k i wr => ∃ (t vv kk : Nat) (o : List UInt8), v = .int .i64 (vv : Int) ∧ k = .int .i64 (kk : Int) ∧ i = .int .i64 (t : Int) ∧ Hid (t ≤ n) ∧ Hid (M.RdOk ⟨vv, kk, o⟩ t) ∧ Hid (M.rdL (s.drop t) ⟨vv, kk, o⟩ = M.rdL s ⟨0, 0, []⟩) ∧ Hid (Own wr w.heap.size ov o) ∧ Hid (Below w.heap.size w wr))
    (fun _ _ _ i _ => n - natOf i)
  case atStart => exact ⟨0, 0, 0, [], rfl, rfl, rfl, Nat.zero_le _, ⟨by decide, by decide, rfl, rfl⟩, rfl, World.ownsRow_nil _ _ _ _, Below.refl _ _⟩
  case round =>
    obtain ⟨wz, rfl⟩ : ∃ x, x = wr := ⟨_, rfl⟩
    obtain ⟨t, vv, kk, o, rfl, rfl, rfl, ht, hok, hrd, ho, kb⟩ := hrel
    by_cases hlt : t < n
    · have htl : t < s.length := by rw [← HN.out]; exact hlt
      obtain ⟨c, hc⟩ : ∃ c, c = s[t]'htl := ⟨_, rfl⟩
      have hst : t < S.size := by rw [hsz]; exact hlt
      have hsc : S[t]'hst = c := by
        have h0 := HS.out
        subst h0
        show (s.toArray)[t]'_ = c
        simp [hc]
      have HDR : Hid (s.drop t = c :: s.drop (t + 1)) := by rw [Hid, hc]; exact List.drop_eq_getElem_cons htl
      have hex : S.extract t (t + 1) = ⟨#[c]⟩ := by
        apply ByteArray.ext
        rw [ByteArray.data_extract, HS.out]
        show s.toArray.extract t (t + 1) = #[c]
        apply Array.ext'
        simp [HDR.out]
      have b1 : (t : Int) < (n : Int) := by omega
      have HLT := Lib.hid hlt
      have HWT : Hid (IntKind.i64.wrap ((t : Int) + 1) = (t : Int) + 1) := by rw [Hid, IntKind.wrap_i64]; omega
      have HG : Hid ((0 : Int) ≤ (t : Int) + 1 ∧ (t : Int) + 1 ≤ (n : Int) ∧ (t : Int) ≤ (t : Int) + 1) := by rw [Hid]; omega
      clear hlt htl hc
      by_cases h61 : c = 61
      · have HRE : Hid (M.rdL s ⟨0, 0, []⟩ = some ⟨vv, kk, o⟩) := by rw [Hid, ← hrd.out, HDR.out, M.rdL, if_pos h61]
        have HOL : Hid (o.length ≤ 1099511627776) := by
          have h1 : o.length * 8 + kk = 6 * t := hok.out.2.2.2
          have h2 := HLEN.out
          have h3 := HLT.out
          rw [Hid]
          omega
        have hcn : (c.toNat : Int) = 61 := by rw [h61]; rfl
        clear h61
        have CT := Lib.hid (rtext_any _ o wz ho.out.isB HOL.out)
        obtain ⟨b, hb⟩ : ∃ b, b = M.enc64 o := ⟨_, rfl⟩
        obtain ⟨B, hB⟩ : ∃ B : ByteArray, B = ⟨b.toArray⟩ := ⟨_, rfl⟩
        have HDE : Hid (M.dec64 s = if b = s then some o else none) := by rw [Hid, HD.out, HRE.out, hb]; rfl
        have HEQ : Hid (b = s → B = S) := fun h => by rw [hB, HS.out, h]
        have HNE : Hid (¬ b = s → (B.toList == S.toList) = false) := fun h => by rw [hB, HS.out, ByteArray.toList_eq, ByteArray.toList_eq]; simpa using h
        rw [← hb, ← hB] at CT
        clear hb hB
        go_wp2_with fail
        refine CT.out.mono ?_
        rintro e w3 ⟨rfl, k3⟩
        have O3 : Hid (Own w3 w.heap.size _ o) := ho.out.below k3
        have K3 : Hid (Below w.heap.size w w3) := kb.out.trans (k3.mono kb.out.size)
        clear k3 CT ho kb
        by_cases he : b = s
        · have hbs : B = S := HEQ.out he
          have HD2 : Hid (M.dec64 s = some o) := by rw [Hid, HDE.out, if_pos he]
          clear he
          go_wp2
          go_ret2
          exact ⟨_, by rw [HD2.out]; rfl, by rw [HD2.out]; exact O3.out, K3.out⟩
        · have hbs : (B.toList == S.toList) = false := HNE.out he
          have HD2 : Hid (M.dec64 s = none) := by rw [Hid, HDE.out, if_neg he]
          clear he
          go_wp2
          go_ret2
          exact rd_none _ _ _ HD2.out K3.out
      · have hcn : ¬ (c.toNat : Int) = 61 := by
          intro e
          exact h61 (UInt8.toNat_inj.1 (by rw [show c.toNat = 61 by omega]; rfl))
        have H61 := Lib.hid h61
        clear h61
        have hcb : ((c.toNat : Int) != 61) = true := by simpa using hcn
        go_wp2
        try rw [hcb]
        clear hcb
        go_loopw [8, 9] (fun x k wr => ∃ q : Nat, x = .int .i64 (M.valTo c q) ∧ k = .int .i64 (q : Int) ∧ Hid (q ≤ 64) ∧ Hid (Below wz.heap.size wz wr))
          (fun _ k _ => 64 - natOf k)
        case atStart => exact ⟨0, rfl, rfl, Nat.zero_le _, by first | exact Below.refl _ _ | exact (Below.refl _ _).drew⟩
        case round =>
          obtain ⟨wy, rfl⟩ : ∃ x, x = wr := ⟨_, rfl⟩
          obtain ⟨q, rfl, rfl, hq, ky⟩ := hrel
          by_cases hq64 : q < 64
          · have b2 : (q : Int) < 64 := by omega
            obtain ⟨xv, hxv⟩ : ∃ x, x = M.valTo c q := ⟨_, rfl⟩
            rw [← hxv]
            have HNX : Hid (M.valTo c (q + 1) = if M.let64 q = c then (q : Int) else xv) := by rw [hxv]; rfl
            have CL : Hid (∀ W, Calls Tryd.prog 20 #[.int .i64 (q : Int)] W fun e w' => e = .returned (.string ⟨#[M.let64 q]⟩) ∧ Below W.heap.size W w') := fun W => rletter_any q hq64 W
            have HQ64 := Lib.hid hq64
            obtain ⟨d, hd⟩ : ∃ d, d = M.let64 q := ⟨_, rfl⟩
            rw [← hd] at HNX CL
            clear hxv hd hq64
            go_upto_region 11 with fail
            refine wp_region_any (by kernel_rfl) ?_
            change wpAny _ _ _ _ _ _ _ (World.drew _)
            refine wpAny_of_held (S := fun _ => True) _ _ _ _ ?_
            have S0 : True := trivial
            refine wpAnyH_take_at (i := 0) (v := .int .i64 (q : Int)) rfl rfl (by kernel_rfl) (by kernel_rfl) (by kernel_rfl) (fun _ _ _ h => h) (Or.inl ⟨by rfl, fun w hS => by go_simp⟩) S0 ?_
            try simp only [List.setIfInBounds_toArray, List.set_cons_zero, List.set_cons_succ]
            refine wpAnyH_take_at (i := 2) (v := .string S) rfl rfl (by kernel_rfl) (by kernel_rfl) (by kernel_rfl) (fun _ _ _ h => h) (Or.inl ⟨by rfl, fun w hS => by go_simp⟩) S0 ?_
            try simp only [List.setIfInBounds_toArray, List.set_cons_zero, List.set_cons_succ]
            refine wpAnyH_take_at (i := 3) (v := .int .i64 (t : Int)) rfl rfl (by kernel_rfl) (by kernel_rfl) (by kernel_rfl) (fun _ _ _ h => h) (Or.inl ⟨by rfl, fun w hS => by go_simp⟩) S0 ?_
            try simp only [List.setIfInBounds_toArray, List.set_cons_zero, List.set_cons_succ]
            refine wpAnyH_take_at (i := 4) (v := .int .i64 (t : Int)) rfl rfl (by kernel_rfl) (by kernel_rfl) (by kernel_rfl) (fun _ _ _ h => h) (Or.inl ⟨by rfl, fun w hS => by go_simp⟩) S0 ?_
            try simp only [List.setIfInBounds_toArray, List.set_cons_zero, List.set_cons_succ]
            refine wpAnyH_take_at (i := 5) (v := .int .i64 ((t : Int) + 1)) rfl rfl (by kernel_rfl) (by kernel_rfl) (by kernel_rfl) (fun _ _ _ h => h) (Or.inl ⟨by rfl, fun w hS => by have hw := HWT.out; go_simp⟩) S0 ?_
            try simp only [List.setIfInBounds_toArray, List.set_cons_zero, List.set_cons_succ]
            refine wpAnyH_take_at (i := 6) (v := .string ⟨#[c]⟩) rfl rfl (by kernel_rfl) (by kernel_rfl) (by kernel_rfl) (fun _ _ _ h => h) (Or.inl ⟨by rfl, fun w hS => by have g1 := HG.out.1; have g2 := HG.out.2.1; have g3 := HG.out.2.2; go_simp⟩) S0 ?_
            try simp only [List.setIfInBounds_toArray, List.set_cons_zero, List.set_cons_succ]
            refine wpAnyH_ready (rs := [1]) (by kernel_rfl) (by simp) ?_
            refine AllReadyH.cons rfl (fun K hK => ?_) AllReadyH.nil
            go_simp
            refine (CL.out _).mono ?_
            rintro e w1 ⟨rfl, k1⟩
            refine hK.out _ _ S0 (fun _ => ?_)
            clear hK
            have KY : Hid (Below wz.heap.size wz w1) := ky.out.drew.trans (k1.mono ky.out.size)
            by_cases hdc : d = c
            · have HV : Hid (M.valTo c (q + 1) = (q : Int)) := by rw [Hid, HNX.out, if_pos hdc]
              refine wpAnyH_take_at (i := 7) (v := .bool true) rfl rfl (by kernel_rfl) (by kernel_rfl) (by kernel_rfl) (fun _ _ _ h => h) (Or.inl ⟨by rfl, fun w hS => by go_simp⟩) S0 ?_
              try simp only [List.setIfInBounds_toArray, List.set_cons_zero, List.set_cons_succ]
              clear hdc
              refine wpAnyH_done (by kernel_rfl) ?_ _
              go_wp2
              go_roundw
              case rel => exact ⟨q + 1, by first | rw [HV.out] | rfl, by go_num, HQ64.out, KY⟩
              case measure =>
                have := HQ64.out
                simp only [natOf]
                omega
            · have HV : Hid (M.valTo c (q + 1) = xv) := by rw [Hid, HNX.out, if_neg hdc]
              have hne : ((⟨#[d]⟩ : ByteArray).toList == (⟨#[c]⟩ : ByteArray).toList) = false := by
                rw [ByteArray.toList_eq, ByteArray.toList_eq]
                simpa using hdc
              refine wpAnyH_take_at (i := 7) (v := .bool false) rfl rfl (by kernel_rfl) (by kernel_rfl) (by kernel_rfl) (fun _ _ _ h => h) (Or.inl ⟨by rfl, fun w hS => by go_simp⟩) S0 ?_
              try simp only [List.setIfInBounds_toArray, List.set_cons_zero, List.set_cons_succ]
              clear hdc hne
              refine wpAnyH_done (by kernel_rfl) ?_ _
              go_wp2
              go_roundw
              case rel => exact ⟨q + 1, by first | rw [HV.out] | rfl, by go_num, HQ64.out, KY⟩
              case measure =>
                have := HQ64.out
                simp only [natOf]
                omega
          · have b2 : ¬ (q : Int) < 64 := by omega
            obtain rfl : q = 64 := by have := hq.out; omega
            have KB : Hid (Below w.heap.size w wy) := kb.out.trans (ky.out.mono kb.out.size)
            clear hq64 b2
            cases hv : M.val64 c with
            | none =>
              have hvv := M.valTo_none hv 64 (Nat.le_refl _)
              have HNO : Hid (M.dec64 s = none) := by
                rw [Hid, HD.out, ← hrd.out, HDR.out, M.rdL, if_neg H61.out, M.rdS, hv]
                rfl
              rw [hvv]
              clear hv hvv
              go_wp2
              go_ret2
              exact rd_none _ _ _ HNO.out KB.out
            | some x =>
              have hx64 := (M.val_some hv).1
              have hvv := M.valTo_some hv 64 (Nat.le_refl _)
              rw [if_pos hx64] at hvv
              rw [hvv]
              have HRS : Hid (M.rdL (s.drop (t + 1)) (M.rdN ⟨vv, kk, o⟩ x) = M.rdL s ⟨0, 0, []⟩) := by
                rw [Hid, ← hrd.out, HDR.out, M.rdL, if_neg H61.out, M.rdS, hv]
                rfl
              have HRO : Hid (M.RdOk (M.rdN ⟨vv, kk, o⟩ x) (t + 1)) := M.rdN_ok hok.out hx64
              have hkk8 : kk < 8 := hok.out.2.1
              have hv14 : vv < 256 := by
                have h1 : vv < 2 ^ kk := hok.out.1
                have h2 : 2 ^ kk ≤ 2 ^ 7 := Nat.pow_le_pow_right (by decide) (by omega)
                omega
              obtain ⟨y, hy⟩ : ∃ y, y = vv * 64 + x := ⟨_, rfl⟩
              have hw1 : wrap64 ((vv : Int) * 64) = (vv : Int) * 64 := by unfold wrap64; omega
              have hw2 : wrap64 ((vv : Int) * 64 + (x : Int)) = (y : Int) := by unfold wrap64; omega
              have HY2 : Hid (y < 16384) := by rw [Hid]; omega
              have HY := Lib.hid hy
              have HO : Hid (Own wy w.heap.size u4 o) := ho.out.below ky.out
              clear hv hvv hy hv14
              have hx0 : ¬ (x : Int) < 0 := by omega
              clear hx64
              go_upto_region 16 with fail
              try rw [hw1]
              rw [hw2]
              clear hw1 hw2
              by_cases h8 : 8 ≤ kk + 6
              · obtain ⟨k2, hk2⟩ : ∃ q, q = kk - 2 := ⟨_, rfl⟩
                have hkk : kk = k2 + 2 := by omega
                have hk28 : k2 < 8 := by omega
                have h81 : (8 : Int) ≤ ((kk : Nat) : Int) + 6 := by omega
                have hk2i : (kk : Int) + 6 - 8 = (k2 : Int) := by rw [hkk]; omega
                obtain ⟨q, hq⟩ : ∃ q, q = y / 2 ^ k2 := ⟨_, rfl⟩
                obtain ⟨r, hr⟩ : ∃ r, r = y % 2 ^ k2 := ⟨_, rfl⟩
                have HS2 : Hid ((y : Int) / 2 ^ k2 = (q : Int)) := by rw [Hid, hq]; simp
                have HST : Hid (M.rdN ⟨vv, kk, o⟩ x = ⟨r, k2, o ++ [UInt8.ofNat q]⟩) := by
                  rw [Hid, M.rdN, if_pos h8, hkk, show k2 + 2 + 6 - 8 = k2 from rfl, ← HY.out, ← hq, ← hr]
                obtain ⟨cq, hcq⟩ : ∃ x, x = UInt8.ofNat q := ⟨_, rfl⟩
                have HQM : Hid ((q : Int) % 256 = (cq.toNat : Int)) := by rw [Hid, hcq, UInt8.toNat_ofNat']; rfl
                rw [← hcq] at HST
                have HSL : Hid (o.length ≤ 1099511627776) := by
                  have h1 : o.length * 8 + kk = 6 * t := hok.out.2.2.2
                  have h2 := HLEN.out
                  have h3 := HLT.out
                  rw [Hid]
                  omega
                have HAN := Lib.hid (and_low64 y k2 HY2.out hk28)
                rw [← hr] at HAN
                have H1 := Lib.hid (one64 k2 hk28)
                clear hcq hq hr hk2 hkk h8
                go_upto_region 19 with fail
                have hsh2 := HS2.out
                have hqm := HQM.out
                go_upto_region 20 with (refine wpList_app _ rfl _ _ rfl w.heap.size _ o rfl (HO.out.below ((Below.refl _ _).alloc (Nat.le_refl _) _)) _ [cq] rfl (isB_one _ _ cq _ rfl) (fun _ _ e => by cases e) (by have := HSL.out; simp; omega) (Nat.le_trans KB.out.size (by simp)) ?_; intro v' w4 hown4 k4 _)
                have HO4 := Lib.hid hown4
                have K4 : Hid (Below w.heap.size w w4) := (KB.out.alloc KB.out.size _).trans k4
                clear hown4 k4 hsh2 hqm ho kb
                have hone := H1.out
                have hand := HAN.out
                have hone2 : wrap64 ((2 ^ k2 - 1 : Nat) : Int) = ((2 ^ k2 - 1 : Nat) : Int) := one64_low k2 hk28
                clear HAN H1
                rw [HST.out] at HRS HRO
                go_wp2
                refine ⟨⟨t + 1, r, k2, o ++ [cq], rfl, rfl, by go_num, HLT.out, HRO, HRS, HO4, K4⟩, ?_⟩
                have h3 := HLT.out
                simp only [natOf]
                clear hone hand hone2
                omega
              · have b8 : ¬ (8 : Int) ≤ (kk : Int) + 6 := by omega
                have HST : Hid (M.rdN ⟨vv, kk, o⟩ x = ⟨y, kk + 6, o⟩) := by
                  rw [Hid, M.rdN, if_neg h8, ← HY.out]
                rw [HST.out] at HRS HRO
                clear h8
                go_wp2
                refine ⟨⟨t + 1, y, kk + 6, o, rfl, by go_num, by go_num, HLT.out, HRO, HRS, HO, KB⟩, ?_⟩
                have h3 := HLT.out
                simp only [natOf]
                omega
    · have b1 : ¬ (t : Int) < (n : Int) := by omega
      have HRE : Hid (M.rdL s ⟨0, 0, []⟩ = some ⟨vv, kk, o⟩) := by
        have : s.drop t = [] := List.drop_eq_nil_of_le (by rw [← HN.out]; omega)
        rw [Hid, ← hrd.out, this, M.rdL]
      have HOL : Hid (o.length ≤ 1099511627776) := by
        have h1 : o.length * 8 + kk = 6 * t := hok.out.2.2.2
        have h2 := HLEN.out
        have h3 := ht.out
        rw [Hid]
        omega
      clear hlt
      have CT := Lib.hid (rtext_any _ o wz ho.out.isB HOL.out)
      obtain ⟨b, hb⟩ : ∃ b, b = M.enc64 o := ⟨_, rfl⟩
      obtain ⟨B, hB⟩ : ∃ B : ByteArray, B = ⟨b.toArray⟩ := ⟨_, rfl⟩
      have HDE : Hid (M.dec64 s = if b = s then some o else none) := by rw [Hid, HD.out, HRE.out, hb]; rfl
      have HEQ : Hid (b = s → B = S) := fun h => by rw [hB, HS.out, h]
      have HNE : Hid (¬ b = s → (B.toList == S.toList) = false) := fun h => by rw [hB, HS.out, ByteArray.toList_eq, ByteArray.toList_eq]; simpa using h
      rw [← hb, ← hB] at CT
      clear hb hB
      go_wp2_with fail
      refine CT.out.mono ?_
      rintro e w3 ⟨rfl, k3⟩
      have O3 : Hid (Own w3 w.heap.size _ o) := ho.out.below k3
      have K3 : Hid (Below w.heap.size w w3) := kb.out.trans (k3.mono kb.out.size)
      clear k3 CT ho kb
      by_cases he : b = s
      · have hbs : B = S := HEQ.out he
        have HD2 : Hid (M.dec64 s = some o) := by rw [Hid, HDE.out, if_pos he]
        clear he
        go_wp2
        go_ret2
        exact ⟨_, by rw [HD2.out]; rfl, by rw [HD2.out]; exact O3.out, K3.out⟩
      · have hbs : (B.toList == S.toList) = false := HNE.out he
        have HD2 : Hid (M.dec64 s = none) := by rw [Hid, HDE.out, if_neg he]
        clear he
        go_wp2
        go_ret2
        exact rd_none _ _ _ HD2.out K3.out

end Go.Proofs.YtmheaefpbebgfaaDoor
