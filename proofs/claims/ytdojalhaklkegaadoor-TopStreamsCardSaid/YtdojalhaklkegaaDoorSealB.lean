/-
  CONTRACTS OF (head).nonce AND each. Conditions: up to 2^32 pieces; what is done with a piece keeps what the caller needs.
-/
import Derived.Test.YtdojalhaklkegaaDoorSealA
namespace Go.Proofs.YtdojalhaklkegaaDoor
open Go.RowKit Go.Maps
set_option linter.unusedVariables false
set_option maxRecDepth 100000

set_option maxHeartbeats 4000000 in
theorem nonce_any (hv : Value) (h : List UInt8) (i : Nat) (last : Bool) (w : World) (hi : IsB w hv h) (h12 : h.length = 12) (hlt : i < 4294967296) :
    Calls Tryd.prog 43 #[hv, .int .i64 (i : Int), .bool last] w (Makes w (M.nonce ((h.drop 1).take 7) i last)) := by
  have c1 : IntKind.u32.wrap (i : Int) = (i : Int) := by
    simp [IntKind.wrap, IntKind.signed, IntKind.bits]
    omega
  have CB := Lib.hid (fun W => big32_any i W (by omega))
  have CP := Lib.hid (hprefix_any hv h w hi h12)
  obtain ⟨pre, hpre⟩ : ∃ p, p = (h.drop 1).take 7 := ⟨_, rfl⟩
  have h7 : pre.length = 7 := by rw [hpre, List.length_take, List.length_drop]; omega
  rw [← hpre] at CP ⊢
  have H7 := Lib.hid h7
  obtain ⟨yb, hyb⟩ : ∃ y, y = (M.le i 4).reverse := ⟨_, rfl⟩
  rw [← hyb] at CB
  have HY : Hid (M.nonce pre i last = [pre, yb, [if last then 1 else 0]].flatten ∧ yb.length = 4) := by
    rw [Hid, hyb]
    exact ⟨by simp [M.nonce, M.bg4], by rw [List.length_reverse, M.le_length]⟩
  clear hi h12 hlt hpre h7 hyb
  cases last with
  | false =>
    go_enter Tryd.func43, Tryd.ntmps43
    go_wp2_with fail
    refine CP.out.mono ?_
    rintro e w1 ⟨pv, rfl, hp, rfl⟩
    obtain ⟨pb, po, pc, rfl⟩ := hp.some_ (by intro e; have := H7.out; rw [e] at this; cases this)
    have HP := Lib.hid hp
    rw [H7.out] at HP ⊢
    clear hp CP
    go_wp2_with fail
    refine (CB.out _).mono ?_
    rintro e w2 ⟨yv, rfl, o2, k2⟩
    obtain ⟨ya, yc, rfl⟩ := o2.shape'
    obtain ⟨W3, hW3⟩ : ∃ W, W = w2.alloc (.cells #[.int .u8 0] 5) := ⟨_, rfl⟩
    have one := isB_one w2 5 0 0 rfl
    rw [← hW3] at one
    have hz3 : W3.heap.size = w2.heap.size + 1 := by rw [hW3]; simp
    have k3 : Below w2.heap.size w2 W3 := by rw [hW3]; exact (Below.refl _ _).alloc (Nat.le_refl _) _
    have k03 : Below w1.heap.size w1 W3 := k2.trans (k3.mono k2.size)
    have R := Lib.hid (rowsN_three (t := 24) (fr := (0, 0)) (HP.out.below k03) (o2.isB.below k3) one (fun n c e => by cases e) o2.nil0 (fun n c e => by cases e))
    have k4 : Below w1.heap.size w1 (W3.alloc (.cells #[.slice (some ⟨pb, po, none⟩) 7 pc, .slice ya yb.length yc, .slice (some ⟨w2.heap.size, 0, none⟩) 1 1] 24)) := k03.alloc k03.size _
    rw [hz3] at R
    have HC := Lib.hid (concatB_any _ _ _ R.out (by have := HY.out.2; have := H7.out; simp; omega))
    have K4 := Lib.hid k4
    have E3 := Lib.hid hW3
    clear one k2 k3 k03 k4 o2 hW3 hz3
    go_wp2_with fail
    rw [← E3.out]
    go_must (refine HC.out.mono ?_)
    rintro e w4 ⟨r, rfl, o4, k4⟩
    have e1 : M.nonce pre i false = [pre, yb, [(0 : UInt8)]].flatten := HY.out.1.trans rfl
    rw [← e1] at o4
    have O4 := Lib.hid (o4.mono K4.out.size)
    have K5 := Lib.hid (K4.out.trans (k4.mono K4.out.size))
    clear o4 k4 HC R
    go_wp2
    go_ret
    exact ⟨_, rfl, O4.out, K5.out⟩
  | true =>
    go_enter Tryd.func43, Tryd.ntmps43
    go_wp2_with fail
    refine CP.out.mono ?_
    rintro e w1 ⟨pv, rfl, hp, rfl⟩
    obtain ⟨pb, po, pc, rfl⟩ := hp.some_ (by intro e; have := H7.out; rw [e] at this; cases this)
    have HP := Lib.hid hp
    rw [H7.out] at HP ⊢
    clear hp CP
    go_wp2_with fail
    refine (CB.out _).mono ?_
    rintro e w2 ⟨yv, rfl, o2, k2⟩
    obtain ⟨ya, yc, rfl⟩ := o2.shape'
    obtain ⟨W3, hW3⟩ : ∃ W, W = w2.alloc (.cells #[.int .u8 1] 5) := ⟨_, rfl⟩
    have one := isB_one w2 5 1 1 rfl
    rw [← hW3] at one
    have hz3 : W3.heap.size = w2.heap.size + 1 := by rw [hW3]; simp
    have k3 : Below w2.heap.size w2 W3 := by rw [hW3]; exact (Below.refl _ _).alloc (Nat.le_refl _) _
    have k03 : Below w1.heap.size w1 W3 := k2.trans (k3.mono k2.size)
    have R := Lib.hid (rowsN_three (t := 24) (fr := (0, 0)) (HP.out.below k03) (o2.isB.below k3) one (fun n c e => by cases e) o2.nil0 (fun n c e => by cases e))
    have k4 : Below w1.heap.size w1 (W3.alloc (.cells #[.slice (some ⟨pb, po, none⟩) 7 pc, .slice ya yb.length yc, .slice (some ⟨w2.heap.size, 0, none⟩) 1 1] 24)) := k03.alloc k03.size _
    rw [hz3] at R
    have HC := Lib.hid (concatB_any _ _ _ R.out (by have := HY.out.2; have := H7.out; simp; omega))
    have K4 := Lib.hid k4
    have E3 := Lib.hid hW3
    clear one k2 k3 k03 k4 o2 hW3 hz3
    go_wp2_with fail
    rw [← E3.out]
    go_must (refine HC.out.mono ?_)
    rintro e w4 ⟨r, rfl, o4, k4⟩
    have e1 : M.nonce pre i true = [pre, yb, [(1 : UInt8)]].flatten := HY.out.1.trans rfl
    rw [← e1] at o4
    have O4 := Lib.hid (o4.mono K4.out.size)
    have K5 := Lib.hid (K4.out.trans (k4.mono K4.out.size))
    clear o4 k4 HC R
    go_wp2
    go_ret
    exact ⟨_, rfl, O4.out, K5.out⟩

theorem IsB.nilN {w : World} {v : Value} {bs : List UInt8} (h : IsB w v bs) : bs.length ≤ maxLen := by
  obtain ⟨ao, cap, e, h1, h2, h3⟩ := h
  omega

/-- What is done with each piece: Inv holds ahead of piece i; Fin, with a code, behind one that fails. -/
def DoesEach (D : Nat) (caps : Array Value) (pre b : List UInt8) (size k : Nat) (Inv : Nat → World → Prop) (Fin : Nat → World → Prop) : Prop :=
  ∀ i, i < k → ∀ (W : World) (nv pv : Value), Inv i W → IsB W nv (M.nonce pre i (decide (i + 1 = k))) → IsB W pv (M.pc b size i) →
    Calls Tryd.prog D (#[nv, pv] ++ caps) W fun e W' => ∃ code : Nat, e = .returned (.int .i64 (code : Int)) ∧ (code = 0 → Inv (i + 1) W') ∧ (code ≠ 0 → Fin code W')

set_option maxHeartbeats 8000000 in
theorem eachS_any (p1 p2 p3 p4 : Value) (bv hv : Value) (b h : List UInt8) (size k : Nat) (Inv : Nat → World → Prop) (Fin : Nat → World → Prop) (w : World)
    (hk : k = M.np b.length size) (h1 : 1 ≤ size) (hs : size ≤ 1099511627776) (hl : b.length ≤ 4294967000) (h12 : h.length = 12)
    (hkeep : ∀ i W, Inv i W → IsB W bv b ∧ IsB W hv h) (hbel : ∀ i W W', Inv i W → Below W.heap.size W W' → Inv i W') (h0 : Inv 0 w)
    (hD : DoesEach 44 #[p1, p2, p3, p4] ((h.drop 1).take 7) b size k Inv Fin) :
    Calls Tryd.prog 42 #[bv, .int .i64 (size : Int), .func (.func 43) #[hv] #[], .func (.func 44) #[] #[p1, p2, p3, p4]] w fun e w' =>
      ∃ code : Nat, e = .returned (.int .i64 (code : Int)) ∧ (code = 0 → Inv k w') ∧ (code ≠ 0 → Fin code w') := by
  obtain ⟨ba, bc, rfl⟩ := (hkeep 0 w h0).1.shape
  obtain ⟨n, hn⟩ : ∃ n, n = b.length := ⟨_, rfl⟩
  have HP := Lib.hid (pieces_any n size w h1 (by omega) hs)
  rw [← hn] at hk hl hkeep ⊢
  rw [← hk] at HP
  have hkb : k ≤ n + 1 := by rw [hk]; exact M.np_le _ _ h1
  have HAT : Hid (∀ i, i < k → i * size ≤ n) := fun i hi => M.np_in_le h1 (by rw [← hk]; exact hi)
  have HKEEP := Lib.hid hkeep
  have HBEL := Lib.hid hbel
  have HD := Lib.hid hD
  have H0 := Lib.hid h0
  have H12 := Lib.hid h12
  have HN := Lib.hid hn
  have HB : Hid (1 ≤ size ∧ size ≤ 1099511627776 ∧ n ≤ 4294967000 ∧ k ≤ n + 1) := ⟨h1, hs, hl, hkb⟩
  clear hk h1 hs hl h12 hkeep hbel h0 hD hkb hn
  go_enter Tryd.func42, Tryd.ntmps42
  go_wp2_with fail
  refine HP.out.mono ?_
  rintro e w1 ⟨rfl, rfl⟩
  go_wp2
  go_loopw [19] (fun i wr => ∃ j : Nat, i = .int .i64 (j : Int) ∧ Hid (j ≤ k) ∧ Hid (Inv j wr)) (fun i _ => k - (intOf i).toNat)
  case atStart => exact ⟨0, rfl, Nat.zero_le _, H0⟩
  case round =>
    obtain ⟨wz, rfl⟩ : ∃ x, x = wr := ⟨_, rfl⟩
    obtain ⟨j, rfl, hj, hI⟩ := hrel
    by_cases hlt : j < k
    · have b1 : (j : Int) < (k : Int) := by omega
      have hb := HB.out
      have hat := HAT.out j hlt
      obtain ⟨hib, hih⟩ := HKEEP.out j wz hI.out
      obtain ⟨at_, hat_⟩ : ∃ a, a = j * size := ⟨_, rfl⟩
      rw [← hat_] at hat
      have e1 : (j : Int) * (size : Int) = (at_ : Int) := by rw [hat_]; exact (Int.natCast_mul j size).symm
      obtain ⟨s, hs⟩ : ∃ s, s = at_ + size := ⟨_, rfl⟩
      have e2 : (at_ : Int) + (size : Int) = (s : Int) := by omega
      have e1w : wrap64 (at_ : Int) = (at_ : Int) := by clear e1; unfold wrap64; omega
      have e2w : wrap64 (s : Int) = (s : Int) := by clear e1; unfold wrap64; omega
      have e3 : wrap64 ((k : Int) - 1) = (k : Int) - 1 := by clear e1; unfold wrap64; omega
      obtain ⟨la, hla⟩ : ∃ l, l = decide (j + 1 = k) := ⟨_, rfl⟩
      have e4 : ((j : Int) == (k : Int) - 1) = la := by
        rw [hla]
        by_cases h : j + 1 = k
        · rw [decide_eq_true h]; simp; clear e1; omega
        · rw [decide_eq_false h]; simp; clear e1; omega
      obtain ⟨m, hm, hmin⟩ : ∃ m, at_ ≤ m ∧ m = min s n := ⟨min s n, by omega, rfl⟩
      have hmn : m ≤ n := by omega
      obtain ⟨pa, hsl, hpi⟩ := hib.sub 24 Tryd.underlying24 at_ m hm hmn
      have hpc : (b.drop at_).take (m - at_) = M.pc b size j := by
        rw [M.pc, ← hat_]
        by_cases h : s ≤ n
        · rw [show m - at_ = size by omega]
        · rw [List.take_of_length_le (by rw [List.length_drop, ← HN.out]; omega), List.take_of_length_le (by rw [List.length_drop, ← HN.out]; omega)]
      rw [hpc] at hpi
      have CN := Lib.hid (nonce_any hv h j la wz hih H12.out (by omega))
      have HDJ : Hid (∀ (W : World) (nv pv : Value), Inv j W → IsB W nv (M.nonce ((h.drop 1).take 7) j (decide (j + 1 = k))) → IsB W pv (M.pc b size j) → Calls Tryd.prog 44 #[nv, pv, p1, p2, p3, p4] W fun e W' => ∃ code : Nat, e = .returned (.int .i64 (code : Int)) ∧ (code = 0 → Inv (j + 1) W') ∧ (code ≠ 0 → Fin code W')) := HD.out j hlt
      rw [← hla] at HDJ
      have HPI := Lib.hid hpi
      have HLT := Lib.hid hlt
      have HLA := Lib.hid hla
      obtain ⟨q, hq⟩ : ∃ q, q = m - at_ := ⟨_, rfl⟩
      obtain ⟨r, hr⟩ : ∃ r, r = bc - at_ := ⟨_, rfl⟩
      rw [← hq, ← hr] at hsl HPI
      have d1 : (n : Int) < (s : Int) → m = n := fun h => by omega
      have d2 : ¬ (n : Int) < (s : Int) → m = s := fun h => by omega
      have E1 := Lib.hid e1
      have W5 : Hid (wrap64 ((j : Int) + 1) = ((j + 1 : Nat) : Int)) := by clear e1; unfold wrap64; rw [Hid]; omega
      clear hb hat hib hih hat_ hs hla hm hmin hmn hpi hpc hq hr hlt hj e1
      by_cases hc : (n : Int) < (s : Int)
      · have hmm := d1 hc
        subst hmm
        clear d1 d2
        have e1 := E1.out
        go_wp2_with fail
        refine CN.out.mono ?_
        rintro e w2 ⟨nv, rfl, o2, k2⟩
        have HCALL := Lib.hid (HDJ.out w2 nv _ (HBEL.out j _ _ hI.out k2) o2.isB (HPI.out.below k2))
        clear o2 k2 CN hI HDJ HPI e1
        go_wp2_with fail
        refine HCALL.out.mono ?_
        rintro e w3 ⟨code, rfl, hc0, hc1⟩
        have HC0 := Lib.hid hc0
        have HC1 := Lib.hid hc1
        clear hc0 hc1 HCALL
        by_cases hz : code = 0
        · subst hz
          have HI := Lib.hid (HC0.out rfl)
          clear HC0 HC1
          go_wp2
          go_roundw
          case rel => exact ⟨j + 1, by rw [W5.out], HLT.out, HI⟩
          case measure =>
            have := HLT.out
            rw [W5.out]
            show k - (((j + 1 : Nat) : Int)).toNat < k - ((j : Int)).toNat
            omega
        · have q0 : ((code : Int) == 0) = false := beq_false_of_ne (by omega)
          have HF := Lib.hid (HC1.out hz)
          have HZ := Lib.hid hz
          clear HC0 HC1 hz
          go_wp2
          go_ret
          exact ⟨code, rfl, fun h => absurd h HZ.out, fun _ => HF.out⟩
      · have hmm := d2 hc
        subst hmm
        clear d1 d2
        have e1 := E1.out
        go_wp2_with fail
        refine CN.out.mono ?_
        rintro e w2 ⟨nv, rfl, o2, k2⟩
        have HCALL := Lib.hid (HDJ.out w2 nv _ (HBEL.out j _ _ hI.out k2) o2.isB (HPI.out.below k2))
        clear o2 k2 CN hI HDJ HPI e1
        go_wp2_with fail
        refine HCALL.out.mono ?_
        rintro e w3 ⟨code, rfl, hc0, hc1⟩
        have HC0 := Lib.hid hc0
        have HC1 := Lib.hid hc1
        clear hc0 hc1 HCALL
        by_cases hz : code = 0
        · subst hz
          have HI := Lib.hid (HC0.out rfl)
          clear HC0 HC1
          go_wp2
          go_roundw
          case rel => exact ⟨j + 1, by rw [W5.out], HLT.out, HI⟩
          case measure =>
            have := HLT.out
            rw [W5.out]
            show k - (((j + 1 : Nat) : Int)).toNat < k - ((j : Int)).toNat
            omega
        · have q0 : ((code : Int) == 0) = false := beq_false_of_ne (by omega)
          have HF := Lib.hid (HC1.out hz)
          have HZ := Lib.hid hz
          clear HC0 HC1 hz
          go_wp2
          go_ret
          exact ⟨code, rfl, fun h => absurd h HZ.out, fun _ => HF.out⟩
    · have b1 : ¬ (j : Int) < (k : Int) := by omega
      have HE : Hid (Inv k wz) := by
        have e : j = k := by have := hj.out; omega
        rw [Hid, ← e]; exact hI.out
      clear hlt hj hI
      go_wp2
      go_ret
      exact ⟨0, rfl, fun _ => HE.out, fun h => absurd rfl h⟩

set_option maxHeartbeats 8000000 in
theorem eachO_any (p1 p2 p3 p4 : Value) (bv hv : Value) (b h : List UInt8) (size k : Nat) (Inv : Nat → World → Prop) (Fin : Nat → World → Prop) (w : World)
    (hk : k = M.np b.length size) (h1 : 1 ≤ size) (hs : size ≤ 1099511627776) (hl : b.length ≤ 4294967000) (h12 : h.length = 12)
    (hkeep : ∀ i W, Inv i W → IsB W bv b ∧ IsB W hv h) (hbel : ∀ i W W', Inv i W → Below W.heap.size W W' → Inv i W') (h0 : Inv 0 w)
    (hD : DoesEach 47 #[p1, p2, p3, p4] ((h.drop 1).take 7) b size k Inv Fin) :
    Calls Tryd.prog 42 #[bv, .int .i64 (size : Int), .func (.func 43) #[hv] #[], .func (.func 47) #[] #[p1, p2, p3, p4]] w fun e w' =>
      ∃ code : Nat, e = .returned (.int .i64 (code : Int)) ∧ (code = 0 → Inv k w') ∧ (code ≠ 0 → Fin code w') := by
  obtain ⟨ba, bc, rfl⟩ := (hkeep 0 w h0).1.shape
  obtain ⟨n, hn⟩ : ∃ n, n = b.length := ⟨_, rfl⟩
  have HP := Lib.hid (pieces_any n size w h1 (by omega) hs)
  rw [← hn] at hk hl hkeep ⊢
  rw [← hk] at HP
  have hkb : k ≤ n + 1 := by rw [hk]; exact M.np_le _ _ h1
  have HAT : Hid (∀ i, i < k → i * size ≤ n) := fun i hi => M.np_in_le h1 (by rw [← hk]; exact hi)
  have HKEEP := Lib.hid hkeep
  have HBEL := Lib.hid hbel
  have HD := Lib.hid hD
  have H0 := Lib.hid h0
  have H12 := Lib.hid h12
  have HN := Lib.hid hn
  have HB : Hid (1 ≤ size ∧ size ≤ 1099511627776 ∧ n ≤ 4294967000 ∧ k ≤ n + 1) := ⟨h1, hs, hl, hkb⟩
  clear hk h1 hs hl h12 hkeep hbel h0 hD hkb hn
  go_enter Tryd.func42, Tryd.ntmps42
  go_wp2_with fail
  refine HP.out.mono ?_
  rintro e w1 ⟨rfl, rfl⟩
  go_wp2
  go_loopw [19] (fun i wr => ∃ j : Nat, i = .int .i64 (j : Int) ∧ Hid (j ≤ k) ∧ Hid (Inv j wr)) (fun i _ => k - (intOf i).toNat)
  case atStart => exact ⟨0, rfl, Nat.zero_le _, H0⟩
  case round =>
    obtain ⟨wz, rfl⟩ : ∃ x, x = wr := ⟨_, rfl⟩
    obtain ⟨j, rfl, hj, hI⟩ := hrel
    by_cases hlt : j < k
    · have b1 : (j : Int) < (k : Int) := by omega
      have hb := HB.out
      have hat := HAT.out j hlt
      obtain ⟨hib, hih⟩ := HKEEP.out j wz hI.out
      obtain ⟨at_, hat_⟩ : ∃ a, a = j * size := ⟨_, rfl⟩
      rw [← hat_] at hat
      have e1 : (j : Int) * (size : Int) = (at_ : Int) := by rw [hat_]; exact (Int.natCast_mul j size).symm
      obtain ⟨s, hs⟩ : ∃ s, s = at_ + size := ⟨_, rfl⟩
      have e2 : (at_ : Int) + (size : Int) = (s : Int) := by omega
      have e1w : wrap64 (at_ : Int) = (at_ : Int) := by clear e1; unfold wrap64; omega
      have e2w : wrap64 (s : Int) = (s : Int) := by clear e1; unfold wrap64; omega
      have e3 : wrap64 ((k : Int) - 1) = (k : Int) - 1 := by clear e1; unfold wrap64; omega
      obtain ⟨la, hla⟩ : ∃ l, l = decide (j + 1 = k) := ⟨_, rfl⟩
      have e4 : ((j : Int) == (k : Int) - 1) = la := by
        rw [hla]
        by_cases h : j + 1 = k
        · rw [decide_eq_true h]; simp; clear e1; omega
        · rw [decide_eq_false h]; simp; clear e1; omega
      obtain ⟨m, hm, hmin⟩ : ∃ m, at_ ≤ m ∧ m = min s n := ⟨min s n, by omega, rfl⟩
      have hmn : m ≤ n := by omega
      obtain ⟨pa, hsl, hpi⟩ := hib.sub 24 Tryd.underlying24 at_ m hm hmn
      have hpc : (b.drop at_).take (m - at_) = M.pc b size j := by
        rw [M.pc, ← hat_]
        by_cases h : s ≤ n
        · rw [show m - at_ = size by omega]
        · rw [List.take_of_length_le (by rw [List.length_drop, ← HN.out]; omega), List.take_of_length_le (by rw [List.length_drop, ← HN.out]; omega)]
      rw [hpc] at hpi
      have CN := Lib.hid (nonce_any hv h j la wz hih H12.out (by omega))
      have HDJ : Hid (∀ (W : World) (nv pv : Value), Inv j W → IsB W nv (M.nonce ((h.drop 1).take 7) j (decide (j + 1 = k))) → IsB W pv (M.pc b size j) → Calls Tryd.prog 47 #[nv, pv, p1, p2, p3, p4] W fun e W' => ∃ code : Nat, e = .returned (.int .i64 (code : Int)) ∧ (code = 0 → Inv (j + 1) W') ∧ (code ≠ 0 → Fin code W')) := HD.out j hlt
      rw [← hla] at HDJ
      have HPI := Lib.hid hpi
      have HLT := Lib.hid hlt
      have HLA := Lib.hid hla
      obtain ⟨q, hq⟩ : ∃ q, q = m - at_ := ⟨_, rfl⟩
      obtain ⟨r, hr⟩ : ∃ r, r = bc - at_ := ⟨_, rfl⟩
      rw [← hq, ← hr] at hsl HPI
      have d1 : (n : Int) < (s : Int) → m = n := fun h => by omega
      have d2 : ¬ (n : Int) < (s : Int) → m = s := fun h => by omega
      have E1 := Lib.hid e1
      have W5 : Hid (wrap64 ((j : Int) + 1) = ((j + 1 : Nat) : Int)) := by clear e1; unfold wrap64; rw [Hid]; omega
      clear hb hat hib hih hat_ hs hla hm hmin hmn hpi hpc hq hr hlt hj e1
      by_cases hc : (n : Int) < (s : Int)
      · have hmm := d1 hc
        subst hmm
        clear d1 d2
        have e1 := E1.out
        go_wp2_with fail
        refine CN.out.mono ?_
        rintro e w2 ⟨nv, rfl, o2, k2⟩
        have HCALL := Lib.hid (HDJ.out w2 nv _ (HBEL.out j _ _ hI.out k2) o2.isB (HPI.out.below k2))
        clear o2 k2 CN hI HDJ HPI e1
        go_wp2_with fail
        refine HCALL.out.mono ?_
        rintro e w3 ⟨code, rfl, hc0, hc1⟩
        have HC0 := Lib.hid hc0
        have HC1 := Lib.hid hc1
        clear hc0 hc1 HCALL
        by_cases hz : code = 0
        · subst hz
          have HI := Lib.hid (HC0.out rfl)
          clear HC0 HC1
          go_wp2
          go_roundw
          case rel => exact ⟨j + 1, by rw [W5.out], HLT.out, HI⟩
          case measure =>
            have := HLT.out
            rw [W5.out]
            show k - (((j + 1 : Nat) : Int)).toNat < k - ((j : Int)).toNat
            omega
        · have q0 : ((code : Int) == 0) = false := beq_false_of_ne (by omega)
          have HF := Lib.hid (HC1.out hz)
          have HZ := Lib.hid hz
          clear HC0 HC1 hz
          go_wp2
          go_ret
          exact ⟨code, rfl, fun h => absurd h HZ.out, fun _ => HF.out⟩
      · have hmm := d2 hc
        subst hmm
        clear d1 d2
        have e1 := E1.out
        go_wp2_with fail
        refine CN.out.mono ?_
        rintro e w2 ⟨nv, rfl, o2, k2⟩
        have HCALL := Lib.hid (HDJ.out w2 nv _ (HBEL.out j _ _ hI.out k2) o2.isB (HPI.out.below k2))
        clear o2 k2 CN hI HDJ HPI e1
        go_wp2_with fail
        refine HCALL.out.mono ?_
        rintro e w3 ⟨code, rfl, hc0, hc1⟩
        have HC0 := Lib.hid hc0
        have HC1 := Lib.hid hc1
        clear hc0 hc1 HCALL
        by_cases hz : code = 0
        · subst hz
          have HI := Lib.hid (HC0.out rfl)
          clear HC0 HC1
          go_wp2
          go_roundw
          case rel => exact ⟨j + 1, by rw [W5.out], HLT.out, HI⟩
          case measure =>
            have := HLT.out
            rw [W5.out]
            show k - (((j + 1 : Nat) : Int)).toNat < k - ((j : Int)).toNat
            omega
        · have q0 : ((code : Int) == 0) = false := beq_false_of_ne (by omega)
          have HF := Lib.hid (HC1.out hz)
          have HZ := Lib.hid hz
          clear HC0 HC1 hz
          go_wp2
          go_ret
          exact ⟨code, rfl, fun h => absurd h HZ.out, fun _ => HF.out⟩
    · have b1 : ¬ (j : Int) < (k : Int) := by omega
      have HE : Hid (Inv k wz) := by
        have e : j = k := by have := hj.out; omega
        rw [Hid, ← e]; exact hI.out
      clear hlt hj hI
      go_wp2
      go_ret
      exact ⟨0, rfl, fun _ => HE.out, fun h => absurd rfl h⟩


end Go.Proofs.YtdojalhaklkegaaDoor
