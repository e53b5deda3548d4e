/-
  CONTRACT OF b64.read: the bytes that a row of letters tells, whatever they are. Conditions: texts of up to 2^40 bytes.
-/
import Derived.Test.YtmheaefpbebgfaaDoorB64Lib
import Derived.Test.YtmheaefpbebgfaaDoorB64Four
import Derived.WalkSpells
import Derived.Lib.Hide
namespace Go.Proofs.YtmheaefpbebgfaaDoor
open Go.RowKit
set_option linter.unusedVariables false
set_option maxRecDepth 100000

theorem M.index_hit : ∀ (l : List UInt8) (c : UInt8) (k : Nat), k < l.length → l[k]? = some c → (∀ j, j < k → l[j]? ≠ some c) → Lib.indexByte l c = (k : Int)
  | [], c, k, h, _, _ => by simp at h
  | b :: l, c, 0, _, h, _ => by
    simp at h
    rw [Lib.indexByte, if_pos (by simp [h])]
    simp
  | b :: l, c, k + 1, h, h1, h2 => by
    have hb : b ≠ c := fun e => h2 0 (by omega) (by simp [e])
    have ih := M.index_hit l c k (by simpa using h) (by simpa using h1) (fun j hj => by have := h2 (j + 1) (by omega); simpa using this)
    rw [Lib.indexByte, if_neg (by simpa using hb), ih, if_neg (by
      intro e
      have := eq_of_beq e
      omega)]
    omega

theorem M.index_miss : ∀ (l : List UInt8) (c : UInt8), c ∉ l → Lib.indexByte l c = -1
  | [], c, _ => rfl
  | b :: l, c, h => by
    have hb : b ≠ c := fun e => h (by simp [e])
    rw [Lib.indexByte, if_neg (by simpa using hb), M.index_miss l c (fun hc => h (by simp [hc]))]
    rfl

theorem M.row_get (k : Nat) (h : k < 64) : M.row64[k]? = some (M.let64 k) := by
  rw [List.getElem?_eq_getElem (by exact h)]
  exact congrArg some (M.row_let ⟨k, h⟩)

theorem M.row_max (c : UInt8) : max (Lib.indexByte M.row64 c) 0 = (M.valT c : Int) := by
  rw [M.valT]
  cases hv : M.val64 c with
  | some k =>
    obtain ⟨h1, h2⟩ := M.val_some hv
    rw [M.index_hit M.row64 c k h1 (by rw [M.row_get k h1, h2]) (fun j hj e => by
      rw [M.row_get j (by omega)] at e
      injection e with e
      have := M.let64_inj j (by omega) k h1 (by rw [e, h2])
      omega)]
    show max (k : Int) 0 = (k : Int)
    omega
  | none =>
    have h := M.val_none hv
    rw [M.index_miss M.row64 c (fun hc => by
      obtain ⟨k, hk, e⟩ := List.mem_iff_getElem.1 hc
      have hk2 : k < 64 := hk
      exact h k hk2 ((M.row_let ⟨k, hk2⟩).symm.trans e))]
    rfl

theorem or64 (v x : Nat) (h : v * 64 + x < 18446744073709551616) (hx : x < 64) : bits BinOp.or .u64 ((v : Int) * 64) (x : Int) = ((v * 64 + x : Nat) : Int) := by
  rw [show (v : Int) * 64 = ((v * 64 : Nat) : Int) by omega, u64_or_nat _ _ (by omega) (by omega)]
  have e : v * 64 ||| x = v * 64 + x := by
    have := Nat.shiftLeft_add_eq_or_of_lt (b := x) (i := 6) (by omega) v
    rw [Nat.shiftLeft_eq] at this
    exact this.symm
  rw [e]

theorem wrap_less (k : Nat) (h : k < 8) : wrap64 (((k + 2 : Nat) : Int) + 6 - 8) = (k : Int) := by unfold wrap64; omega

theorem one_up (k : Nat) (h : k < 8) : IntKind.u64.wrap (2 ^ k) - 1 = ((2 ^ k - 1 : Nat) : Int) := by
  have e : (2 : Int) ^ k = ((2 ^ k : Nat) : Int) := by simp
  have h2 : 2 ^ k ≤ 2 ^ 7 := Nat.pow_le_pow_right (by decide) (by omega)
  have h3 : 0 < 2 ^ k := Nat.pow_pos (by decide)
  rw [e, wraps_u64 _ (by omega) (by omega)]
  omega

theorem one_low (k : Nat) (h : k < 8) : IntKind.u64.wrap ((2 ^ k - 1 : Nat) : Int) = ((2 ^ k - 1 : Nat) : Int) := by
  have h2 : 2 ^ k ≤ 2 ^ 7 := Nat.pow_le_pow_right (by decide) (by omega)
  exact wraps_u64 _ (by omega) (by omega)

theorem and_low (v t : Nat) (h : v < 18446744073709551616) (ht : t < 8) : bits BinOp.and .u64 (v : Int) (((2 ^ t - 1 : Nat)) : Int) = ((v % 2 ^ t : Nat) : Int) := by
  have h2 : 2 ^ t ≤ 2 ^ 7 := Nat.pow_le_pow_right (by decide) (by omega)
  rw [u64_and_nat _ _ h (by omega), Nat.and_two_pow_sub_one_eq_mod]

theorem read_index (c : UInt8) (w : World) :
    Calls Tryd.prog 25 #[.string ⟨#[65, 66, 67, 68, 69, 70, 71, 72, 73, 74, 75, 76, 77, 78, 79, 80, 81, 82, 83, 84, 85, 86, 87, 88, 89, 90, 97, 98, 99, 100, 101, 102, 103, 104, 105, 106, 107, 108, 109, 110, 111, 112, 113, 114, 115, 116, 117, 118, 119, 120, 121, 122, 48, 49, 50, 51, 52, 53, 54, 55, 56, 57, 43, 47]⟩, .int .u8 (c.toNat : Int)] w fun e w' => e = .returned (.int .i64 (Lib.indexByte M.row64 c)) ∧ w' = w := by
  refine (bindex_any _ _ w).mono ?_
  rintro e w' ⟨rfl, rfl⟩
  have e1 : ((c.toNat : Int).toNat.toUInt8) = c := by simp
  rw [e1]
  exact ⟨rfl, rfl⟩

set_option maxHeartbeats 4000000 in
theorem read64_any (l : List UInt8) (w : World) (hl : l.length ≤ 1099511627776) :
    Calls Tryd.prog 18 #[.string ⟨l.toArray⟩] w fun e w' => ∃ r, e = .returned r ∧ Own w' w.heap.size r (M.rdAll l).o ∧ Below w.heap.size w w' := by
  have HL := Lib.hid hl
  obtain ⟨n, hn⟩ : ∃ n, n = l.length := ⟨_, rfl⟩
  obtain ⟨s, hs⟩ : ∃ s : ByteArray, s = ⟨l.toArray⟩ := ⟨_, rfl⟩
  have hsz : s.size = n := by rw [hs, hn]; rfl
  have HS := Lib.hid hs
  have HN := Lib.hid hn
  rw [← hs]
  rw [← hn] at HL
  obtain ⟨m, hm⟩ : ∃ m, m = n / 4 * 3 + 3 := ⟨_, rfl⟩
  have hmi : (n : Int) / 4 * 3 + 3 = (m : Int) := by omega
  have HM : Hid (m ≤ 1099511627776) := by rw [Hid]; have := HL.out; omega
  have hnb : (n : Int) ≤ 1099511627776 := by have := HL.out; omega
  clear hl hs hn hm
  go_enter Tryd.func18, Tryd.ntmps18
  go_wp2_with (refine wpList_make_cap _ rfl _ _ rfl .i64 .i64 0 _ 0 m rfl rfl rfl (by first | exact hmi | rfl) (Nat.zero_le _) (by have := HM.out; omega) ?_)
  intro w1 ho1 kk1
  have HO1 := Lib.hid ho1
  have K1 := Lib.hid kk1
  clear ho1 kk1 hmi
  go_wp2
  go_loopw [3, 4, 5, 6, 15] (fun o v k i c wr => ∃ (t vv kk : Nat), v = .int .u64 (vv : Int) ∧ k = .int .i64 (kk : Int) ∧ c = .int .i64 (t : Int) ∧ Hid (t ≤ n) ∧ Hid (vv = (M.rdAll (l.take t)).v) ∧ Hid (kk = (M.rdAll (l.take t)).k) ∧ Hid (Own wr w.heap.size o (M.rdAll (l.take t)).o) ∧ Hid (Below w.heap.size w wr))
    (fun _ _ _ _ c _ => n - (intOf c).toNat)
  case atStart => exact ⟨0, 0, 0, rfl, rfl, rfl, Nat.zero_le _, rfl, rfl, HO1.out, K1.out⟩
  case round =>
    clear HO1 K1
    obtain ⟨wz, rfl⟩ : ∃ x, x = wr := ⟨_, rfl⟩
    obtain ⟨t, vv, kk, rfl, rfl, rfl, ht, hv, hk, ho, kb⟩ := hrel
    by_cases hlt : t < n
    · obtain ⟨S, hS⟩ : ∃ S, S = M.rdAll (l.take t) := ⟨_, rfl⟩
      have hok : M.RdOk S t := by
        have h := M.rdAll_ok (l.take t)
        rw [List.length_take, Nat.min_eq_left (by rw [← HN.out]; omega), ← hS] at h
        exact h
      rw [← hS] at hv hk ho
      obtain ⟨c, hc⟩ : ∃ c, c = l.getD t 0 := ⟨_, rfl⟩
      have htl : t < l.length := by rw [← HN.out]; exact hlt
      have hlc : l[t]? = some c := by rw [hc, List.getD_eq_getElem?_getD, List.getElem?_eq_getElem htl]; rfl
      have HNX : Hid (M.rdAll (l.take (t + 1)) = M.rdN S (M.valT c)) := by
        rw [Hid, List.take_succ_eq_append_getElem htl, M.rdAll_snoc, ← hS]
        congr 2
        rw [List.getElem?_eq_getElem htl] at hlc
        exact Option.some.inj hlc
      have hst : t < s.size := by rw [hsz]; exact hlt
      have hsc : s[t]'hst = c := by
        have h0 := HS.out
        subst h0
        show (l.toArray)[t]'_ = c
        rw [List.getElem?_eq_getElem htl] at hlc
        simpa using Option.some.inj hlc
      have HOK := Lib.hid hok
      have HLT := Lib.hid hlt
      have b1 : (t : Int) < (n : Int) := by omega
      obtain ⟨z, hz⟩ : ∃ z, z = Lib.indexByte M.row64 c := ⟨_, rfl⟩
      obtain ⟨x, hx⟩ : ∃ x, x = M.valT c := ⟨_, rfl⟩
      have hx64 : x < 64 := by rw [hx]; exact M.valT_lt c
      have hmax := M.row_max c
      have CI := Lib.hid (read_index c wz)
      rw [← hz, ← hx] at hmax
      rw [← hz] at CI
      rw [← hx] at HNX
      have hv14 : vv < 256 := by
        have h := hok.1
        rw [← hv.out, ← hk.out] at h
        have h2 : kk < 8 := by rw [hk.out]; exact hok.2.1
        have : 2 ^ kk ≤ 2 ^ 7 := Nat.pow_le_pow_right (by decide) (by omega)
        omega
      have hkk8 : kk < 8 := by rw [hk.out]; exact hok.2.1
      obtain ⟨y, hy⟩ : ∃ y, y = vv * 64 + x := ⟨_, rfl⟩
      have hxw : IntKind.u64.wrap (x : Int) = (x : Int) := wraps_u64 _ (by omega) (by omega)
      have hor := or64 vv x (by omega) hx64
      rw [← hy] at hor
      have HY := Lib.hid hy
      have HY2 : Hid (y < 16384) := by rw [Hid]; omega
      clear hok hS hc htl hlc hlt hz hx hy
      go_wp2_with fail
      refine CI.out.mono ?_
      rintro e w2 ⟨rfl, rfl⟩
      clear CI
      by_cases h8 : 8 ≤ kk + 6
      · obtain ⟨k2, hk2⟩ : ∃ q, q = kk - 2 := ⟨_, rfl⟩
        have hkk : kk = k2 + 2 := by omega
        have hk28 : k2 < 8 := by omega
        have h81 : (8 : Int) ≤ ((kk : Nat) : Int) + 6 := by omega
        have hy14 : y < 18446744073709551616 := Nat.lt_trans HY2.out (by decide)
        have hone : IntKind.u64.wrap (2 ^ k2) - 1 = ((2 ^ k2 - 1 : Nat) : Int) := one_up k2 hk28
        have hand := and_low y k2 hy14 hk28
        obtain ⟨q, hq⟩ : ∃ q, q = y / 2 ^ k2 := ⟨_, rfl⟩
        obtain ⟨r, hr⟩ : ∃ r, r = y % 2 ^ k2 := ⟨_, rfl⟩
        have hsh2 : (y : Int) / 2 ^ k2 = (q : Int) := by rw [hq]; simp
        rw [← hr] at hand
        have HST : Hid (M.rdN S x = ⟨r, k2, S.o ++ [UInt8.ofNat q]⟩) := by
          rw [Hid, M.rdN, if_pos (by rw [← hk.out]; exact h8), ← hk.out, hkk, show k2 + 2 + 6 - 8 = k2 from rfl, ← hv.out, ← HY.out, ← hq, ← hr]
        have HKK := Lib.hid hkk
        have hk2i : (kk : Int) + 6 - 8 = (k2 : Int) := by rw [hkk]; omega
        have HS2 := Lib.hid hsh2
        have H1 := Lib.hid hone
        have HA := Lib.hid hand
        clear hq hr hk2 hkk hsh2 hone hand
        go_upto_region 11 with fail
        have hsh2 := HS2.out
        have HQ8 : Hid ((UInt8.ofNat q).toNat = q % 256) := by rw [Hid, UInt8.toNat_ofNat']
        obtain ⟨cq, hcq⟩ : ∃ x, x = UInt8.ofNat q := ⟨_, rfl⟩
        rw [← hcq] at HQ8 HST
        have hqm : (q : Int) % 256 = (cq.toNat : Int) := by rw [HQ8.out]; omega
        have HSL : Hid (S.o.length ≤ 1099511627776) := by
          have h1 := HOK.out.2.2.2
          have h2 := HL.out
          have h3 := HLT.out
          rw [Hid]
          clear hsh2 hqm
          omega
        clear hcq
        go_upto_region 12 with (refine wpList_app _ rfl _ _ rfl w.heap.size _ S.o rfl (ho.out.below ((Below.refl _ _).alloc (Nat.le_refl _) _)) _ [cq] rfl (isB_one _ _ cq _ rfl) (fun _ _ e => by cases e) (by have := HSL.out; simp; omega) (Nat.le_trans kb.out.size (by simp)) ?_; intro v' w4 hown4 k4 _)
        have HO4 := Lib.hid hown4
        have K4 : Hid (Below w.heap.size w w4) := (kb.out.alloc kb.out.size _).trans k4
        clear hown4 k4 hsh2 hqm ho kb
        have hone := H1.out
        have hand := HA.out
        have hone2 : IntKind.u64.wrap ((2 ^ k2 - 1 : Nat) : Int) = ((2 ^ k2 - 1 : Nat) : Int) := one_low k2 hk28
        clear HS2 H1 HA hmax hor
        go_wp2
        refine ⟨⟨t + 1, r, k2, rfl, rfl, by go_num, HLT.out, ?_, ?_, ?_, K4⟩, by simp [intOf]; have := HLT.out; omega⟩
        · rw [Hid, HNX.out, HST.out]
        · rw [Hid, HNX.out, HST.out]
        · rw [Hid, HNX.out, HST.out]; exact HO4.out
      · have hk0 : kk = 0 := by have := HOK.out.2.2.1; rw [← hk.out] at this; omega
        have b8 : ¬ (8 : Int) ≤ (kk : Int) + 6 := by omega
        have HST : Hid (M.rdN S x = ⟨y, kk + 6, S.o⟩) := by
          rw [Hid, M.rdN, if_neg (by rw [← hk.out]; exact h8), ← hk.out, ← hv.out, ← HY.out]
        clear h8 hk0
        go_wp2
        refine ⟨⟨t + 1, y, kk + 6, rfl, by go_num, by go_num, HLT.out, ?_, ?_, ?_, kb⟩, by simp [intOf]; have := HLT.out; omega⟩
        · rw [Hid, HNX.out, HST.out]
        · rw [Hid, HNX.out, HST.out]
        · rw [Hid, HNX.out, HST.out]; exact ho.out
    · have b1 : ¬ (t : Int) < (n : Int) := by omega
      have htn : t = n := by have := ht.out; omega
      have hlt2 : l.take t = l := by rw [htn, HN.out, List.take_length]
      rw [hlt2] at ho
      clear hlt htn hlt2
      go_wp2
      go_ret
      exact ⟨_, rfl, ho.out, kb.out⟩

end Go.Proofs.YtmheaefpbebgfaaDoor
