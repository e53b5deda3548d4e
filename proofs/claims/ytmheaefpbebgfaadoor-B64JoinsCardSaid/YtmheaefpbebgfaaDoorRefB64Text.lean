/-
  CONTRACT OF orlopref14.Text. Conditions: bytes of up to 2^40.
-/
import Derived.Test.YtmheaefpbebgfaaDoorRefB64
import Derived.Deep.Cut
namespace Go.Proofs.YtmheaefpbebgfaaDoor
open Go.RowKit
set_option linter.unusedVariables false
set_option maxRecDepth 100000

def padOf64 : Value → Nat
  | .string s => (4 - s.size % 4) % 4
  | _ => 0

theorem mod8_nat (q : Nat) : (q : Int) % 8 = ((q % 8 : Nat) : Int) := by omega

set_option maxHeartbeats 600000 in
theorem rtext_any (bv : Value) (b : List UInt8) (w : World) (hb : IsB w bv b) (hlen : b.length ≤ 1099511627776) :
    Calls Tryd.prog 10 #[bv] w fun e w' => e = .returned (.string ⟨(M.enc64 b).toArray⟩) ∧ Below w.heap.size w w' := by
  obtain ⟨bo, bc, hbs⟩ : ∃ a c, bv = .slice a b.length c := by obtain ⟨a, c, e, _⟩ := hb; exact ⟨a, c, e⟩
  subst hbs
  obtain ⟨n, hn⟩ : ∃ n, n = b.length := ⟨_, rfl⟩
  have HENC := Lib.hid (M.text_enc b)
  rw [← hn] at hb hlen HENC ⊢
  have HN : Hid (b.length = n) := hn.symm
  have HB := Lib.hid hb
  have HLEN := Lib.hid hlen
  obtain ⟨T, hT⟩ : ∃ T, T = M.num64 n := ⟨_, rfl⟩
  have HT : Hid (∀ t : Nat, 6 * t < 8 * n ↔ t < T) := fun t => by rw [hT]; exact M.num64_iff n t
  have HTL : Hid (T ≤ 1466015503704) := by rw [Hid, hT, M.num64]; omega
  rw [← hT] at HENC
  clear hb hlen hn hT
  go_enter Tryd.func10, Tryd.ntmps10
  go_wp2
  go_loopw [3, 4] (fun s iv wr => ∃ t i : Nat, s = .string ⟨(M.text64 b t).toArray⟩ ∧ iv = .int .i64 (i : Int) ∧ Hid (i = 6 * t) ∧ Hid (t ≤ T) ∧ Hid (Below w.heap.size w wr))
    (fun _ i _ => 6 * T - natOf i)
  case atStart => exact ⟨0, 0, rfl, rfl, rfl, Nat.zero_le _, Below.refl _ _⟩
  case round =>
    obtain ⟨wz, rfl⟩ : ∃ x, x = wr := ⟨_, rfl⟩
    obtain ⟨t, i, rfl, rfl, HI, ht, kk⟩ := hrel
    obtain ⟨n8, hn8⟩ : ∃ q, q = 8 * n := ⟨_, rfl⟩
    have w0 : wrap64 (8 * (n : Int)) = (n8 : Int) := by unfold wrap64; have := HLEN.out; omega
    by_cases hlt : t < T
    · have b1 : (i : Int) < (n8 : Int) := by have := (HT.out t).2 hlt; have := HI.out; omega
      have HLT := Lib.hid hlt
      have HIL : Hid (i < 8 * n) := by rw [Hid]; omega
      obtain ⟨i6, hi6⟩ : ∃ q, q = i + 6 := ⟨_, rfl⟩
      have HI6 := Lib.hid hi6
      have w1 : wrap64 ((i : Int) + 6) = (i6 : Int) := by unfold wrap64; have := HLEN.out; have := HIL.out; omega
      clear hlt hn8 hi6
      go_wp2
      go_loopw [5, 6] (fun v k wr => ∃ m q sx : Nat, v = .int .i64 (sx : Int) ∧ k = .int .i64 (q : Int) ∧ Hid (sx = M.six64 b i m) ∧ Hid (q = i + m) ∧ Hid (m ≤ 6) ∧ Hid (Below w.heap.size w wr))
        (fun _ k _ => i + 6 - natOf k)
      case atStart => exact ⟨0, i, 0, rfl, rfl, rfl, rfl, Nat.zero_le _, by first | exact kk | exact kk.out.drew⟩
      case round =>
        obtain ⟨wy, rfl⟩ : ∃ x, x = wr := ⟨_, rfl⟩
        obtain ⟨m, q, sx, rfl, rfl, HSX, HQ, hm, kk⟩ := hrel
        by_cases h6 : m < 6
        · have b2 : (q : Int) < (i6 : Int) := by have := HQ.out; have := HI6.out; omega
          have hsl := M.six64_lt b i m
          have hs2 : sx < 64 := by
            rw [HSX.out]
            have : 2 ^ m ≤ 2 ^ 6 := Nat.pow_le_pow_right (by decide) (by omega)
            omega
          have HNX : Hid (M.six64 b i (m + 1) = sx * 2 + M.bit64 b q) := by rw [HSX.out, HQ.out]; rfl
          have HM6 := Lib.hid h6
          have hql : q < 8 * n + 6 := by have := HIL.out; have := HQ.out; omega
          have hqs : q < 9223372036854775000 := by have := HLEN.out; omega
          obtain ⟨p, hp⟩ : ∃ p, p = q / 8 := ⟨_, rfl⟩
          obtain ⟨z, hz⟩ : ∃ z, z = q % 8 := ⟨_, rfl⟩
          have hz8 : z < 8 := by rw [hz]; exact Nat.mod_lt _ (by decide)
          have hqi : (q : Int) < 9223372036854775000 := by omega
          have hsxi : (sx : Int) < 64 := by omega
          have HP := Lib.hid hp
          have HZ := Lib.hid hz
          clear hp hz hql hqs hsl h6 hs2
          by_cases hin : p < n
          · go_upto_region 10 with fail
            have hpi : (q : Int) / 8 = (p : Int) := by rw [HP.out]; rfl
            have b3 : (p : Int) < (n : Int) := Int.ofNat_lt.2 hin
            clear w0 w1 b1 b2 hin
            go_upto_region 11 with fail
            have hin : p < n := Int.ofNat_lt.1 b3
            obtain ⟨_, _, e, _, _, hat⟩ := HB.out.below kk.out
            injection e with e _ _
            subst e
            rcases hat with hat | ⟨bb, off, rfl, hcs⟩
            · exact absurd (HN.out.symm.trans (by rw [hat]; rfl)) (Nat.ne_of_gt (Nat.lt_of_le_of_lt (Nat.zero_le _) hin))
            have c1 := hcs p (by rw [HN.out]; exact hin)
            obtain ⟨x, hx⟩ : ∃ x, x = (b.getD p 0).toNat := ⟨_, rfl⟩
            have hx8 : x < 256 := by rw [hx]; exact UInt8.toNat_lt _
            have HBIT : Hid (M.bit64 b q = x / 2 ^ (7 - z) % 2) := by rw [Hid, M.bit64, ← HP.out, ← HZ.out, if_pos (by rw [HN.out]; exact hin), hx]
            rw [← hx] at c1
            have hzi : (q : Int) % 8 = (z : Int) := by rw [HZ.out]; rfl
            have hzl : (z : Int) < 8 := Int.ofNat_lt.2 hz8
            have hxl : (x : Int) < 256 := Int.ofNat_lt.2 hx8
            obtain ⟨bt, hbt⟩ : ∃ x2, x2 = x / 2 ^ (7 - z) % 2 := ⟨_, rfl⟩
            have hbl : bt < 2 := by rw [hbt]; exact Nat.mod_lt _ (by decide)
            have hbli : (bt : Int) < 2 := Int.ofNat_lt.2 hbl
            have hbi : ((x : Int) / 2 ^ (7 - z)).tmod 2 = (bt : Int) := by
              have e : (x : Int) / 2 ^ (7 - z) = ((x / 2 ^ (7 - z) : Nat) : Int) := by simp
              rw [e, hbt]
              rfl
            rw [← hbt] at HBIT
            have HBI := Lib.hid hbi
            clear hcs hx hin hz8 hx8 hbt hbl hbi
            go_upto_region 8 with fail
            rw [HBI.out]
            clear HBI hzi hpi hzl hxl c1 b3
            have w9 : wrap64 ((sx : Int) * 2 + (bt : Int)) = ((sx * 2 + bt : Nat) : Int) := by unfold wrap64; omega
            go_wp2
            go_roundw
            case rel =>
              refine ⟨m + 1, q + 1, sx * 2 + bt, by first | rfl | (rw [w9]) | (congr 1), by go_num, ?_, ?_, HM6.out, by first | exact kk | exact kk.out.drew⟩
              · rw [Hid, HNX.out, HBIT.out]
              · rw [Hid, HQ.out]; omega
            case measure =>
              have h1 := HM6.out
              have h2 := HQ.out
              show i + 6 - _ < i + 6 - ((q : Int)).toNat
              simp only [natOf]
              clear w9 hqi hsxi
              omega
          · go_upto_region 10 with fail
            have hpi : (q : Int) / 8 = (p : Int) := by rw [HP.out]; rfl
            have b3 : ¬ (p : Int) < (n : Int) := fun h => hin (Int.ofNat_lt.1 h)
            have HBIT : Hid (M.bit64 b q = 0) := by rw [Hid, M.bit64, ← HP.out, if_neg (by rw [HN.out]; exact hin)]
            clear w0 w1 b1 b2 hin
            go_upto_region 8 with fail
            clear hpi b3
            go_wp2
            go_roundw
            case rel =>
              refine ⟨m + 1, q + 1, sx * 2, by go_num, by go_num, ?_, ?_, HM6.out, by first | exact kk | exact kk.out.drew⟩
              · rw [Hid, HNX.out, HBIT.out, Nat.add_zero]
              · rw [Hid, HQ.out]; omega
            case measure =>
              have h1 := HM6.out
              have h2 := HQ.out
              show i + 6 - _ < i + 6 - ((q : Int)).toNat
              simp only [natOf]
              clear hqi hsxi
              omega
        · have b2 : ¬ (q : Int) < (i6 : Int) := by have := HQ.out; have := HI6.out; omega
          obtain rfl : m = 6 := by have := hm.out; omega
          clear h6
          have CL := Lib.hid (rletter_any sx (by rw [HSX.out]; exact M.six64_lt b i 6) wy)
          go_wp2_with fail
          refine CL.out.mono ?_
          rintro e wl ⟨rfl, kl⟩
          have KL : Hid (Below w.heap.size w wl) := kk.out.trans (kl.mono kk.out.size)
          have HST : Hid ((⟨(M.text64 b t).toArray⟩ : ByteArray) ++ ⟨#[M.let64 sx]⟩ = ⟨(M.text64 b (t + 1)).toArray⟩) := by rw [Hid, str_snoc, M.text64_next, ← HI.out, HSX.out]
          clear CL kl kk
          go_wp2
          case isTrue h => exact absurd h (by rw [M.text64_len]; have := ht.out; have := HTL.out; omega)
          go_roundw
          case rel => exact ⟨t + 1, i6, by first | rw [HST.out] | rfl, by first | rfl | rw [w1], by rw [Hid, HI6.out, HI.out]; omega, HLT.out, KL⟩
          case measure =>
            have := HLT.out
            have := HI.out
            have := HI6.out
            try rw [w1]
            show 6 * T - ((i6 : Int)).toNat < 6 * T - ((i : Int)).toNat
            omega
    · have b1 : ¬ (i : Int) < (n8 : Int) := by have := mt (HT.out t).1 hlt; have := HI.out; omega
      obtain rfl : T = t := by have := ht.out; omega
      have HPD : Hid (∀ j, j ≤ M.pad64 T → ((T + j) % 4 = 0 ↔ j = M.pad64 T)) := fun j hj => by rw [M.pad64] at hj ⊢; omega
      clear hlt hn8
      go_wp2
      go_loopw [3] (fun s wr => ∃ (j : Nat) (S : ByteArray), s = .string S ∧ Hid (S = ⟨(M.text64 b T ++ List.replicate j 61).toArray⟩) ∧ Hid (j ≤ M.pad64 T) ∧ Hid (Below w.heap.size w wr))
        (fun s _ => padOf64 s)
      case atStart => exact ⟨0, _, rfl, by rw [Hid, List.replicate_zero, List.append_nil], Nat.zero_le _, kk.out⟩
      case round =>
        obtain ⟨wy, rfl⟩ : ∃ x, x = wr := ⟨_, rfl⟩
        obtain ⟨j, S, rfl, hS, hj, kk⟩ := hrel
        have hsz : S.size = T + j := by
          rw [hS.out]
          show ((M.text64 b T ++ List.replicate j 61).toArray).size = _
          simp [M.text64_len]
        obtain ⟨r, hr⟩ : ∃ r, r = (T + j) % 4 := ⟨_, rfl⟩
        have hri : ((T + j : Nat) : Int) % 4 = (r : Int) := by rw [hr]; rfl
        have HTL2 : Hid (T + j ≤ 1466015503710) := by
          have h1 := hj.out
          have h2 := HTL.out
          rw [M.pad64] at h1
          rw [Hid]
          omega
        obtain ⟨q, hq⟩ : ∃ q, q = T + j := ⟨_, rfl⟩
        rw [← hq] at hsz hri HTL2
        have HR : Hid (r = (T + j) % 4) := hr
        have HQ : Hid (q = T + j) := hq
        clear hr hq
        by_cases h0 : r = 0
        · have b4 : (r : Int) = 0 := by omega
          have HF : Hid (S = ⟨(M.enc64 b).toArray⟩) := by
            have := (HPD.out j hj.out).1 (by rw [← HR.out]; exact h0)
            rw [Hid, hS.out, this, HENC.out]
          clear h0
          go_wp2
          go_ret
          exact ⟨by rw [← HF.out]; rfl, kk.out⟩
        · have b4 : ¬ (r : Int) = 0 := by omega
          have HJ : Hid (j + 1 ≤ M.pad64 T) := by
            have h1 := hj.out
            have h2 : ¬ j = M.pad64 T := fun e => h0 (by rw [HR.out]; exact (HPD.out j h1).2 e)
            rw [Hid]
            omega
          have HX : Hid (S ++ (⟨#[61]⟩ : ByteArray) = ⟨(M.text64 b T ++ List.replicate (j + 1) 61).toArray⟩) := by
            rw [Hid, hS.out, str_snoc, List.replicate_succ', List.append_assoc]
          have HSZ := Lib.hid hsz
          clear h0
          go_wp2
          case isTrue h => exact absurd h (by have := HTL2.out; clear hri; omega)
          refine ⟨⟨j + 1, _, rfl, HX, HJ, kk⟩, ?_⟩
          have e : (S ++ (⟨#[61]⟩ : ByteArray)).size = T + j + 1 := by
            rw [ByteArray.size_append, HSZ.out, HQ.out]
            rfl
          have h0 := HR.out
          show (4 - (S ++ (⟨#[61]⟩ : ByteArray)).size % 4) % 4 < (4 - S.size % 4) % 4
          rw [e, HSZ.out, HQ.out]
          clear hri
          omega

end Go.Proofs.YtmheaefpbebgfaaDoor
