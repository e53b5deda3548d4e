/-
  CONTRACTS OF word.ofLeastFirst, word.ofGreatestFirst, Get32, Get64, GetBig32, GetBig64 and of orlopref01.Get, GetBig: the numbers of the first bytes of a row. Conditions: none but n up to 8, which is all that is asked for.
-/
import Derived.Test.YtdojalhaklkegaaDoorPtN
import Derived.WalkSpells
namespace Go.Proofs.YtdojalhaklkegaaDoor
open Go.RowKit

theorem ret_u64 {a b : Int} (h : a = b) : Ending.returned (.int .u64 a) = .returned (.int .u64 b) := by rw [h]
theorem ret_u32 {a b : Int} (h : a = b) : Ending.returned (.int .u32 a) = .returned (.int .u32 b) := by rw [h]

theorem ofLeastFirst_any (ao : Option Addr) (cap n : Nat) (bs : List UInt8) (w : World) (hn : n ≤ 8) (hl : bs.length ≤ cap) (hm : cap ≤ maxLen) (h : At w ao bs) :
    Calls Tryd.prog 83 #[.slice ao bs.length cap, .int .i64 n] w fun e w' => e = .returned (.int .u64 (M.gl bs n : Nat)) ∧ w = w' := by
  unfold maxLen at hm
  have H : Hid (At w ao bs) := h
  clear h
  by_cases hmin : n ≤ bs.length
  all_goals
    go_enter Tryd.func83, Tryd.ntmps83
    go_wp2
    go_loop [5, 11] (fun v i => ∃ k : Nat, k ≤ n ∧ k ≤ bs.length ∧ i = .int .i64 k ∧ v = .int .u64 (M.gl bs k : Nat)) (fun _ i => n - (intOf i).toNat)
    case atStart => exact ⟨0, Nat.zero_le _, Nat.zero_le _, rfl, rfl⟩
    case round =>
      obtain ⟨k, hk, hk2, rfl, rfl⟩ := hrel
      by_cases hlt : k < n ∧ k < bs.length
      · obtain ⟨h1, h2⟩ := hlt
        rcases H.out with h0 | ⟨b, off, rfl, hc0⟩
        · subst h0; simp at h2
        · have hc := hc0 k h2
          clear hc0
          obtain ⟨c, hcc⟩ : ∃ c, c = (bs.getD k 0).toNat := ⟨_, rfl⟩
          rw [← hcc] at hc
          have HC : Hid (c = (bs.getD k 0).toNat) := hcc
          clear hcc
          go_wp2
          go_round
          case rel =>
            refine ⟨k + 1, by omega, by omega, by go_num, ?_⟩
            rw [or_byte_up _ c k (M.gl_lt bs k) (by omega) (by have := (bs.getD k 0).toNat_lt; have := HC.out; omega), HC.out]
            rfl
          case measure => simp [intOf]; omega
      · go_wp2
        go_ret
        refine ⟨ret_u64 ?_, rfl⟩
        by_cases hkn : k = n
        · rw [hkn]
        · have e := M.gl_past bs k (by omega) (n - k)
          rw [show k + (n - k) = n by omega] at e
          rw [e]

theorem gb_up (bs : List UInt8) (k n : Nat) (h : k ≤ n) (hn : n ≤ 8) : M.gb bs k * 256 ^ (n - k) < 18446744073709551616 := by
  have h1 : M.gb bs k * 256 ^ (n - k) < 256 ^ k * 256 ^ (n - k) := (Nat.mul_lt_mul_right (M.pow_pos _)).2 (M.gb_lt bs k)
  rw [← Nat.pow_add, show k + (n - k) = n by omega] at h1
  have h2 : (256 : Nat) ^ n ≤ 256 ^ 8 := Nat.pow_le_pow_right (by omega) (by omega)
  have h3 : (256 : Nat) ^ 8 = 18446744073709551616 := by decide
  omega

theorem ofGreatestFirst_any (ao : Option Addr) (cap n : Nat) (bs : List UInt8) (w : World) (hn : n ≤ 8) (hl : bs.length ≤ cap) (hm : cap ≤ maxLen) (h : At w ao bs) :
    Calls Tryd.prog 98 #[.slice ao bs.length cap, .int .i64 n] w fun e w' => e = .returned (.int .u64 (M.gb bs n : Nat)) ∧ w = w' := by
  unfold maxLen at hm
  have H : Hid (At w ao bs) := h
  clear h
  by_cases hmin : n ≤ bs.length
  all_goals
    go_enter Tryd.func98, Tryd.ntmps98
    go_wp2
    go_loop [5, 11] (fun v i => ∃ k : Nat, k ≤ n ∧ k ≤ bs.length ∧ i = .int .i64 k ∧ v = .int .u64 (M.gb bs k * 256 ^ (n - k) : Nat)) (fun _ i => n - (intOf i).toNat)
    case atStart => exact ⟨0, Nat.zero_le _, Nat.zero_le _, rfl, by simp [M.gb]⟩
    case round =>
      obtain ⟨k, hk, hk2, rfl, rfl⟩ := hrel
      by_cases hlt : k < n ∧ k < bs.length
      · obtain ⟨h1, h2⟩ := hlt
        rcases H.out with h0 | ⟨b, off, rfl, hc0⟩
        · subst h0; simp at h2
        · have hc := hc0 k h2
          clear hc0
          obtain ⟨c, hcc⟩ : ∃ c, c = (bs.getD k 0).toNat := ⟨_, rfl⟩
          rw [← hcc] at hc
          have HC : Hid (c = (bs.getD k 0).toNat) := hcc
          clear hcc
          obtain ⟨g, hg⟩ : ∃ g, g = M.gb bs k * 256 ^ (n - k) := ⟨_, rfl⟩
          rw [← hg]
          have HG : Hid (g = M.gb bs k * 256 ^ (n - k)) := hg
          clear hg
          go_wp2
          go_round
          case rel =>
            refine ⟨k + 1, by omega, by omega, by go_num, ?_⟩
            have e := HG.out
            have hb := gb_up bs k n hk hn
            rw [show n - k = n - 1 - k + 1 by omega] at e hb
            rw [e, or_byte_down _ c (n - 1 - k) hb (by omega) (by have := (bs.getD k 0).toNat_lt; have := HC.out; omega), HC.out]
            rw [show n - (k + 1) = n - 1 - k by omega]
            rfl
          case measure => simp [intOf]; omega
      · go_wp2
        go_ret
        refine ⟨ret_u64 ?_, rfl⟩
        by_cases hkn : k = n
        · rw [hkn]; simp
        · have e := M.gb_past bs k (by omega) (n - k)
          rw [show k + (n - k) = n by omega] at e
          rw [e]
          simp

theorem get32_any (v : Value) (bs : List UInt8) (w : World) (h : IsB w v bs) :
    Calls Tryd.prog 73 #[v] w fun e w' => e = .returned (.int .u32 (M.gl bs 4 : Nat)) ∧ w = w' := by
  obtain ⟨ao, cap, rfl, h1, h2, h3⟩ := h
  go_enter Tryd.func73, Tryd.ntmps73
  go_wp2_with (go_at_call 83; go_must (refine (ofLeastFirst_any ao cap 4 bs _ (by omega) h1 h2 h3).mono ?_); rintro e w1 ⟨rfl, rfl⟩)
  go_ret
  refine ⟨ret_u32 ?_, rfl⟩
  have := M.gl_lt bs 4
  omega

theorem getBig32_any (v : Value) (bs : List UInt8) (w : World) (h : IsB w v bs) :
    Calls Tryd.prog 70 #[v] w fun e w' => e = .returned (.int .u32 (M.gb bs 4 : Nat)) ∧ w = w' := by
  obtain ⟨ao, cap, rfl, h1, h2, h3⟩ := h
  go_enter Tryd.func70, Tryd.ntmps70
  go_wp2_with (go_at_call 98; go_must (refine (ofGreatestFirst_any ao cap 4 bs _ (by omega) h1 h2 h3).mono ?_); rintro e w1 ⟨rfl, rfl⟩)
  go_ret
  refine ⟨ret_u32 ?_, rfl⟩
  have := M.gb_lt bs 4
  omega

theorem get64_any (v : Value) (bs : List UInt8) (w : World) (h : IsB w v bs) :
    Calls Tryd.prog 58 #[v] w fun e w' => e = .returned (.int .u64 (M.gl bs 8 : Nat)) ∧ w = w' := by
  obtain ⟨ao, cap, rfl, h1, h2, h3⟩ := h
  go_enter Tryd.func58, Tryd.ntmps58
  go_wp2_with (go_at_call 83; go_must (refine (ofLeastFirst_any ao cap 8 bs _ (by omega) h1 h2 h3).mono ?_); rintro e w1 ⟨rfl, rfl⟩)
  go_ret
  exact ⟨rfl, rfl⟩

end Go.Proofs.YtdojalhaklkegaaDoor
