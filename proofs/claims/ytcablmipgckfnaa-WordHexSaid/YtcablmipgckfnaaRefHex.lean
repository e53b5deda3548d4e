/-
  CONTRACTS OF orlopref01.digit, Unhex, Hex: the document's own answers on digits. Conditions: texts and rows of up to 2^40 bytes.
-/
import Derived.Test.YtcablmipgckfnaaHexA
import Derived.Deep.QuietTactic
import Derived.BigQuiet
namespace Go.Proofs.Ytcablmipgckfnaa
open Go.RowKit

theorem ret_i64 {a b : Int} (h : a = b) : Ending.returned (.int .i64 a) = .returned (.int .i64 b) := by rw [h]

theorem digit_any (c : UInt8) (n : Nat) (w : World) (h : M.val c = n) :
    Calls Try.prog 33 #[.int .u8 (c.toNat : Int)] w fun e w' => e = .returned (.int .i64 n) ∧ w = w' := by
  have hlt := c.toNat_lt
  unfold M.val at h
  obtain ⟨m, hm⟩ : ∃ m, m = c.toNat := ⟨_, rfl⟩
  rw [← hm] at h hlt ⊢
  clear hm
  by_cases h1 : 48 ≤ m ∧ m ≤ 57
  · rw [if_pos h1] at h
    have HH : Hid (m - 48 = n) := h
    obtain ⟨h1, h2⟩ := h1
    clear h
    go_enter Try.func33, Try.ntmps33
    go_wp2
    go_ret
    refine ⟨ret_i64 ?_, rfl⟩
    have := HH.out
    omega
  · rw [if_neg h1] at h
    by_cases h2 : 97 ≤ m ∧ m ≤ 102
    · rw [if_pos h2] at h
      have HH : Hid (m - 87 = n) := h
      obtain ⟨h3, h4⟩ := h2
      clear h h1
      go_enter Try.func33, Try.ntmps33
      go_wp2
      go_ret
      refine ⟨ret_i64 ?_, rfl⟩
      have := HH.out
      omega
    · rw [if_neg h2] at h
      subst h
      have h3 : (m < 48 ∨ (57 < m ∧ m < 97)) ∨ 102 < m := by omega
      clear h1 h2
      rcases h3 with (h3 | ⟨h3, h4⟩) | h3
      all_goals
        go_enter Try.func33, Try.ntmps33
        go_wp2
        go_ret
        exact ⟨rfl, rfl⟩

theorem digit_cuts : ∀ n : Fin 16, (ByteArray.mk #[48, 49, 50, 51, 52, 53, 54, 55, 56, 57, 97, 98, 99, 100, 101, 102]).extract n.val (n.val + 1) = ⟨#[M.dig n.val]⟩ := by decide +kernel

theorem digit_cut (n : Nat) (h : n < 16) : (ByteArray.mk #[48, 49, 50, 51, 52, 53, 54, 55, 56, 57, 97, 98, 99, 100, 101, 102]).extract n (n + 1) = ⟨#[M.dig n]⟩ := digit_cuts ⟨n, h⟩

theorem rhex_any (v : Value) (bs : List UInt8) (w : World) (h : IsB w v bs) (hs : bs.length ≤ 1099511627776) :
    Calls Try.prog 27 #[v] w fun e w' => e = .returned (.string ⟨(M.hex bs).toArray⟩) ∧ ∃ n, w' = w.drewN n := by
  obtain ⟨ao, cap, rfl, hl, hm, h⟩ := h
  unfold maxLen at hm
  have H : Hid (At w ao bs) := h
  clear h
  go_enter Try.func27, Try.ntmps27
  go_wp2
  go_loopw [3, 4] (fun s i wr => ∃ k : Nat, k ≤ bs.length ∧ i = .int .i64 k ∧ (∃ t : ByteArray, s = .string t ∧ Hid (t = ⟨(M.hex (bs.take k)).toArray⟩)) ∧ ∃ n, wr = w.drewN n)
    (fun _ i _ => bs.length - (intOf i).toNat)
  case atStart => exact ⟨0, Nat.zero_le _, rfl, ⟨⟨#[]⟩, rfl, rfl⟩, 0, rfl⟩
  case round =>
    obtain ⟨k, hk, rfl, ⟨t, rfl, ht⟩, nq, rfl⟩ := hrel
    by_cases hlt : k < bs.length
    · rcases H.out with h0 | ⟨b, off, rfl, hc0⟩
      · subst h0; simp at hlt
      have g := hc0 k hlt
      clear hc0
      obtain ⟨c, hcc⟩ : ∃ c, c = (bs.getD k 0).toNat := ⟨_, rfl⟩
      rw [← hcc] at g
      have hc256 : c < 256 := by rw [hcc]; exact (bs.getD k 0).toNat_lt
      have HC : Hid (c = (bs.getD k 0).toNat) := hcc
      clear hcc
      have hltI : (k : Int) < (bs.length : Int) := by omega
      have hts : t.size ≤ 4398046511104 := by
        rw [ht.out]
        show (M.hex (bs.take k)).length ≤ _
        rw [M.hex_length, List.length_take]
        omega
      go_wp2
      go_quiet (fail)
      go_wp2
      go_roundw
      case rel =>
        refine ⟨k + 1, by omega, by go_num, ⟨_, rfl, ?_⟩, _, rfl⟩
        have e1 := digit_cut (c / 16) (by omega)
        have e2 := digit_cut (c % 16) (by omega)
        rw [Hid, e1, e2, ht.out]
        apply ByteArray.ext
        have ec : (bs[k]'hlt).toNat = c := by
          rw [HC.out]
          simp [hlt]
        rw [List.take_succ_eq_append_getElem hlt, M.hex_append]
        simp [ByteArray.data_append, M.hex, ec]
      case measure => simp [intOf]; omega
    · obtain rfl : k = bs.length := by omega
      go_wp2
      go_ret
      refine ⟨?_, _, rfl⟩
      rw [ht.out, List.take_length]
      rfl

theorem runhex_any (s : ByteArray) (w : World) (hs : s.size ≤ 1099511627776) :
    Calls Try.prog 25 #[.string s] w (GivesUnhex w s.data.toList) := by
  obtain ⟨i0, hi, hz0, hz1, hz2⟩ := info_parts Try.info5
  obtain ⟨n, hn⟩ : ∃ n, n = s.size / 2 := ⟨_, rfl⟩
  have HN : Hid (n = s.size / 2) := hn
  have hn1 : 2 * n ≤ s.size := by omega
  have hn2 : s.size ≤ 2 * n + 1 := by omega
  clear hn
  go_enter Try.func25, Try.ntmps25
  go_wp2
  go_loopw [4, 5] (fun v i wr => ∃ k : Nat, k ≤ n ∧ i = .int .i64 (2 * k : Nat) ∧ Hid (∀ j, j < k → M.good s.data.toList j) ∧ Hid (Own wr w.heap.size v (M.upTo s.data.toList k)) ∧ Below w.heap.size w wr)
    (fun _ i _ => s.size - (intOf i).toNat)
  case atStart => exact ⟨0, Nat.zero_le _, rfl, fun j hj => absurd hj (Nat.not_lt_zero j), World.ownsRow_nil _ _ _ _, Below.refl _ _⟩
  case round =>
    rename_i wr
    obtain ⟨k, hk, rfl, hgood, hown, hb⟩ := hrel
    have hsz : w.heap.size ≤ wr.heap.size := hb.size
    by_cases hlt : k < n
    · have h1 : 2 * k < s.size := by omega
      have h2 : 2 * k + 1 < s.size := by omega
      have E1 : Hid (s[2 * k] = s.data.toList.getD (2 * k) 0) := byte_at s (2 * k) h1
      have E2 : Hid (s[2 * k + 1] = s.data.toList.getD (2 * k + 1) 0) := byte_at s (2 * k + 1) h2
      obtain ⟨n1, hn1⟩ : ∃ n1, M.val s[2 * k] = n1 := ⟨_, rfl⟩
      obtain ⟨n2, hn2⟩ : ∃ n2, M.val s[2 * k + 1] = n2 := ⟨_, rfl⟩
      have b1 : n1 ≤ 99 := by rw [← hn1]; exact M.val_le _
      have b2 : n2 ≤ 99 := by rw [← hn2]; exact M.val_le _
      have HN1 : Hid (M.val s[2 * k] = n1) := hn1
      have HN2 : Hid (M.val s[2 * k + 1] = n2) := hn2
      clear hn1 hn2
      go_wp2_with fail
      refine (digit_any _ n1 _ HN1.out).mono ?_
      rintro e w2 ⟨rfl, rfl⟩
      go_wp2_with fail
      refine (digit_any _ n2 _ HN2.out).mono ?_
      rintro e w2 ⟨rfl, rfl⟩
      by_cases hg : n1 ≤ 15 ∧ n2 ≤ 15
      · obtain ⟨hg1, hg2⟩ := hg
        have HL : Hid ((M.upTo s.data.toList k).length = k) := M.upTo_length _ _
        go_wp2_with (at_builtin; go_loud (refine wpList_append_own _ rfl _ _ 25 rfl w.heap.size 5 i0 (.int .u8 0) 1 1 Try.underlying25 hi hz0 hz1 hz2 rfl (by decide) _ _ _ rfl (hown.out.alloc _) ⟨wr.heap.size, 0, none⟩ 1 1 [.int .u8 (16 * n1 + n2 : Int)] rfl rfl (one_new _ _ _) (one_oneCell _ _) (by rw [HL.out]; unfold maxLen; omega) (by rw [HL.out]; omega) (by simp; omega) ?_))
        intro s' w1 hown' hgrow _
        have hb' := Below.of_grown hb hown.out hgrow
        have H' : Hid (Own w1 w.heap.size s' (M.upTo s.data.toList (k + 1))) := by
          rw [Hid, Own, M.upTo, byteCells_append, List.length_append]
          have e : Value.int IntKind.u8 (16 * (n1 : Int) + n2) = .int .u8 ((M.byteAt s.data.toList k).toNat : Int) := by
            rw [M.byteAt, ← E1.out, ← E2.out, HN1.out, HN2.out]
            congr 1
            rw [show (UInt8.ofNat (16 * n1 + n2)).toNat = (16 * n1 + n2) % 256 by simp]
            omega
          rw [e] at hown'
          exact hown'
        clear hown' hgrow
        go_wp2
        go_roundw
        case rel =>
          refine ⟨k + 1, by omega, by go_num, ?_, H', hb'⟩
          intro j hj
          by_cases hjk : j < k
          · exact hgood.out j hjk
          · obtain rfl : j = k := by omega
            rw [M.good, ← E1.out, ← E2.out, HN1.out, HN2.out]
            exact ⟨hg1, hg2⟩
        case measure => simp [intOf]; omega
      · have HB : Hid (M.unhex s.data.toList = none) := M.unhex_none _ k (by show k < s.size / 2; rw [← HN.out]; exact hlt) (fun g => hg (by rw [← HN1.out, ← HN2.out, E1.out, E2.out]; exact g))
        have hg' : 15 < n1 ∨ (n1 ≤ 15 ∧ 15 < n2) := by omega
        clear hg
        rcases hg' with h3 | ⟨h3, h4⟩
        all_goals
          go_wp2_with fail
          go_ret2
          exact givesNone HB.out hb
    · obtain rfl : k = n := by omega
      by_cases hodd : s.size % 2 = 0
      · go_wp2_with fail
        go_ret2
        have hsome : M.unhex s.data.toList = some (M.upTo s.data.toList k) := by
          have hk2 : s.data.toList.length / 2 = k := HN.out.symm
          have := M.unhex_some s.data.toList hodd (by rw [hk2]; exact hgood.out)
          rw [hk2] at this
          exact this
        refine ⟨_, by rw [hsome]; rfl, ?_, hb⟩
        rw [hsome]
        exact hown.out.isB
      · go_wp2_with fail
        go_ret2
        exact givesNone (M.unhex_odd _ hodd) hb
end Go.Proofs.Ytcablmipgckfnaa
