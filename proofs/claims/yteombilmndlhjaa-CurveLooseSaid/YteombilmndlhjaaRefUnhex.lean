/-
  CONTRACTS OF orlopref01.digit AND Unhex, without the library's strings (for seats that lack word.Hex). Conditions: texts of up to 2^40 bytes.
-/
import Derived.Test.YteombilmndlhjaaBase
import Derived.Test.YteombilmndlhjaaHexMath
import Derived.WalkSpells
namespace Go.Proofs.Yteombilmndlhjaa
open Go.RowKit

theorem ret_i64 {a b : Int} (h : a = b) : Ending.returned (.int .i64 a) = .returned (.int .i64 b) := by rw [h]

theorem digit_any (c : UInt8) (n : Nat) (w : World) (h : M.val c = n) :
    Calls Try.prog 27 #[.int .u8 (c.toNat : Int)] w fun e w' => e = .returned (.int .i64 n) ∧ w = w' := by
  have hlt := c.toNat_lt
  unfold M.val at h
  obtain ⟨m, hm⟩ : ∃ m, m = c.toNat := ⟨_, rfl⟩
  rw [← hm] at h hlt ⊢
  clear hm
  by_cases h1 : 48 ≤ m ∧ m ≤ 57
  · rw [if_pos h1] at h
    have HH : Hid (m - 48 = n) := h
    obtain ⟨h1, h2⟩ := h1
    clear h
    go_enter Try.func27, Try.ntmps27
    go_wp2
    go_ret
    refine ⟨ret_i64 ?_, rfl⟩
    have := HH.out
    omega
  · rw [if_neg h1] at h
    by_cases h2 : 97 ≤ m ∧ m ≤ 102
    · rw [if_pos h2] at h
      have HH : Hid (m - 87 = n) := h
      obtain ⟨h3, h4⟩ := h2
      clear h h1
      go_enter Try.func27, Try.ntmps27
      go_wp2
      go_ret
      refine ⟨ret_i64 ?_, rfl⟩
      have := HH.out
      omega
    · rw [if_neg h2] at h
      subst h
      have h3 : (m < 48 ∨ (57 < m ∧ m < 97)) ∨ 102 < m := by omega
      clear h1 h2
      rcases h3 with (h3 | ⟨h3, h4⟩) | h3
      all_goals
        go_enter Try.func27, Try.ntmps27
        go_wp2
        go_ret
        exact ⟨rfl, rfl⟩


theorem byte_at (s : ByteArray) (i : Nat) (h : i < s.size) : s[i] = s.data.toList.getD i 0 := by
  have h2 : i < s.data.toList.length := h
  simp only [List.getD_eq_getElem?_getD, List.getElem?_eq_getElem h2, Option.getD_some]
  rfl

/-- The call hands back what the text says as bytes, and whether it is one of digits. -/
def GivesUnhex (w : World) (s : List UInt8) (e : Ending) (w' : World) : Prop :=
  ∃ r, e = .returned (.tuple #[r, .bool (M.unhex s).isSome]) ∧ IsB w' r ((M.unhex s).getD []) ∧ Below w.heap.size w w'

theorem givesNone {w w' : World} {s : List UInt8} (h : M.unhex s = none) (hb : Below w.heap.size w w') : GivesUnhex w s (.returned (.tuple #[.slice none 0 0, .bool false])) w' :=
  ⟨_, by rw [h]; rfl, by rw [h]; exact IsB.nil w', hb⟩

theorem runhex_any (s : ByteArray) (w : World) (hs : s.size ≤ 1099511627776) :
    Calls Try.prog 15 #[.string s] w (GivesUnhex w s.data.toList) := by
  obtain ⟨i0, hi, hz0, hz1, hz2⟩ := info_parts Try.info5
  obtain ⟨n, hn⟩ : ∃ n, n = s.size / 2 := ⟨_, rfl⟩
  have HN : Hid (n = s.size / 2) := hn
  have hn1 : 2 * n ≤ s.size := by omega
  have hn2 : s.size ≤ 2 * n + 1 := by omega
  clear hn
  go_enter Try.func15, Try.ntmps15
  go_wp2
  go_loopw [4, 5] (fun v i wr => ∃ k : Nat, k ≤ n ∧ i = .int .i64 (2 * k : Nat) ∧ Hid (∀ j, j < k → M.good s.data.toList j) ∧ Hid (Own wr w.heap.size v (M.upTo s.data.toList k)) ∧ Below w.heap.size w wr)
    (fun _ i _ => s.size - (intOf i).toNat)
  case atStart => exact ⟨0, Nat.zero_le _, rfl, fun j hj => absurd hj (Nat.not_lt_zero j), World.ownsRow_nil _ _ _ _, Below.refl _ _⟩
  case round =>
    rename_i wr
    obtain ⟨k, hk, rfl, hgood, hown, hb⟩ := hrel
    have hsz : w.heap.size ≤ wr.heap.size := hb.size
    by_cases hlt : k < n
    · have h1 : 2 * k < s.size := by omega
      have h2 : 2 * k + 1 < s.size := by omega
      have E1 : Hid (s[2 * k] = s.data.toList.getD (2 * k) 0) := byte_at s (2 * k) h1
      have E2 : Hid (s[2 * k + 1] = s.data.toList.getD (2 * k + 1) 0) := byte_at s (2 * k + 1) h2
      obtain ⟨n1, hn1⟩ : ∃ n1, M.val s[2 * k] = n1 := ⟨_, rfl⟩
      obtain ⟨n2, hn2⟩ : ∃ n2, M.val s[2 * k + 1] = n2 := ⟨_, rfl⟩
      have b1 : n1 ≤ 99 := by rw [← hn1]; exact M.val_le _
      have b2 : n2 ≤ 99 := by rw [← hn2]; exact M.val_le _
      have HN1 : Hid (M.val s[2 * k] = n1) := hn1
      have HN2 : Hid (M.val s[2 * k + 1] = n2) := hn2
      clear hn1 hn2
      go_wp2_with fail
      refine (digit_any _ n1 _ HN1.out).mono ?_
      rintro e w2 ⟨rfl, rfl⟩
      go_wp2_with fail
      refine (digit_any _ n2 _ HN2.out).mono ?_
      rintro e w2 ⟨rfl, rfl⟩
      by_cases hg : n1 ≤ 15 ∧ n2 ≤ 15
      · obtain ⟨hg1, hg2⟩ := hg
        have HL : Hid ((M.upTo s.data.toList k).length = k) := M.upTo_length _ _
        go_wp2_with (at_builtin; go_loud (refine wpList_append_own _ rfl _ _ 22 rfl w.heap.size 5 i0 (.int .u8 0) 1 1 Try.underlying22 hi hz0 hz1 hz2 rfl (by decide) _ _ _ rfl (hown.out.alloc _) ⟨wr.heap.size, 0, none⟩ 1 1 [.int .u8 (16 * n1 + n2 : Int)] rfl rfl (one_new _ _ _) (one_oneCell _ _) (by rw [HL.out]; unfold maxLen; omega) (by rw [HL.out]; omega) (by simp; omega) ?_))
        intro s' w1 hown' hgrow _
        have hb' := Below.of_grown hb hown.out hgrow
        have H' : Hid (Own w1 w.heap.size s' (M.upTo s.data.toList (k + 1))) := by
          rw [Hid, Own, M.upTo, byteCells_append, List.length_append]
          have e : Value.int IntKind.u8 (16 * (n1 : Int) + n2) = .int .u8 ((M.byteAt s.data.toList k).toNat : Int) := by
            rw [M.byteAt, ← E1.out, ← E2.out, HN1.out, HN2.out]
            congr 1
            rw [show (UInt8.ofNat (16 * n1 + n2)).toNat = (16 * n1 + n2) % 256 by simp]
            omega
          rw [e] at hown'
          exact hown'
        clear hown' hgrow
        go_wp2
        go_roundw
        case rel =>
          refine ⟨k + 1, by omega, by go_num, ?_, H', hb'⟩
          intro j hj
          by_cases hjk : j < k
          · exact hgood.out j hjk
          · obtain rfl : j = k := by omega
            rw [M.good, ← E1.out, ← E2.out, HN1.out, HN2.out]
            exact ⟨hg1, hg2⟩
        case measure => simp [intOf]; omega
      · have HB : Hid (M.unhex s.data.toList = none) := M.unhex_none _ k (by show k < s.size / 2; rw [← HN.out]; exact hlt) (fun g => hg (by rw [← HN1.out, ← HN2.out, E1.out, E2.out]; exact g))
        have hg' : 15 < n1 ∨ (n1 ≤ 15 ∧ 15 < n2) := by omega
        clear hg
        rcases hg' with h3 | ⟨h3, h4⟩
        all_goals
          go_wp2_with fail
          go_ret2
          exact givesNone HB.out hb
    · obtain rfl : k = n := by omega
      by_cases hodd : s.size % 2 = 0
      · go_wp2_with fail
        go_ret2
        have hsome : M.unhex s.data.toList = some (M.upTo s.data.toList k) := by
          have hk2 : s.data.toList.length / 2 = k := HN.out.symm
          have := M.unhex_some s.data.toList hodd (by rw [hk2]; exact hgood.out)
          rw [hk2] at this
          exact this
        refine ⟨_, by rw [hsome]; rfl, ?_, hb⟩
        rw [hsome]
        exact hown.out.isB
      · go_wp2_with fail
        go_ret2
        exact givesNone (M.unhex_odd _ hodd) hb
end Go.Proofs.Yteombilmndlhjaa
