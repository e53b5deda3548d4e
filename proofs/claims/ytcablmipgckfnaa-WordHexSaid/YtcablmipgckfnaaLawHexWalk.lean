/-
  THE WALK OF orloplaw01.WordHex: it returns true, and writes nothing that was there. Conditions: none.
-/
import Derived.Test.YtcablmipgckfnaaAwake
import Derived.Test.YtcablmipgckfnaaRefHex
import Derived.Test.YtcablmipgckfnaaLawPutsWalk
namespace Go.Proofs.Ytcablmipgckfnaa
open Go.RowKit

theorem wordHex_walk (w : World) (v : Value) (bs : List UInt8) (h : IsB w v bs) (s : ByteArray) (hs : s.size ≤ maxLen) :
    Calls Try.prog 6 #[v, .string s] w fun e w' => e = .returned (.bool true) ∧ Below w.heap.size w w' := by
  have hl : bs.length ≤ maxLen := by obtain ⟨_, _, _, h1, h2, _⟩ := h; omega
  have HI : Hid (IsB w v bs) := h
  obtain ⟨ao, cap, rfl, h1, h2, h3⟩ := h
  clear h3
  unfold maxLen at hs hl h2
  by_cases hb : 4096 < bs.length
  · go_enter Try.func6, Try.ntmps6
    go_wp2_with fail
    refine (awake_any _).mono ?_
    rintro e w1 ⟨rfl, k⟩
    go_wp2_with fail
    go_ret
    exact ⟨rfl, k⟩
  · by_cases hb2 : 4096 < s.size
    · go_enter Try.func6, Try.ntmps6
      go_wp2_with fail
      refine (awake_any _).mono ?_
      rintro e w1 ⟨rfl, k⟩
      go_wp2_with fail
      go_ret
      exact ⟨rfl, k⟩
    · obtain ⟨t, ht⟩ : ∃ t : ByteArray, ⟨(M.hex bs).toArray⟩ = t := ⟨_, rfl⟩
      have HT : Hid ((⟨(M.hex bs).toArray⟩ : ByteArray) = t) := ht
      have HX : Hid (M.unhex t.data.toList = some bs) := by rw [← ht]; exact M.unhex_hex bs
      have ht2 : t.size ≤ 8192 := by
        rw [← ht]
        show (M.hex bs).length ≤ _
        rw [M.hex_length]
        omega
      clear ht
      obtain ⟨ok, hok⟩ : ∃ ok, (M.unhex s.data.toList).isSome = ok := ⟨_, rfl⟩
      have HK : Hid ((M.unhex s.data.toList).isSome = ok) := hok
      obtain ⟨ul, hul⟩ : ∃ ul, (M.unhex s.data.toList).getD [] = ul := ⟨_, rfl⟩
      have HL : Hid ((M.unhex s.data.toList).getD [] = ul) := hul
      clear hok hul
      go_enter Try.func6, Try.ntmps6
      go_wp2_with fail
      refine (awake_any _).mono ?_
      rintro e w1 ⟨rfl, k⟩
      have i := HI.out.below k
      go_wp2_with fail
      refine (unhex_any s _ (by omega)).mono ?_
      rintro e w2 ⟨r1, rfl, i1, b⟩
      rw [HL.out] at i1
      rw [HK.out]
      have i := i.below b
      have k := k.trans (b.mono k.size)
      clear b
      go_wp2_with fail
      refine (runhex_any s _ (by omega)).mono ?_
      rintro e w3 ⟨r2, rfl, i2, b⟩
      rw [HL.out] at i2
      rw [HK.out]
      have i := i.below b
      have i1 := i1.below b
      have k := k.trans (b.mono k.size)
      clear b
      go_wp2_with fail
      refine (hex_any _ bs _ i (by omega)).mono ?_
      rintro e w4 ⟨rfl, b⟩
      rw [HT.out]
      have i := i.below b
      have i1 := i1.below b
      have i2 := i2.below b
      have k := k.trans (b.mono k.size)
      clear b
      go_wp2_with fail
      refine (unhex_any t _ (by omega)).mono ?_
      rintro e w5 ⟨r3, rfl, i3, b⟩
      rw [HX.out, Option.getD_some] at i3
      rw [HX.out, Option.isSome_some]
      have i := i.below b
      have i1 := i1.below b
      have i2 := i2.below b
      have k := k.trans (b.mono k.size)
      clear b
      go_wp2_with fail
      refine (hex_any _ bs _ i (by omega)).mono ?_
      rintro e w6 ⟨rfl, b⟩
      rw [HT.out]
      have i := i.below b
      have i1 := i1.below b
      have i2 := i2.below b
      have i3 := i3.below b
      have k := k.trans (b.mono k.size)
      clear b
      go_wp2_with fail
      refine (rhex_any _ bs _ i (by omega)).mono ?_
      rintro e w7 ⟨rfl, n, rfl⟩
      rw [HT.out]
      have b := below_draws w6 n
      have i := i.below b
      have i1 := i1.below b
      have i2 := i2.below b
      have i3 := i3.below b
      have k := k.trans (b.mono k.size)
      clear b
      generalize w6.drewN n = w7 at *
      go_wp2_with fail
      refine (equal_yes _ _ _ _ i1 i2).mono ?_
      rintro e w8 ⟨rfl, b⟩
      have i := i.below b
      have i3 := i3.below b
      have k := k.trans (b.mono k.size)
      clear b
      go_wp2_with fail
      refine (equal_yes _ _ _ _ i3 i).mono ?_
      rintro e w9 ⟨rfl, b⟩
      have k := k.trans (b.mono k.size)
      clear b
      go_wp2
      go_ret
      exact ⟨rfl, k⟩

end Go.Proofs.Ytcablmipgckfnaa
