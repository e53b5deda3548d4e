/-
  CONTRACT OF strings.TrimRight OF "=". Conditions: texts of up to 2^40 bytes.
-/
import Derived.Test.YtmheaefpbebgfaaDoorB64M2
import Derived.Test.YtmheaefpbebgfaaDoorStrAny
import Derived.WalkSpells
import Derived.Lib.Hide
import Derived.Lib.Strings
import Derived.Deep.Cut
namespace Go.Proofs.YtmheaefpbebgfaaDoor
open Go.RowKit
set_option linter.unusedVariables false
set_option maxRecDepth 100000

def sizeOf64 : Value → Nat
  | .string s => s.size
  | _ => 0

set_option maxHeartbeats 2000000 in
theorem trimByte_any (l : List UInt8) (w : World) (hl : l.length ≤ 1099511627776) :
    Calls Tryd.prog 26 #[.string ⟨l.toArray⟩, .int .u8 61] w fun e w' => e = .returned (.string ⟨(M.trim64 l).toArray⟩) ∧ w' = w := by
  have HL := Lib.hid hl
  clear hl
  go_enter Tryd.func26, Tryd.ntmps26
  go_wp2
  go_loop [0] (fun s => ∃ x : List UInt8, s = .string ⟨x.toArray⟩ ∧ Hid (M.trim64 x = M.trim64 l) ∧ Hid (x.length ≤ l.length)) (fun s => sizeOf64 s)
  case atStart => exact ⟨l, rfl, rfl, Nat.le_refl _⟩
  case round =>
    obtain ⟨x, rfl, hx, hxl⟩ := hrel
    rcases List.eq_nil_or_concat x with hx0 | ⟨y, c, hy⟩
    · subst hx0
      have HE : Hid (M.trim64 l = []) := hx.out.symm
      go_wp2
      go_ret
      exact ⟨by rw [HE.out]; rfl, rfl⟩
    · rw [List.concat_eq_append] at hy
      obtain ⟨n, hn⟩ : ∃ n, n = y.length := ⟨_, rfl⟩
      obtain ⟨s, hs⟩ : ∃ s : ByteArray, s = ⟨x.toArray⟩ := ⟨_, rfl⟩
      have hsz : s.size = n + 1 := by rw [hs, hy, hn]; show (y ++ [c]).toArray.size = _; simp
      have hsl : s.extract 0 n = ⟨y.toArray⟩ := by
        apply ByteArray.ext
        rw [ByteArray.data_extract, hs, hy, hn]
        simp
      have hlt : n < s.size := by rw [hsz]; exact Nat.lt_succ_self n
      have hge : s[n]'hlt = c := by
        subst hs
        show (x.toArray)[n]'_ = c
        simp [hy, hn]
      have HN : Hid (n + 1 ≤ 1099511627776) := by have := HL.out; have := hxl.out; rw [hy, List.length_append, ← hn] at this; rw [Hid]; simp at this; omega
      have HYL : Hid (y.length ≤ l.length) := by have := hxl.out; rw [hy, List.length_append] at this; rw [Hid]; omega
      have w1 : wrap64 (n : Int) = (n : Int) := by have := HN.out; unfold wrap64; omega
      have w2 : ((n : Int)).toNat = n := Int.toNat_natCast n
      rw [← hs]
      by_cases hc : c = 61
      · have HT : Hid (M.trim64 y = M.trim64 l) := by rw [Hid, ← hx.out, hy, hc, M.trim_pad]
        have hcc : c.toNat = 61 := by rw [hc]; rfl
        have hb : (s[n]'hlt).toNat = 61 := by rw [hge, hcc]
        have HS := Lib.hid hs
        clear hs hy hn hx hxl hc hge hcc
        go_wp2
        refine ⟨⟨y, rfl, HT, HYL⟩, ?_⟩
        show (⟨y.toArray⟩ : ByteArray).size < s.size
        rw [hsz, ← hsl, ByteArray.size_extract]
        omega
      · have HT : Hid (M.trim64 l = x) := by rw [Hid, ← hx.out, hy, M.trim_end _ _ hc]
        have hb : ¬ ((s[n]'hlt).toNat : Int) = 61 := by
          rw [hge]
          intro e
          exact hc (UInt8.toNat_inj.1 (by rw [show c.toNat = 61 by omega]; rfl))
        have HS := Lib.hid hs
        clear hs hy hn hx hxl hc hge
        go_wp2
        go_ret
        exact ⟨by rw [HT.out, ← HS.out]; rfl, rfl⟩

set_option maxHeartbeats 2000000 in
theorem trimRight_any (l : List UInt8) (w : World) (hl : l.length ≤ 1099511627776) :
    Calls Tryd.prog 19 #[.string ⟨l.toArray⟩, .string ⟨#[61]⟩] w fun e w' => e = .returned (.string ⟨(M.trim64 l).toArray⟩) ∧ w' = w := by
  by_cases h0 : l = []
  · subst h0
    go_enter Tryd.func19, Tryd.ntmps19
    go_wp2
    go_ret
    exact ⟨rfl, rfl⟩
  · have CT := Lib.hid (trimByte_any l w hl)
    obtain ⟨s, hs⟩ : ∃ s : ByteArray, s = ⟨l.toArray⟩ := ⟨_, rfl⟩
    have he : s.toList = l := by rw [ByteArray.toList_eq, hs]
    have hb : ¬ s.toList = [] := by rw [he]; exact h0
    have hb2 : s.toList.isEmpty = false := by rw [he]; cases l with
      | nil => exact absurd rfl h0
      | cons _ _ => rfl
    rw [← hs] at CT
    rw [← hs]
    clear h0 hl hs he
    go_enter Tryd.func19, Tryd.ntmps19
    go_wp2_with fail
    refine CT.out.mono ?_
    rintro e w1 ⟨rfl, rfl⟩
    go_wp2
    go_ret
    exact ⟨rfl, rfl⟩

end Go.Proofs.YtmheaefpbebgfaaDoor