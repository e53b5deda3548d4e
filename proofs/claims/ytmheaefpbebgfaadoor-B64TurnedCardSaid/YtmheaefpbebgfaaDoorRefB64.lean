/-
  CONTRACTS OF orlopref14.letter AND Text. Conditions: bytes of up to 2^40.
-/
import Derived.Test.YtmheaefpbebgfaaDoorStrAny
import Derived.Test.YtmheaefpbebgfaaDoorB64Math
import Derived.WalkSpells
import Derived.Lib.Hide
namespace Go.Proofs.YtmheaefpbebgfaaDoor
open Go.RowKit
set_option linter.unusedVariables false
set_option maxRecDepth 100000

set_option maxHeartbeats 2000000 in
theorem rletter_any (v : Nat) (hv : v < 64) (w : World) :
    Calls Tryd.prog 20 #[.int .i64 (v : Int)] w fun e w' => e = .returned (.string ⟨#[M.let64 v]⟩) ∧ Below w.heap.size w w' := by
  obtain ⟨c, hc⟩ : ∃ c, c = M.let64 v := ⟨_, rfl⟩
  rw [← hc]
  have K : Hid (∀ x : Value, Below w.heap.size w (w.alloc (.cells #[x] 5))) := fun x => (Below.refl _ _).alloc (Nat.le_refl _) _
  rw [M.let64] at hc
  by_cases h1 : v < 26
  · rw [if_pos h1] at hc
    have b1 : (v : Int) < 26 := by omega
    have hst := str_one w (65 + (v : Int)) c (by rw [hc, UInt8.toNat_ofNat']; omega)
    clear hc h1
    go_enter Tryd.func20, Tryd.ntmps20
    go_wp2
    go_ret
    exact ⟨rfl, K.out _⟩
  rw [if_neg h1] at hc
  have b1 : ¬ (v : Int) < 26 := by omega
  by_cases h2 : v < 52
  · rw [if_pos h2] at hc
    have b2 : (v : Int) < 52 := by omega
    have hst := str_one w (97 + (v : Int) - 26) c (by rw [hc, UInt8.toNat_ofNat']; omega)
    clear hc h1 h2
    go_enter Tryd.func20, Tryd.ntmps20
    go_wp2
    go_ret
    exact ⟨rfl, K.out _⟩
  rw [if_neg h2] at hc
  have b2 : ¬ (v : Int) < 52 := by omega
  by_cases h3 : v < 62
  · rw [if_pos h3] at hc
    have b3 : (v : Int) < 62 := by omega
    have hst := str_one w (48 + (v : Int) - 52) c (by rw [hc, UInt8.toNat_ofNat']; omega)
    clear hc h1 h2 h3
    go_enter Tryd.func20, Tryd.ntmps20
    go_wp2
    go_ret
    exact ⟨rfl, K.out _⟩
  rw [if_neg h3] at hc
  have b3 : ¬ (v : Int) < 62 := by omega
  by_cases h4 : v = 62
  · rw [if_pos h4] at hc
    subst h4
    subst hc
    clear h1 h2 h3 b1 b2 b3
    go_enter Tryd.func20, Tryd.ntmps20
    go_wp2
    go_ret
    exact ⟨rfl, Below.refl _ _⟩
  · rw [if_neg h4] at hc
    obtain rfl : v = 63 := by omega
    subst hc
    clear h1 h2 h3 h4 b1 b2 b3
    go_enter Tryd.func20, Tryd.ntmps20
    go_wp2
    go_ret
    exact ⟨rfl, Below.refl _ _⟩

theorem M.num64_iff (n t : Nat) : 6 * t < 8 * n ↔ t < M.num64 n := by
  rw [M.num64]
  omega

theorem wrap64_in {x : Int} (h1 : 0 ≤ x) (h2 : x < 9223372036854775808) : wrap64 x = x := by unfold wrap64; omega

theorem str_snoc (a : List UInt8) (c : UInt8) : (⟨a.toArray⟩ : ByteArray) ++ (⟨#[c]⟩ : ByteArray) = ⟨(a ++ [c]).toArray⟩ := by
  apply ByteArray.ext
  rw [ByteArray.data_append]
  simp

end Go.Proofs.YtmheaefpbebgfaaDoor
