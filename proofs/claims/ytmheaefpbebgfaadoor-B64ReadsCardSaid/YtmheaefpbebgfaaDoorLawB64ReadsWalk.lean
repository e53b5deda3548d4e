/-
  THE WALK OF orloplaw14.B64Reads: it returns true, and writes nothing that was there. Conditions: none.
-/
import Derived.Test.YtmheaefpbebgfaaDoorLawB64TextsWalk
import Derived.Test.YtmheaefpbebgfaaDoorRefB64Bytes
namespace Go.Proofs.YtmheaefpbebgfaaDoor
open Go.RowKit
set_option linter.unusedVariables false
set_option maxRecDepth 100000

set_option maxHeartbeats 4000000 in
theorem b64Reads_walk (w : World) (S : ByteArray) (hs : S.size ≤ maxLen) :
    Calls Tryd.prog 4 #[.string S] w fun e w' => e = .returned (.bool true) ∧ Below w.heap.size w w' := by
  unfold maxLen at hs
  obtain ⟨s, hS⟩ : ∃ s : List UInt8, S = ⟨s.toArray⟩ := ⟨S.data.toList, by simp⟩
  obtain ⟨L, hL⟩ : ∃ L, S.size = L := ⟨_, rfl⟩
  have hsl : s.length = L := by rw [← hL, hS]; rfl
  have HS := Lib.hid hS
  by_cases hb : 4096 < L
  · have hb4 : (L : Int) > 4096 := by omega
    clear hb hsl hS hs
    go_enter Tryd.func4, Tryd.ntmps4
    go_wp2_with fail
    refine (awake14_any _).mono ?_
    rintro e w1 ⟨rfl, k⟩
    go_wp2
    go_ret
    exact ⟨rfl, k⟩
  · have hb4 : ¬ (L : Int) > 4096 := by omega
    have CB : Hid (∀ W, Calls Tryd.prog 9 #[.string S] W (Gives64 W s)) := fun W => by
      rw [hS]
      exact bytes64_any s W (by omega)
    have CR : Hid (∀ W, Calls Tryd.prog 12 #[.string S] W (GivesR64 W s)) := fun W => by
      rw [hS]
      exact rbytes_any s W (by omega)
    clear hb hsl hS hs
    cases hd : M.dec64 s with
    | none =>
      have HD := Lib.hid hd
      clear hd
      go_enter Tryd.func4, Tryd.ntmps4
      go_wp2_with fail
      refine (awake14_any _).mono ?_
      rintro e w1 ⟨rfl, k1⟩
      have K1 := Lib.hid k1
      clear k1
      go_wp2_with fail
      refine (CB.out _).mono ?_
      rintro e w2 ⟨r, rfl, o2, k2⟩
      rw [HD.out] at o2
      rw [HD.out, Option.isSome_none]
      have O2 : Hid (Own w2 w1.heap.size r []) := o2
      have K2 : Hid (Below w.heap.size w w2) := K1.out.trans (k2.mono K1.out.size)
      clear k2 o2 CB K1
      go_wp2_with fail
      refine (CR.out _).mono ?_
      rintro e w3 ⟨r2, rfl, o3, k3⟩
      rw [HD.out] at o3
      rw [HD.out, Option.isSome_none]
      have O3 : Hid (Own w3 w2.heap.size r2 []) := o3
      have O23 : Hid (Own w3 w1.heap.size r []) := O2.out.below k3
      have K3 : Hid (Below w.heap.size w w3) := K2.out.trans (k3.mono K2.out.size)
      have CE := Lib.hid (requal_b r r2 [] [] w3 O23.out.isB O3.out.isB)
      clear k3 o3 CR K2 O2
      go_wp2_with fail
      refine CE.out.mono ?_
      rintro e w5 ⟨rfl, k5⟩
      have K5 : Hid (Below w.heap.size w w5) := K3.out.trans (k5.mono K3.out.size)
      clear k5 CE K3
      go_wp2
      go_ret
      exact ⟨rfl, K5.out⟩
    | some b =>
      have HD := Lib.hid hd
      have he := M.dec64_some.1 hd
      have hbl : b.length ≤ 1099511627776 := by
        have h1 := M.enc64_len b
        rw [he] at h1
        have h2 : s.length = L := by rw [← hL, HS.out]; rfl
        omega
      have CT : Hid (∀ r W, IsB W r b → Calls Tryd.prog 8 #[r] W fun e w' => e = .returned (.string S) ∧ Below W.heap.size W w') := fun r W i => by
        rw [HS.out, ← he]
        exact text64_any r b W i hbl
      clear hd he hbl
      go_enter Tryd.func4, Tryd.ntmps4
      go_wp2_with fail
      refine (awake14_any _).mono ?_
      rintro e w1 ⟨rfl, k1⟩
      have K1 := Lib.hid k1
      clear k1
      go_wp2_with fail
      refine (CB.out _).mono ?_
      rintro e w2 ⟨r, rfl, o2, k2⟩
      rw [HD.out] at o2
      rw [HD.out, Option.isSome_some]
      have O2 : Hid (Own w2 w1.heap.size r b) := o2
      have K2 : Hid (Below w.heap.size w w2) := K1.out.trans (k2.mono K1.out.size)
      clear k2 o2 CB K1
      go_wp2_with fail
      refine (CR.out _).mono ?_
      rintro e w3 ⟨r2, rfl, o3, k3⟩
      rw [HD.out] at o3
      rw [HD.out, Option.isSome_some]
      have O3 : Hid (Own w3 w2.heap.size r2 b) := o3
      have O23 : Hid (Own w3 w1.heap.size r b) := O2.out.below k3
      have K3 : Hid (Below w.heap.size w w3) := K2.out.trans (k3.mono K2.out.size)
      have CE := Lib.hid (requal_b r r2 b b w3 O23.out.isB O3.out.isB)
      clear k3 o3 CR K2 O2
      go_wp2_with fail
      refine CE.out.mono ?_
      rintro e w5 ⟨rfl, k5⟩
      have K5 : Hid (Below w.heap.size w w5) := K3.out.trans (k5.mono K3.out.size)
      have CT2 := Lib.hid (CT.out r w5 (O23.out.below k5).isB)
      clear k5 CE K3 CT O23 O3
      go_wp2_with fail
      refine CT2.out.mono ?_
      rintro e w6 ⟨rfl, k6⟩
      have K6 : Hid (Below w.heap.size w w6) := K5.out.trans (k6.mono K5.out.size)
      clear k6 CT2 K5
      go_wp2
      go_ret
      exact ⟨rfl, K6.out⟩

end Go.Proofs.YtmheaefpbebgfaaDoor
