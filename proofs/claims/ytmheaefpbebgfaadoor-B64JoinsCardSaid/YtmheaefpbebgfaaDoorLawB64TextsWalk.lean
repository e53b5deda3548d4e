/-
  THE WALK OF orloplaw14.B64Texts: it returns true, and writes nothing that was there. Conditions: none.
-/
import Derived.Test.YtmheaefpbebgfaaDoorB64Awake
import Derived.Test.YtmheaefpbebgfaaDoorRefB64Text
import Derived.Test.YtmheaefpbebgfaaDoorWordC
namespace Go.Proofs.YtmheaefpbebgfaaDoor
open Go.RowKit
set_option linter.unusedVariables false
set_option maxRecDepth 100000

/-- A text as the program has it, under a name. -/
theorem name_text (l : List UInt8) : ∃ S : ByteArray, Hid (S = ⟨l.toArray⟩) ∧ S.size = l.length := ⟨⟨l.toArray⟩, rfl, rfl⟩

set_option maxHeartbeats 4000000 in
theorem b64Texts_walk (w : World) (v : Value) (bs : List UInt8) (h : IsB w v bs) :
    Calls Tryd.prog 3 #[v] w fun e w' => e = .returned (.bool true) ∧ Below w.heap.size w w' := by
  have HI := Lib.hid h
  obtain ⟨ao, cap, rfl, hl, hm, _⟩ := h
  unfold maxLen at hm
  obtain ⟨L, hL⟩ : ∃ L, L = bs.length := ⟨_, rfl⟩
  rw [← hL] at HI hl ⊢
  by_cases hb : 4096 < L
  · clear hL
    go_enter Tryd.func3, Tryd.ntmps3
    go_wp2_with fail
    refine (awake14_any _).mono ?_
    rintro e w1 ⟨rfl, k⟩
    go_wp2
    go_ret
    exact ⟨rfl, k⟩
  · have hlen : bs.length ≤ 4096 := by omega
    obtain ⟨S, HS, hsz⟩ := name_text (M.enc64 bs)
    have hN : ((L : Int) + 2) / 3 * 4 = ((M.enc64 bs).length : Int) := by rw [M.enc64_len, ← hL]; omega
    obtain ⟨N, hNN⟩ : ∃ N, N = (M.enc64 bs).length := ⟨_, rfl⟩
    rw [← hNN] at hsz hN
    have hsl : (M.enc64 bs).length ≤ 1099511627776 := by rw [M.enc64_len]; omega
    have CT : Hid (∀ W, Below w.heap.size w W → Calls Tryd.prog 8 #[.slice ao L cap] W fun e w' => e = .returned (.string S) ∧ Below W.heap.size W w') := fun W k => by
      rw [HS.out]
      exact text64_any _ bs W (HI.out.below k) (by omega)
    have CR : Hid (∀ W, Below w.heap.size w W → Calls Tryd.prog 10 #[.slice ao L cap] W fun e w' => e = .returned (.string S) ∧ Below W.heap.size W w') := fun W k => by
      rw [HS.out]
      exact rtext_any _ bs W (HI.out.below k) (by omega)
    have CB : Hid (∀ W, Calls Tryd.prog 9 #[.string S] W fun e w' => ∃ r, e = .returned (.tuple #[r, .bool true]) ∧ Own w' W.heap.size r bs ∧ Below W.heap.size W w') := fun W => by
      rw [HS.out]
      refine (bytes64_any (M.enc64 bs) W hsl).mono ?_
      rintro e w' ⟨r, he, o, k⟩
      rw [M.dec64_some.2 rfl] at he o
      exact ⟨r, he, o, k⟩
    have hb4 : ¬ (L : Int) > 4096 := by omega
    clear hL hNN hsl hlen hb
    go_enter Tryd.func3, Tryd.ntmps3
    go_wp2_with fail
    refine (awake14_any _).mono ?_
    rintro e w1 ⟨rfl, k1⟩
    have K1 := Lib.hid k1
    clear k1
    go_wp2_with fail
    refine (CT.out _ K1.out).mono ?_
    rintro e w2 ⟨rfl, k2⟩
    have K2 : Hid (Below w.heap.size w w2) := K1.out.trans (k2.mono K1.out.size)
    clear k2 CT K1
    go_wp2_with fail
    refine (CB.out _).mono ?_
    rintro e w3 ⟨r, rfl, o3, k3⟩
    have O3 := Lib.hid o3
    have K3 : Hid (Below w.heap.size w w3) := K2.out.trans (k3.mono K2.out.size)
    clear k3 o3 CB K2
    go_wp2_with fail
    refine (CR.out _ K3.out).mono ?_
    rintro e w4 ⟨rfl, k4⟩
    have K4 : Hid (Below w.heap.size w w4) := K3.out.trans (k4.mono K3.out.size)
    have CE := Lib.hid (requal_b r (.slice ao L cap) bs bs w4 (O3.out.below k4).isB (HI.out.below K4.out))
    clear k4 CR K3 O3
    go_wp2_with fail
    refine CE.out.mono ?_
    rintro e w5 ⟨rfl, k5⟩
    have K5 : Hid (Below w.heap.size w w5) := K4.out.trans (k5.mono K4.out.size)
    clear k5 CE K4
    go_wp2
    go_ret
    exact ⟨rfl, K5.out⟩

end Go.Proofs.YtmheaefpbebgfaaDoor
