/-
  THE WALK OF orloplaw03.MacCodes: it returns true, and writes nothing that was there. Conditions: the program's two tables of layer 2 lie as they were laid.
-/
import Derived.Test.YtmjeilhppgdmfaaDoorMacAwake
namespace Go.Proofs.YtmjeilhppgdmfaaDoor
open Go.RowKit
set_option linter.unusedVariables false

set_option maxHeartbeats 1000000 in
theorem macCodes_walk (w : World) (hL : Laid w) (v1 : Value) (xs : List UInt8) (h1 : IsB w v1 xs) (hn1 : ∀ n c, v1 = .slice none n c → c = 0) (v2 : Value) (ys : List UInt8) (h2 : IsB w v2 ys) (hn2 : ∀ n c, v2 = .slice none n c → c = 0) :
    Calls Tryd.prog 3 #[v1, v2] w fun e w' => e = .returned (.bool true) ∧ Below w.heap.size w w' := by
  obtain ⟨ao1, cap1, rfl⟩ := h1.shape
  obtain ⟨ao2, cap2, rfl⟩ := h2.shape
  have hl1 : xs.length ≤ maxLen := by obtain ⟨_, _, _, h1, h2, _⟩ := h1; omega
  have hl2 : ys.length ≤ maxLen := by obtain ⟨_, _, _, h1, h2, _⟩ := h2; omega
  unfold maxLen at hl1 hl2
  have HN1 := Lib.hid hn1
  have HN2 := Lib.hid hn2
  have H1 := Lib.hid h1
  have H2 := Lib.hid h2
  have HL := Lib.hid hL
  clear hn1 hn2 h1 h2 hL
  by_cases hb : 2048 < xs.length
  · go_enter Tryd.func3, Tryd.ntmps3
    go_wp2_with fail
    refine (macAwake_any w HL.out).mono ?_
    rintro e w1 ⟨rfl, k⟩
    go_wp2
    go_ret
    exact ⟨rfl, k⟩
  · by_cases hb2 : 2048 < ys.length
    · go_enter Tryd.func3, Tryd.ntmps3
      go_wp2_with fail
      refine (macAwake_any w HL.out).mono ?_
      rintro e w1 ⟨rfl, k⟩
      go_wp2
      go_ret
      exact ⟨rfl, k⟩
    · have hx : xs.length ≤ 2048 := by omega
      have hy : ys.length ≤ 2048 := by omega
      go_enter Tryd.func3, Tryd.ntmps3
      go_wp2_with fail
      refine (macAwake_any w HL.out).mono ?_
      rintro e w1 ⟨rfl, k1⟩
      go_wp2_with fail
      refine (mac_any _ _ xs ys w1 (HL.out.below k1 HL.out.size) (H1.out.below k1) (H2.out.below k1) (by omega) (by omega)).mono ?_
      rintro e w2 ⟨r2, rfl, o2, b2⟩
      have k2 : Below w.heap.size w w2 := k1.trans (b2.mono k1.size)
      have O2 := Lib.hid o2
      clear o2 b2 k1
      go_wp2_with fail
      refine (rmac_any _ _ xs ys w2 (H1.out.below k2) HN1.out (H2.out.below k2) HN2.out (by omega) (by omega)).mono ?_
      rintro e w3 ⟨r3, rfl, o3, b3⟩
      have k3 : Below w.heap.size w w3 := k2.trans (b3.mono k2.size)
      have O3 := Lib.hid o3
      have O2' := Lib.hid (O2.out.below b3)
      clear o3 b3 k2 O2
      go_wp2_with fail
      refine (requal_yes _ _ (M.mac xs ys) w3 O2'.out.isB O3.out.isB).mono ?_
      rintro e w4 ⟨rfl, b4⟩
      have k4 : Below w.heap.size w w4 := k3.trans (b4.mono k3.size)
      clear b4 k3 O2' O3
      go_wp2_with fail
      refine (extract_any _ _ xs ys w4 (HL.out.below k4 HL.out.size) (H1.out.below k4) (H2.out.below k4) (by omega) (by omega)).mono ?_
      rintro e w5 ⟨r5, rfl, o5, b5⟩
      have k5 : Below w.heap.size w w5 := k4.trans (b5.mono k4.size)
      have O5 := Lib.hid o5
      clear o5 b5 k4
      go_wp2_with fail
      refine (rextract_any _ _ xs ys w5 (H1.out.below k5) HN1.out (H2.out.below k5) HN2.out (by omega) (by omega)).mono ?_
      rintro e w6 ⟨r6, rfl, o6, b6⟩
      have k6 : Below w.heap.size w w6 := k5.trans (b6.mono k5.size)
      have O6 := Lib.hid o6
      have O5' := Lib.hid (O5.out.below b6)
      clear o6 b6 k5 O5
      go_wp2_with fail
      refine (requal_yes _ _ (M.mac xs ys) w6 O5'.out.isB O6.out.isB).mono ?_
      rintro e w7 ⟨rfl, b7⟩
      have k7 : Below w.heap.size w w7 := k6.trans (b7.mono k6.size)
      go_wp2
      go_ret
      exact ⟨rfl, k7⟩

end Go.Proofs.YtmjeilhppgdmfaaDoor
