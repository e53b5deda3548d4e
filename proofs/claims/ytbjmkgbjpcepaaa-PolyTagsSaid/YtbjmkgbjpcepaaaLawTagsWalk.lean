/-
  THE WALK OF orloplaw05.PolyTags: it returns true, and writes nothing that was there. Conditions: none.
-/
import Derived.Test.YtbjmkgbjpcepaaaPolyAwake
import Derived.Test.YtbjmkgbjpcepaaaWordC
import Derived.Test.YtbjmkgbjpcepaaaRefTag2
namespace Go.Proofs.Ytbjmkgbjpcepaaa
open Go.RowKit
set_option linter.unusedVariables false

theorem requal_yes6 (v1 v2 : Value) (xs : List UInt8) (w : World) (h1 : IsB w v1 xs) (h2 : IsB w v2 xs) :
    Calls Try.prog 10 #[v1, v2] w fun e w' => e = .returned (.bool true) ∧ Below w.heap.size w w' := by
  refine (requal_b v1 v2 xs xs w h1 h2).mono ?_
  rintro e w' ⟨rfl, k⟩
  exact ⟨by simp, k⟩

set_option maxHeartbeats 1000000 in
theorem polyTags_walk (w : World) (kv : Value) (key : List UInt8) (hk : IsB w kv key) (mv : Value) (m : List UInt8) (hm : IsB w mv m) (hnil : ∀ n c, mv = .slice none n c → c = 0) :
    Calls Try.prog 3 #[kv, mv] w fun e w' => e = .returned (.bool true) ∧ Below w.heap.size w w' := by
  have HK := Lib.hid hk
  have HM := Lib.hid hm
  obtain ⟨a2, c2, rfl, hm1, hm2, hmt⟩ := hm
  have HN := Lib.hid hnil
  obtain ⟨L, hL⟩ : ∃ L, L = m.length := ⟨_, rfl⟩
  have HLN := Lib.hid hL
  rw [← hL] at HM hm1 HN ⊢
  unfold maxLen at hm2
  clear hL hmt hnil hk
  go_enter Try.func3, Try.ntmps3
  go_wp2_with fail
  refine (polyAwake_any w).mono ?_
  rintro e w1 ⟨rfl, k1⟩
  by_cases hb : 2048 < L
  · go_wp2
    go_ret
    exact ⟨rfl, k1⟩
  · have B1 : Hid (IsB w1 (.slice a2 L c2) m) := HM.out.below k1
    have HL2 : Hid (m.length ≤ 2048) := by rw [Hid, ← HLN.out]; omega
    go_wp2_with (at_builtin; go_must (refine wpList_app _ rfl _ _ rfl w1.heap.size _ [] rfl ?c1 _ m rfl ?c2 HN.out (by have := HL2.out; simp; omega) (by simp) ?_))
    case c1 => exact own_empty w1
    case c2 => exact B1.out.below ((Below.refl _ _).alloc (Nat.le_refl _) _)
    intro r2 w2 o2 b2 _
    have k12 : Below w1.heap.size w1 w2 := ((Below.refl _ _).alloc (Nat.le_refl _) (.cells #[] 5)).trans b2
    have k2 : Below w.heap.size w w2 := k1.trans (k12.mono k1.size)
    have O2 : Hid (IsB w2 r2 m) := Own.isB (B := w1.heap.size) o2
    have HO : Hid (∀ w', Below w2.heap.size w2 w' → IsB w' r2 m) := fun w' k => O2.out.below k
    have HM2 : Hid (∀ w', Below w2.heap.size w2 w' → IsB w' (.slice a2 L c2) m) := fun w' k => HM.out.below (k2.trans (k.mono k2.size))
    have HK2 : Hid (IsB w2 kv key) := HK.out.below k2
    clear o2 b2 k12 k1 B1
    by_cases hk32 : key.length = 32
    · obtain ⟨T, hT⟩ : ∃ T, Hid (T = M.tag key m) := ⟨_, rfl⟩
      have HTG : Hid (Calls Try.prog 8 #[kv, r2] w2 fun e w' => ∃ r, e = .returned (.tuple #[r, .int .i64 0]) ∧ Own w' w2.heap.size r T ∧ Below w2.heap.size w2 w') := by
        rw [Hid, hT.out]
        exact tag_yes kv r2 key m w2 HK2.out O2.out hk32 (by have := HL2.out; omega)
      go_wp2_with fail
      refine HTG.out.mono ?_
      rintro e w3 ⟨r3, rfl, o3, k3⟩
      have HTR : Hid (Calls Try.prog 9 #[kv, .slice a2 L c2] w3 fun e w' => ∃ r, e = .returned (.tuple #[r, .int .i64 0]) ∧ Own w' w3.heap.size r T ∧ Below w3.heap.size w3 w') := by
        rw [Hid, hT.out]
        exact rtag_any kv _ key m w3 (HK2.out.below k3) (HM2.out w3 k3) hk32 (by have := HL2.out; omega)
      have O3 : Hid (IsB w3 r3 T) := o3.isB
      clear o3 HTG
      go_wp2_with fail
      refine HTR.out.mono ?_
      rintro e w4 ⟨r4, rfl, o4, k4⟩
      have k24 : Below w2.heap.size w2 w4 := k3.trans (k4.mono k3.size)
      have i3 : IsB w4 r3 T := O3.out.below k4
      have i4 : IsB w4 r4 T := o4.isB
      have HE1 := Lib.hid (requal_yes6 r3 r4 T w4 i3 i4)
      clear o4 HTR i3 i4 k3 k4 O3
      go_wp2_with fail
      refine HE1.out.mono ?_
      rintro e w5 ⟨rfl, k5⟩
      have k25 : Below w2.heap.size w2 w5 := k24.trans (k5.mono k24.size)
      have HE2 := Lib.hid (requal_yes6 r2 (.slice a2 L c2) m w5 (HO.out w5 k25) (HM2.out w5 k25))
      clear HE1 k5 k24
      go_wp2_with fail
      refine HE2.out.mono ?_
      rintro e w6 ⟨rfl, k6⟩
      have kw : Below w.heap.size w w6 := k2.trans ((k25.trans (k6.mono k25.size)).mono k2.size)
      go_wp2
      go_ret
      exact ⟨rfl, kw⟩
    · have HTG := Lib.hid (tag_no kv r2 key m w2 HK2.out hk32)
      have HTR := Lib.hid (rtag_no kv (.slice a2 L c2) key m w2 HK2.out hk32)
      have HE1 := Lib.hid (requal_yes6 (.slice none 0 0) (.slice none 0 0) [] w2 (IsB.nil _) (IsB.nil _))
      clear hk32
      go_wp2_with fail
      refine HTG.out.mono ?_
      rintro e w3 ⟨rfl, rfl⟩
      go_wp2_with fail
      refine HTR.out.mono ?_
      rintro e w4 ⟨rfl, rfl⟩
      go_wp2_with fail
      refine HE1.out.mono ?_
      rintro e w5 ⟨rfl, k5⟩
      have HE2 := Lib.hid (requal_yes6 r2 (.slice a2 L c2) m w5 (HO.out w5 k5) (HM2.out w5 k5))
      go_wp2_with fail
      refine HE2.out.mono ?_
      rintro e w6 ⟨rfl, k6⟩
      have kw : Below w.heap.size w w6 := k2.trans ((k5.trans (k6.mono k5.size)).mono k2.size)
      go_wp2
      go_ret
      exact ⟨rfl, kw⟩

end Go.Proofs.Ytbjmkgbjpcepaaa
