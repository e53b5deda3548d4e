/-
  THE WALK OF orloplaw02.ShaDigests: it returns true, and writes nothing that was there. Conditions: the program's two tables lie as they were laid.
-/
import Derived.Test.YtaageadgkncjjaaDoorShaAwake
namespace Go.Proofs.YtaageadgkncjjaaDoor
open Go.RowKit
set_option linter.unusedVariables false

theorem requal_yes (v1 v2 : Value) (xs : List UInt8) (w : World) (h1 : IsB w v1 xs) (h2 : IsB w v2 xs) :
    Calls Tryd.prog 8 #[v1, v2] w fun e w' => e = .returned (.bool true) ∧ Below w.heap.size w w' := by
  refine (requal_b v1 v2 xs xs w h1 h2).mono ?_
  rintro e w' ⟨rfl, k⟩
  exact ⟨by simp, k⟩

theorem shaDigests_walk (w : World) (hL : Laid w) (v : Value) (bs : List UInt8) (h1 : IsB w v bs) (hnil : ∀ n c, v = .slice none n c → c = 0) :
    Calls Tryd.prog 3 #[v] w fun e w' => e = .returned (.bool true) ∧ Below w.heap.size w w' := by
  obtain ⟨ao1, cap1, rfl⟩ : ∃ ao cap, v = .slice ao bs.length cap := by
    obtain ⟨ao, cap, e, _⟩ := h1
    exact ⟨ao, cap, e⟩
  have hl1 : bs.length ≤ maxLen := by obtain ⟨_, _, _, h1, h2, _⟩ := h1; omega
  unfold maxLen at hl1
  have HN : Hid (∀ n c, Value.slice ao1 bs.length cap1 = .slice none n c → c = 0) := hnil
  have HB : Hid (IsB w (.slice ao1 bs.length cap1) bs) := h1
  have HL : Hid (Laid w) := hL
  clear hnil h1 hL
  by_cases hb : 4096 < bs.length
  · go_enter Tryd.func3, Tryd.ntmps3
    go_wp2_with fail
    refine (shaAwake_any w HL.out).mono ?_
    rintro e w1 ⟨rfl, k⟩
    go_wp2
    go_ret
    exact ⟨rfl, k⟩
  · go_enter Tryd.func3, Tryd.ntmps3
    go_wp2_with fail
    refine (shaAwake_any w HL.out).mono ?_
    rintro e w1 ⟨rfl, k1⟩
    have B1 : Hid (IsB w1 (.slice ao1 bs.length cap1) bs) := HB.out.below k1
    go_wp2_with (at_builtin; go_must (refine wpList_app _ rfl _ _ rfl w1.heap.size _ [] rfl ?c1 _ bs rfl ?c2 HN.out (by simp; omega) (by simp) ?_))
    case c1 => exact own_empty w1
    case c2 => exact B1.out.below ((Below.refl _ _).alloc (Nat.le_refl _) _)
    intro r2 w2 o2 b2 _
    have k12 : Below w1.heap.size w1 w2 := ((Below.refl _ _).alloc (Nat.le_refl _) (.cells #[] 5)).trans b2
    have k2 : Below w.heap.size w w2 := k1.trans (k12.mono k1.size)
    have O2 : Hid (Own w2 w1.heap.size r2 bs) := o2
    have B2 : Hid (IsB w2 (.slice ao1 bs.length cap1) bs) := B1.out.below k12
    clear o2 b2 k12 k1 B1
    go_wp2_with fail
    refine (of_any r2 bs w2 (HL.out.below k2 HL.out.size) O2.out.isB (by omega)).mono ?_
    rintro e w3 ⟨r3, rfl, o3, k23⟩
    have k3 : Below w.heap.size w w3 := k2.trans (k23.mono k2.size)
    have O3 : Hid (Own w3 w2.heap.size r3 (M.sha bs)) := o3
    have O2' : Hid (Own w3 w1.heap.size r2 bs) := O2.out.below k23
    have B3 : Hid (IsB w3 (.slice ao1 bs.length cap1) bs) := B2.out.below k23
    clear o3 k2 k23 O2 B2
    go_wp2_with fail
    refine (rof_any _ bs w3 B3.out HN.out (by omega)).mono ?_
    rintro e w4 ⟨r4, rfl, o4, k34⟩
    have k4 : Below w.heap.size w w4 := k3.trans (k34.mono k3.size)
    have O4 : Hid (Own w4 w3.heap.size r4 (M.sha bs)) := o4
    have O3' : Hid (Own w4 w2.heap.size r3 (M.sha bs)) := O3.out.below k34
    have O2 : Hid (Own w4 w1.heap.size r2 bs) := O2'.out.below k34
    have B4 : Hid (IsB w4 (.slice ao1 bs.length cap1) bs) := B3.out.below k34
    clear o4 k3 k34 O2' B3 O3
    go_wp2_with fail
    refine (requal_yes _ _ (M.sha bs) w4 O3'.out.isB O4.out.isB).mono ?_
    rintro e w5 ⟨rfl, k45⟩
    have k5 : Below w.heap.size w w5 := k4.trans (k45.mono k4.size)
    have O5 : Hid (Own w5 w1.heap.size r2 bs) := O2.out.below k45
    have B5 : Hid (IsB w5 (.slice ao1 bs.length cap1) bs) := B4.out.below k45
    clear k45 k4 O2 B4 O3' O4
    go_wp2_with fail
    refine (requal_yes _ _ bs w5 O5.out.isB B5.out).mono ?_
    rintro e w6 ⟨rfl, k56⟩
    have k6 : Below w.heap.size w w6 := k5.trans (k56.mono k5.size)
    clear k56 k5
    go_wp2
    go_ret
    exact ⟨rfl, k6⟩

end Go.Proofs.YtaageadgkncjjaaDoor
