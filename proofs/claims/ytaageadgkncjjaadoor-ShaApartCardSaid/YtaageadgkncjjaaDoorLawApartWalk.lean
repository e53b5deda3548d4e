/-
  THE WALK OF orloplaw02.ShaApart: it returns true, and writes nothing that was there. Conditions: the program's two tables lie as they were laid.
-/
import Derived.Test.YtaageadgkncjjaaDoorLawDigestsWalk
namespace Go.Proofs.YtaageadgkncjjaaDoor
open Go.RowKit
set_option linter.unusedVariables false

theorem Off.nil (g : Nat) : Off (.slice none 0 0) g := fun ad n c e => by cases e

set_option maxHeartbeats 1000000 in
theorem shaApart_walk (w : World) (hL : Laid w) (v1 : Value) (xs : List UInt8) (h1 : IsB w v1 xs) (hn1 : ∀ n c, v1 = .slice none n c → c = 0) (v2 : Value) (ys : List UInt8) (h2 : IsB w v2 ys) (hn2 : ∀ n c, v2 = .slice none n c → c = 0) :
    Calls Tryd.prog 6 #[v1, v2] w fun e w' => e = .returned (.bool true) ∧ Below w.heap.size w w' := by
  obtain ⟨ao1, cap1, rfl⟩ : ∃ ao cap, v1 = .slice ao xs.length cap := by
    obtain ⟨ao, cap, e, _⟩ := h1
    exact ⟨ao, cap, e⟩
  obtain ⟨ao2, cap2, rfl⟩ : ∃ ao cap, v2 = .slice ao ys.length cap := by
    obtain ⟨ao, cap, e, _⟩ := h2
    exact ⟨ao, cap, e⟩
  have hl1 : xs.length ≤ maxLen := by obtain ⟨_, _, _, h1, h2, _⟩ := h1; omega
  have hl2 : ys.length ≤ maxLen := by obtain ⟨_, _, _, h1, h2, _⟩ := h2; omega
  unfold maxLen at hl1 hl2
  have HN1 : Hid (∀ n c, Value.slice ao1 xs.length cap1 = .slice none n c → c = 0) := hn1
  have HN2 : Hid (∀ n c, Value.slice ao2 ys.length cap2 = .slice none n c → c = 0) := hn2
  have H1 : Hid (IsB w (.slice ao1 xs.length cap1) xs) := h1
  have H2 : Hid (IsB w (.slice ao2 ys.length cap2) ys) := h2
  have HL : Hid (Laid w) := hL
  clear hn1 hn2 h1 h2 hL
  by_cases hb : 2048 < xs.length
  · go_enter Tryd.func6, Tryd.ntmps6
    go_wp2_with fail
    refine (shaAwake_any w HL.out).mono ?_
    rintro e w1 ⟨rfl, k⟩
    go_wp2
    go_ret
    exact ⟨rfl, k⟩
  · by_cases hb2 : 2048 < ys.length
    · go_enter Tryd.func6, Tryd.ntmps6
      go_wp2_with fail
      refine (shaAwake_any w HL.out).mono ?_
      rintro e w1 ⟨rfl, k⟩
      go_wp2
      go_ret
      exact ⟨rfl, k⟩
    · go_enter Tryd.func6, Tryd.ntmps6
      go_wp2_with fail
      refine (shaAwake_any w HL.out).mono ?_
      rintro e w1 ⟨rfl, k1⟩
      go_wp2_with fail
      refine (new_any w1 (HL.out.below k1 HL.out.size)).mono ?_
      rintro e w2 ⟨rfl, hx, b2⟩
      have k2 : Below w.heap.size w w2 := k1.trans (b2.mono k1.size)
      have hw1 : w.heap.size ≤ w1.heap.size := k1.size
      have hgx : w1.heap.size < w2.heap.size := hx.lt
      have hg2 : 2 ≤ w1.heap.size := Nat.le_trans HL.out.size hw1
      obtain ⟨gx, hgxe⟩ : ∃ gx, gx = w1.heap.size := ⟨_, rfl⟩
      rw [← hgxe] at hx hgx hw1 hg2 ⊢
      have X2 : Hid (HashIs w2 gx []) := hx
      clear hx b2 k1 hgxe
      go_wp2_with fail
      refine (new_any w2 (HL.out.below k2 HL.out.size)).mono ?_
      rintro e w3 ⟨rfl, hy, b3⟩
      have k3 : Below w.heap.size w w3 := k2.trans (b3.mono k2.size)
      have hw2 : w.heap.size ≤ w2.heap.size := k2.size
      obtain ⟨gy, hgye⟩ : ∃ gy, gy = w2.heap.size := ⟨_, rfl⟩
      have X3 : Hid (HashIs w3 gx []) := X2.out.below b3 hgx
      rw [← hgye] at hy hgx hw2 ⊢
      have Y3 : Hid (HashIs w3 gy []) := hy
      have hg3 : 2 ≤ gy := by omega
      have hne : gx ≠ gy := by omega
      have OX1 : Hid (Off (.slice ao1 xs.length cap1) gx) := H1.out.off hw1
      have OY1 : Hid (Off (.slice ao1 xs.length cap1) gy) := H1.out.off hw2
      have OY2 : Hid (Off (.slice ao2 ys.length cap2) gy) := H2.out.off hw2
      have HNE : Hid (gx ≠ gy) := hne
      clear hy b3 k2 hgye X2 hne
      go_wp2_with fail
      refine (add_any gx [] xs _ w3 (HL.out.below k3 HL.out.size) hg2 X3.out (H1.out.below k3) OX1.out (by simp; omega)).mono ?_
      rintro e w4 ⟨rfl, hx, o4⟩
      have k4 : Below w.heap.size w w4 := k3.trans (o4.below k3.size hw1)
      have X4 : Hid (HashIs w4 gx ([] ++ xs)) := hx
      have Y4 : Hid (HashIs w4 gy []) := Y3.out.only o4 (Ne.symm HNE.out)
      clear hx o4 k3 X3 Y3
      go_wp2_with fail
      refine (add_any gy [] ys _ w4 (HL.out.below k4 HL.out.size) hg3 Y4.out (H2.out.below k4) OY2.out (by simp; omega)).mono ?_
      rintro e w5 ⟨rfl, hy, o5⟩
      have k5 : Below w.heap.size w w5 := k4.trans (o5.below k4.size hw2)
      have Y5 : Hid (HashIs w5 gy ([] ++ ys)) := hy
      have X5 : Hid (HashIs w5 gx ([] ++ xs)) := X4.out.only o5 HNE.out
      clear hy o5 k4 X4 Y4
      go_wp2_with fail
      refine (add_any gx ([] ++ xs) [] _ w5 (HL.out.below k5 HL.out.size) hg2 X5.out (IsB.nil w5) (Off.nil gx) (by simp; omega)).mono ?_
      rintro e w6 ⟨rfl, hx, o6⟩
      have k6 : Below w.heap.size w w6 := k5.trans (o6.below k5.size hw1)
      have X6 : Hid (HashIs w6 gx xs) := by simpa [Hid] using hx
      have Y6 : Hid (HashIs w6 gy ([] ++ ys)) := Y5.out.only o6 (Ne.symm HNE.out)
      clear hx o6 k5 X5 Y5
      go_wp2_with fail
      refine (add_any gy ([] ++ ys) xs _ w6 (HL.out.below k6 HL.out.size) hg3 Y6.out (H1.out.below k6) OY1.out (by simp; omega)).mono ?_
      rintro e w7 ⟨rfl, hy, o7⟩
      have k7 : Below w.heap.size w w7 := k6.trans (o7.below k6.size hw2)
      have Y7 : Hid (HashIs w7 gy (ys ++ xs)) := by simpa [Hid] using hy
      have X7 : Hid (HashIs w7 gx xs) := X6.out.only o7 HNE.out
      clear hy o7 k6 X6 Y6
      go_wp2_with fail
      refine (sum_any gx xs w7 (HL.out.below k7 HL.out.size) X7.out (by omega)).mono ?_
      rintro e w8 ⟨r8, rfl, o8, b8⟩
      have k8 : Below w.heap.size w w8 := k7.trans (b8.mono k7.size)
      have R8 : Hid (Own w8 w7.heap.size r8 (M.sha xs)) := o8
      have Y8 : Hid (HashIs w8 gy (ys ++ xs)) := Y7.out.below b8 Y7.out.lt
      clear o8 b8 k7 X7 Y7
      go_wp2_with fail
      refine (of_any _ xs w8 (HL.out.below k8 HL.out.size) (H1.out.below k8) (by omega)).mono ?_
      rintro e w9 ⟨r9, rfl, o9, b9⟩
      have k9 : Below w.heap.size w w9 := k8.trans (b9.mono k8.size)
      have R9 : Hid (Own w9 w8.heap.size r9 (M.sha xs)) := o9
      have R8' : Hid (Own w9 w7.heap.size r8 (M.sha xs)) := R8.out.below b9
      have Y9 : Hid (HashIs w9 gy (ys ++ xs)) := Y8.out.below b9 Y8.out.lt
      clear o9 b9 k8 R8 Y8
      go_wp2_with fail
      refine (requal_yes _ _ (M.sha xs) w9 R8'.out.isB R9.out.isB).mono ?_
      rintro e w10 ⟨rfl, b10⟩
      have k10 : Below w.heap.size w w10 := k9.trans (b10.mono k9.size)
      have Y10 : Hid (HashIs w10 gy (ys ++ xs)) := Y9.out.below b10 Y9.out.lt
      clear b10 k9 R8' R9 Y9
      go_wp2_with fail
      refine (sum_any gy (ys ++ xs) w10 (HL.out.below k10 HL.out.size) Y10.out (by rw [List.length_append]; omega)).mono ?_
      rintro e w11 ⟨r11, rfl, o11, b11⟩
      have k11 : Below w.heap.size w w11 := k10.trans (b11.mono k10.size)
      have R11 : Hid (Own w11 w10.heap.size r11 (M.sha (ys ++ xs))) := o11
      clear o11 b11 k10 Y10
      have hs11 : w.heap.size ≤ w11.heap.size := k11.size
      go_wp2_with (at_builtin; go_must (refine wpList_unguard rfl (wpList_app _ rfl _ _ rfl w11.heap.size _ [] rfl ?c1 _ ys rfl ?c2 HN2.out (by simp; omega) (by simp) ?_)))
      case c1 => exact own_empty w11
      case c2 => exact (H2.out.below k11).below ((Below.refl _ _).alloc (Nat.le_refl _) _)
      intro r12 w12 o12 b12 _
      have b12' : Below w11.heap.size w11 w12 := ((Below.refl _ _).alloc (Nat.le_refl _) (.cells #[] 5)).trans b12
      have k12 : Below w.heap.size w w12 := k11.trans (b12'.mono hs11)
      have R12 : Hid (Own w12 w11.heap.size r12 ys) := o12
      have hs12 : w11.heap.size ≤ w12.heap.size := b12'.size
      clear o12 b12
      go_wp2_with (at_builtin; go_must (refine wpList_unguard rfl (wpList_app _ rfl _ _ rfl w11.heap.size _ ys rfl R12.out _ xs rfl (H1.out.below k12) HN1.out (by omega) hs12 ?_)))
      intro r13 w13 o13 b13 _
      have k13 : Below w.heap.size w w13 := k12.trans (b13.mono hs11)
      have R13 : Hid (Own w13 w11.heap.size r13 (ys ++ xs)) := o13
      have R13' : Hid (IsB w13 r11 (M.sha (ys ++ xs))) := (R11.out.below (b12'.trans b13)).isB
      clear o13 b13 b12' R12 R11
      go_wp2_with fail
      refine (of_any _ (ys ++ xs) w13 (HL.out.below k13 HL.out.size) R13.out.isB (by rw [List.length_append]; omega)).mono ?_
      rintro e w14 ⟨r14, rfl, o14, b14⟩
      have k14 : Below w.heap.size w w14 := k13.trans (b14.mono k13.size)
      have R14 : Hid (Own w14 w13.heap.size r14 (M.sha (ys ++ xs))) := o14
      have R11' : Hid (IsB w14 r11 (M.sha (ys ++ xs))) := R13'.out.below b14
      clear o14 b14 k13 R13'
      go_wp2_with fail
      refine (requal_yes _ _ (M.sha (ys ++ xs)) w14 R11'.out R14.out.isB).mono ?_
      rintro e w15 ⟨rfl, b15⟩
      have k15 : Below w.heap.size w w15 := k14.trans (b15.mono k14.size)
      go_wp2
      go_ret
      exact ⟨rfl, k15⟩

end Go.Proofs.YtaageadgkncjjaaDoor
