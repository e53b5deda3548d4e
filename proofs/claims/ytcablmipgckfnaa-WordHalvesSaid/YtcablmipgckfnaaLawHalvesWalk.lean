/-
  THE WALK OF orloplaw01.WordHalves: it returns true, and writes nothing that was there. Conditions: the number is one of its kind.
-/
import Derived.Test.YtcablmipgckfnaaLawPutsWalk
namespace Go.Proofs.Ytcablmipgckfnaa
open Go.RowKit
set_option linter.unusedSimpArgs false

theorem wordHalves_walk (w : World) (x : Nat) (hx0 : x < 18446744073709551616) :
    Calls Try.prog 7 #[.int .u64 x] w fun e w' => e = .returned (.bool true) ∧ Below w.heap.size w w' := by
  obtain ⟨i0, hi, hz0, hz1, hz2⟩ := info_parts Try.info5
  obtain ⟨lo, hlo⟩ : ∃ l, l = x % 4294967296 := ⟨_, rfl⟩
  obtain ⟨hh, hhi⟩ : ∃ l, l = x / 4294967296 := ⟨_, rfl⟩
  have ll : lo ≤ 4294967295 := by omega
  have lh : hh ≤ 4294967295 := by omega
  have LO : Hid (lo = x % 4294967296) := hlo
  have HH : Hid (hh = x / 4294967296) := hhi
  have E : Hid (M.le lo 4 ++ M.le hh 4 = M.le x 8) := by rw [Hid, LO.out, HH.out, ← M.halves]
  have F : Hid ((M.le hh 4).reverse ++ (M.le lo 4).reverse = (M.le x 8).reverse) := by rw [Hid, LO.out, HH.out, ← M.halves_back]
  have HX : Hid (x < 18446744073709551616) := hx0
  clear hlo hhi hx0
  go_enter Try.func7, Try.ntmps7
  go_wp2_with fail
  refine (awake_any _).mono ?_
  rintro e w1 ⟨rfl, k⟩
  -- BEGIN WALK
  go_wp2_with fail
  rw [show ((x : Int) % 4294967296) = (lo : Int) by have := LO.out; omega, show ((x : Int) / 4294967296 % 4294967296) = (hh : Int) by have := HH.out; have := HX.out; omega]
  refine (put32_any lo _ ll).mono ?_
  rintro e w2 ⟨ra, rfl, oa, ba⟩
  go_wp2_with fail
  refine (put32_any hh _ lh).mono ?_
  rintro e w3 ⟨rb, rfl, ob, bb⟩
  have oa := oa.below bb
  have kab := ba.trans (bb.mono ba.size)
  have hs1 := kab.size
  obtain ⟨gb, cb, rfl, hgb⟩ := ob.shape (by rw [M.le_length]; omega)
  go_wp2_with (at_builtin; go_must (refine wpList_append_own _ rfl _ _ 25 rfl w1.heap.size 5 i0 (.int .u8 0) 1 1 Try.underlying25 hi hz0 hz1 hz2 rfl (by decide) _ _ _ rfl oa.row ⟨gb, 0, none⟩ (M.le hh 4).length cb (Lib.byteCells (M.le hh 4)) rfl (by rw [byteCells_length, Nat.mul_one]) ob.cells (byteCells_oneCell _) (by simp only [List.length_reverse, M.le_length]; unfold maxLen; omega) (by simp only [List.length_reverse, M.le_length]; omega) (by first | exact Nat.le_refl _ | omega) ?_))
  intro r5 w4 own5 grow5 _
  have k4 := kab.grown grow5 hs1 (fun q hq => (oa.row.lt q hq).1)
  have a5 : Own w4 w1.heap.size r5 (M.le x 8) := by rw [← E.out, Own, byteCells_append, List.length_append]; exact own5
  have k := k.trans (k4.mono k.size)
  clear own5 grow5 oa ob ba bb kab k4 hs1 hgb
  go_wp2_with fail
  refine (big32_any hh _ lh).mono ?_
  rintro e w5 ⟨rc, rfl, oa, ba⟩
  go_wp2_with fail
  refine (big32_any lo _ ll).mono ?_
  rintro e w6 ⟨rd, rfl, ob, bb⟩
  have oa := oa.below bb
  have kab := ba.trans (bb.mono ba.size)
  have hs1 := kab.size
  obtain ⟨gd, cd, rfl, hgb⟩ := ob.shape (by rw [List.length_reverse, M.le_length]; omega)
  go_wp2_with (at_builtin; go_must (refine wpList_append_own _ rfl _ _ 25 rfl w4.heap.size 5 i0 (.int .u8 0) 1 1 Try.underlying25 hi hz0 hz1 hz2 rfl (by decide) _ _ _ rfl oa.row ⟨gd, 0, none⟩ ((M.le lo 4).reverse).length cd (Lib.byteCells ((M.le lo 4).reverse)) rfl (by rw [byteCells_length, Nat.mul_one]) ob.cells (byteCells_oneCell _) (by simp only [List.length_reverse, M.le_length]; unfold maxLen; omega) (by simp only [List.length_reverse, M.le_length]; omega) (by first | exact Nat.le_refl _ | omega) ?_))
  intro r6 w7 own6 grow6 _
  have k7 := kab.grown grow6 hs1 (fun q hq => (oa.row.lt q hq).1)
  have a6 : Own w7 w4.heap.size r6 (M.le x 8).reverse := by rw [← F.out, Own, byteCells_append, List.length_append]; exact own6
  have i5 := (a5.below k7).isB
  have i6 := a6.isB
  have k := k.trans (k7.mono k.size)
  clear own6 grow6 oa ob ba bb kab k7 hs1 hgb a5 a6 hi hz0 hz1 hz2
  go_wp2_with fail
  refine (put64_any x _).mono ?_
  rintro e w8 ⟨r_i, rfl, o, b⟩
  have i5 := i5.below b
  have i6 := i6.below b
  have k := k.trans (b.mono k.size)
  have i := o.isB
  clear o b
  go_wp2_with fail
  refine (equal_yes _ _ _ _ i i5).mono ?_
  rintro e w9 ⟨rfl, b⟩
  have i5 := i5.below b
  have i6 := i6.below b
  have i := i.below b
  have k := k.trans (b.mono k.size)
  clear b
  clear i i5
  go_wp2_with fail
  refine (big64_any x _).mono ?_
  rintro e w10 ⟨r_i, rfl, o, b⟩
  have i6 := i6.below b
  have k := k.trans (b.mono k.size)
  have i := o.isB
  clear o b
  go_wp2_with fail
  refine (equal_yes _ _ _ _ i i6).mono ?_
  rintro e w11 ⟨rfl, b⟩
  have i6 := i6.below b
  have i := i.below b
  have k := k.trans (b.mono k.size)
  clear b
  clear i
  go_wp2_with fail
  refine (put64_any x _).mono ?_
  rintro e w12 ⟨r_i, rfl, o, b⟩
  have i6 := i6.below b
  have k := k.trans (b.mono k.size)
  have i := o.isB
  clear o b
  go_wp2_with fail
  refine (back_any _ _ _ i6 (by rw [List.length_reverse, M.le_length]; omega)).mono ?_
  rintro e w13 ⟨r_j, rfl, o, b⟩
  have i6 := i6.below b
  have i := i.below b
  have k := k.trans (b.mono k.size)
  have j := o.isB
  clear o b
  rw [List.reverse_reverse] at j
  go_wp2_with fail
  refine (equal_yes _ _ _ _ i j).mono ?_
  rintro e w14 ⟨rfl, b⟩
  have i6 := i6.below b
  have i := i.below b
  have j := j.below b
  have k := k.trans (b.mono k.size)
  clear b
  go_wp2
  go_ret
  exact ⟨rfl, k⟩
  -- END WALK

end Go.Proofs.Ytcablmipgckfnaa
