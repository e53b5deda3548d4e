/-
  THE WALK OF orloplaw01.WordPuts: it returns true, and writes nothing that was there. Conditions: the two numbers are numbers of their kinds.
-/
import Derived.Test.YtcablmipgckfnaaAwake
import Derived.Test.YtcablmipgckfnaaWordA
import Derived.Test.YtcablmipgckfnaaRefA
namespace Go.Proofs.Ytcablmipgckfnaa
open Go.RowKit

/-- orlopref01.Equal of the same bytes. -/
theorem equal_yes (v1 v2 : Value) (xs : List UInt8) (w : World) (h1 : IsB w v1 xs) (h2 : IsB w v2 xs) :
    Calls Try.prog 10 #[v1, v2] w fun e w' => e = .returned (.bool true) ∧ Below w.heap.size w w' := by
  refine (equal_any v1 v2 xs xs w h1 h2).mono ?_
  rintro e w' ⟨rfl, n, rfl⟩
  exact ⟨by simp, below_draws w n⟩

theorem wordPuts_walk (w : World) (v : Nat) (hv0 : v < 4294967296) (x : Nat) (hx0 : x < 18446744073709551616) :
    Calls Try.prog 3 #[.int .u32 v, .int .u64 x] w fun e w' => e = .returned (.bool true) ∧ Below w.heap.size w w' := by
  have hv : v ≤ 4294967295 := by omega
  have hx : Hid (x < 18446744073709551616) := hx0
  clear hv0 hx0
  have E4 : Hid (M.gl (M.le v 4) 4 = v) := M.gl_of_le v 4 (by omega)
  have F4 : Hid (M.gb (M.le v 4).reverse 4 = v) := M.gb_of_back v 4 (by omega)
  have E8 : Hid (M.gl (M.le x 8) 8 = x) := M.gl_of_le x 8 hx.out
  have F8 : Hid (M.gb (M.le x 8).reverse 8 = x) := M.gb_of_back x 8 hx.out
  have L4 : Hid ((M.le v 4).length ≤ 140737488355328) := by rw [Hid, M.le_length]; omega
  have L8 : Hid ((M.le x 8).length ≤ 140737488355328) := by rw [Hid, M.le_length]; omega
  go_enter Try.func3, Try.ntmps3
  -- BEGIN WALK
  go_wp2_with fail
  refine (awake_any _).mono ?_
  rintro e w1 ⟨rfl, k⟩
  go_wp2_with fail
  refine (little_any v 4 _ (by omega) (by omega)).mono ?_
  rintro e w2 ⟨r_i5, rfl, o, b⟩
  have k := k.trans (b.mono k.size)
  have i5 := o.isB
  clear o b
  go_wp2_with fail
  refine (little_any x 8 _ hx.out (by omega)).mono ?_
  rintro e w3 ⟨r_i6, rfl, o, b⟩
  have i5 := i5.below b
  have k := k.trans (b.mono k.size)
  have i6 := o.isB
  clear o b
  go_wp2_with fail
  refine (put32_any v _ hv).mono ?_
  rintro e w4 ⟨r_i, rfl, o, b⟩
  have i5 := i5.below b
  have i6 := i6.below b
  have k := k.trans (b.mono k.size)
  have i := o.isB
  clear o b
  go_wp2_with fail
  refine (equal_yes _ _ _ _ i i5).mono ?_
  rintro e w5 ⟨rfl, b⟩
  have i5 := i5.below b
  have i6 := i6.below b
  have i := i.below b
  have k := k.trans (b.mono k.size)
  clear b
  clear i
  go_wp2_with fail
  refine (put64_any x _).mono ?_
  rintro e w6 ⟨r_i, rfl, o, b⟩
  have i5 := i5.below b
  have i6 := i6.below b
  have k := k.trans (b.mono k.size)
  have i := o.isB
  clear o b
  go_wp2_with fail
  refine (equal_yes _ _ _ _ i i6).mono ?_
  rintro e w7 ⟨rfl, b⟩
  have i5 := i5.below b
  have i6 := i6.below b
  have i := i.below b
  have k := k.trans (b.mono k.size)
  clear b
  clear i
  go_wp2_with fail
  refine (big32_any v _ hv).mono ?_
  rintro e w8 ⟨r_i, rfl, o, b⟩
  have i5 := i5.below b
  have i6 := i6.below b
  have k := k.trans (b.mono k.size)
  have i := o.isB
  clear o b
  go_wp2_with fail
  refine (back_any _ _ _ i5 L4.out).mono ?_
  rintro e w9 ⟨r_j, rfl, o, b⟩
  have i5 := i5.below b
  have i6 := i6.below b
  have i := i.below b
  have k := k.trans (b.mono k.size)
  have j := o.isB
  clear o b
  go_wp2_with fail
  refine (equal_yes _ _ _ _ i j).mono ?_
  rintro e w10 ⟨rfl, b⟩
  have i5 := i5.below b
  have i6 := i6.below b
  have i := i.below b
  have j := j.below b
  have k := k.trans (b.mono k.size)
  clear b
  clear i j i5
  go_wp2_with fail
  refine (big64_any x _).mono ?_
  rintro e w11 ⟨r_i, rfl, o, b⟩
  have i6 := i6.below b
  have k := k.trans (b.mono k.size)
  have i := o.isB
  clear o b
  go_wp2_with fail
  refine (back_any _ _ _ i6 L8.out).mono ?_
  rintro e w12 ⟨r_j, rfl, o, b⟩
  have i6 := i6.below b
  have i := i.below b
  have k := k.trans (b.mono k.size)
  have j := o.isB
  clear o b
  go_wp2_with fail
  refine (equal_yes _ _ _ _ i j).mono ?_
  rintro e w13 ⟨rfl, b⟩
  have i6 := i6.below b
  have i := i.below b
  have j := j.below b
  have k := k.trans (b.mono k.size)
  clear b
  clear i j i6
  go_wp2_with fail
  refine (put32_any v _ hv).mono ?_
  rintro e w14 ⟨r_i, rfl, o, b⟩
  have k := k.trans (b.mono k.size)
  have i := o.isB
  clear o b
  go_wp2_with fail
  refine (get32_any _ _ _ i).mono ?_
  rintro e w15 ⟨rfl, rfl⟩
  rw [E4.out]
  clear i
  go_wp2_with fail
  refine (put64_any x _).mono ?_
  rintro e w15 ⟨r_i, rfl, o, b⟩
  have k := k.trans (b.mono k.size)
  have i := o.isB
  clear o b
  go_wp2_with fail
  refine (get64_any _ _ _ i).mono ?_
  rintro e w16 ⟨rfl, rfl⟩
  rw [E8.out]
  clear i
  go_wp2_with fail
  refine (big32_any v _ hv).mono ?_
  rintro e w16 ⟨r_i, rfl, o, b⟩
  have k := k.trans (b.mono k.size)
  have i := o.isB
  clear o b
  go_wp2_with fail
  refine (getBig32_any _ _ _ i).mono ?_
  rintro e w17 ⟨rfl, rfl⟩
  rw [F4.out]
  clear i
  go_wp2_with fail
  refine (big64_any x _).mono ?_
  rintro e w17 ⟨r_i, rfl, o, b⟩
  have k := k.trans (b.mono k.size)
  have i := o.isB
  clear o b
  go_wp2_with fail
  refine (getBig64_any _ _ _ i).mono ?_
  rintro e w18 ⟨rfl, rfl⟩
  rw [F8.out]
  clear i
  go_wp2
  go_ret
  exact ⟨rfl, k⟩
  -- END WALK

end Go.Proofs.Ytcablmipgckfnaa
