/-
  CONTRACTS OF (field.Elem).Add AND Sub. Conditions: the cells are elements'.
-/
import Derived.Test.YteombilmndlhjaaFieldB
namespace Go.Proofs.Yteombilmndlhjaa
open Go.RowKit
set_option linter.unusedVariables false

namespace M
theorem sub_mod {v a b x y : Nat} (h : v + b = a + 2 * Q) (hx : a % Q = x) (hy : b % Q = y) : v % Q = (x + (Q - y)) % Q := by
  subst hx hy
  unfold Q at *
  omega
end M

set_option maxHeartbeats 2000000 in
theorem fadd_any (A B : List Value) (x y : Nat) (w : World) (hA : Fl A x) (hB : Fl B y) :
    Calls Try.prog 42 #[.agg A.toArray, .agg B.toArray] w (GivesE Fl w ((x + y) % M.Q)) := by
  have hAl := hA.len
  have hBl := hB.len
  have hy := hB.lt
  obtain ⟨a0, a1, a2, a3, a4, ha, ⟨la0, la1, la2, la3, la4⟩, hx⟩ := hA
  obtain ⟨b0, b1, b2, b3, b4, hb, ⟨lb0, lb1, lb2, lb3, lb4⟩, hyy⟩ := hB
  obtain ⟨n0, hn0⟩ : ∃ v, v = a0 + b0 := ⟨_, rfl⟩
  obtain ⟨n1, hn1⟩ : ∃ v, v = a1 + b1 := ⟨_, rfl⟩
  obtain ⟨n2, hn2⟩ : ∃ v, v = a2 + b2 := ⟨_, rfl⟩
  obtain ⟨n3, hn3⟩ : ∃ v, v = a3 + b3 := ⟨_, rfl⟩
  obtain ⟨n4, hn4⟩ : ∃ v, v = a4 + b4 := ⟨_, rfl⟩
  obtain ⟨r, hr⟩ : ∃ r, r = (x + y) % M.Q := ⟨_, rfl⟩
  rw [← hr]
  have hv : M.V5 n0 n1 n2 n3 n4 % M.Q = r := by
    rw [hn0, hn1, hn2, hn3, hn4, M.add_ok, hr, Nat.add_mod, hx, hyy]
  have C := Lib.hid (fun w => fcarried_any n0 n1 n2 n3 n4 w (by omega) (by omega) (by omega) (by omega) (by omega) r hv)
  have s0 : IntKind.u64.wrap ((a0 : Int) + (b0 : Int)) = (n0 : Int) := by rw [IntKind.wrap_u64]; omega
  have s0' : ((a0 : Int) + (b0 : Int)) % 18446744073709551616 = (n0 : Int) := by omega
  have s1 : IntKind.u64.wrap ((a1 : Int) + (b1 : Int)) = (n1 : Int) := by rw [IntKind.wrap_u64]; omega
  have s1' : ((a1 : Int) + (b1 : Int)) % 18446744073709551616 = (n1 : Int) := by omega
  have s2 : IntKind.u64.wrap ((a2 : Int) + (b2 : Int)) = (n2 : Int) := by rw [IntKind.wrap_u64]; omega
  have s2' : ((a2 : Int) + (b2 : Int)) % 18446744073709551616 = (n2 : Int) := by omega
  have s3 : IntKind.u64.wrap ((a3 : Int) + (b3 : Int)) = (n3 : Int) := by rw [IntKind.wrap_u64]; omega
  have s3' : ((a3 : Int) + (b3 : Int)) % 18446744073709551616 = (n3 : Int) := by omega
  have s4 : IntKind.u64.wrap ((a4 : Int) + (b4 : Int)) = (n4 : Int) := by rw [IntKind.wrap_u64]; omega
  have s4' : ((a4 : Int) + (b4 : Int)) % 18446744073709551616 = (n4 : Int) := by omega
  obtain ⟨g, hg⟩ : ∃ g, g = w.heap.size := ⟨_, rfl⟩
  obtain ⟨W, hW⟩ : ∃ W, Hid (W = ((w.alloc (.cells A.toArray 40)).alloc (.cells B.toArray 40)).alloc (.cells z5.toArray 40)) := ⟨_, rfl⟩
  have A0 : Blk W g 40 A := by rw [hW.out, hg]; exact ((Blk.newAt _ _ _ _ _ rfl (by simp)).alloc _).alloc _
  have A1 : Blk W (g + 1) 40 B := by rw [hW.out, hg]; exact (Blk.newAt _ _ _ _ _ (by simp) (by simp)).alloc _
  have A2 : Hid (Blk W (g + 1 + 1) 40 z5) := by rw [hW.out, hg]; exact Blk.newAt _ _ _ _ _ (by simp) (by simp)
  have K0 : Hid (Below w.heap.size w W) := by rw [hW.out]; exact (((Below.refl _ _).alloc (Nat.le_refl _) _).alloc (by simp) _).alloc (by simp; omega) _
  have HG : Hid (w.heap.size ≤ g + 1 + 1) := by rw [Hid]; omega
  have c0 : W.cell? ⟨g, 0, none⟩ = some (.int .u64 (a0 : Int)) := by rw [A0.cell, ha]; rfl
  have d0 : W.cell? ⟨g + 1, 0, none⟩ = some (.int .u64 (b0 : Int)) := by rw [A1.cell, hb]; rfl
  have c1 : W.cell? ⟨g, 1, none⟩ = some (.int .u64 (a1 : Int)) := by rw [A0.cell, ha]; rfl
  have d1 : W.cell? ⟨g + 1, 1, none⟩ = some (.int .u64 (b1 : Int)) := by rw [A1.cell, hb]; rfl
  have c2 : W.cell? ⟨g, 2, none⟩ = some (.int .u64 (a2 : Int)) := by rw [A0.cell, ha]; rfl
  have d2 : W.cell? ⟨g + 1, 2, none⟩ = some (.int .u64 (b2 : Int)) := by rw [A1.cell, hb]; rfl
  have c3 : W.cell? ⟨g, 3, none⟩ = some (.int .u64 (a3 : Int)) := by rw [A0.cell, ha]; rfl
  have d3 : W.cell? ⟨g + 1, 3, none⟩ = some (.int .u64 (b3 : Int)) := by rw [A1.cell, hb]; rfl
  have c4 : W.cell? ⟨g, 4, none⟩ = some (.int .u64 (a4 : Int)) := by rw [A0.cell, ha]; rfl
  have d4 : W.cell? ⟨g + 1, 4, none⟩ = some (.int .u64 (b4 : Int)) := by rw [A1.cell, hb]; rfl
  clear A0 A1 ha hb hv hr hx hyy hy hn0 la0 lb0 hn1 la1 lb1 hn2 la2 lb2 hn3 la3 lb3 hn4 la4 lb4
  go_enter Try.func42, Try.ntmps42
  go_upto_region 1 with fail
  rw [← z5_arr, ← hW.out, ← hg]
  clear hW hg
  go_wp2_with fail
  refine (C.out _).mono ?_
  rintro e w1 ⟨L, rfl, hL, k1⟩
  have B2 : Hid (Blk w1 (g + 1 + 1) 40 z5) := A2.out.below k1 A2.out.lt
  have K1 : Hid (Below w.heap.size w w1) := K0.out.trans (k1.mono K0.out.size)
  go_wp2_with (refine wpList_store_el rfl rfl (.tmp 4) (.tmp 40) rfl (g + 1 + 1) rfl L z5 rfl B2.out z5_len hL.len hL.one ?_; intro w3 hb3 ho3)
  exact bodyPost_ret (results_cell_row rfl _ _ (g + 1 + 1) _ _ _ _ rfl hb3 Try.underlying40 rfl (by rw [List.size_toArray, hL.len]; kernel_rfl)) rfl ⟨L, rfl, hL, K1.out.trans (ho3.below K1.out.size HG.out)⟩

set_option maxHeartbeats 2000000 in
theorem fsub_any (A B : List Value) (x y : Nat) (w : World) (hA : Fl A x) (hB : Fl B y) :
    Calls Try.prog 43 #[.agg A.toArray, .agg B.toArray] w (GivesE Fl w ((x + (M.Q - y)) % M.Q)) := by
  have hAl := hA.len
  have hBl := hB.len
  have hy := hB.lt
  obtain ⟨a0, a1, a2, a3, a4, ha, ⟨la0, la1, la2, la3, la4⟩, hx⟩ := hA
  obtain ⟨b0, b1, b2, b3, b4, hb, ⟨lb0, lb1, lb2, lb3, lb4⟩, hyy⟩ := hB
  obtain ⟨u0, hu0⟩ : ∃ v, v = a0 + 4503599627370458 := ⟨_, rfl⟩
  obtain ⟨n0, hn0⟩ : ∃ v, v = u0 - b0 := ⟨_, rfl⟩
  obtain ⟨u1, hu1⟩ : ∃ v, v = a1 + 4503599627370494 := ⟨_, rfl⟩
  obtain ⟨n1, hn1⟩ : ∃ v, v = u1 - b1 := ⟨_, rfl⟩
  obtain ⟨u2, hu2⟩ : ∃ v, v = a2 + 4503599627370494 := ⟨_, rfl⟩
  obtain ⟨n2, hn2⟩ : ∃ v, v = u2 - b2 := ⟨_, rfl⟩
  obtain ⟨u3, hu3⟩ : ∃ v, v = a3 + 4503599627370494 := ⟨_, rfl⟩
  obtain ⟨n3, hn3⟩ : ∃ v, v = u3 - b3 := ⟨_, rfl⟩
  obtain ⟨u4, hu4⟩ : ∃ v, v = a4 + 4503599627370494 := ⟨_, rfl⟩
  obtain ⟨n4, hn4⟩ : ∃ v, v = u4 - b4 := ⟨_, rfl⟩
  obtain ⟨r, hr⟩ : ∃ r, r = (x + (M.Q - y)) % M.Q := ⟨_, rfl⟩
  rw [← hr]
  have hv : M.V5 n0 n1 n2 n3 n4 % M.Q = r := by
    have h := M.sub_ok a0 a1 a2 a3 a4 b0 b1 b2 b3 b4 (by omega) (by omega) (by omega) (by omega) (by omega)
    rw [← hu0, ← hu1, ← hu2, ← hu3, ← hu4, ← hn0, ← hn1, ← hn2, ← hn3, ← hn4] at h
    rw [hr]
    exact M.sub_mod h hx hyy
  have C := Lib.hid (fun w => fcarried_any n0 n1 n2 n3 n4 w (by omega) (by omega) (by omega) (by omega) (by omega) r hv)
  have s0 : IntKind.u64.wrap ((a0 : Int) + 4503599627370458) = (u0 : Int) := by rw [IntKind.wrap_u64]; omega
  have s0' : ((a0 : Int) + 4503599627370458) % 18446744073709551616 = (u0 : Int) := by omega
  have t0 : IntKind.u64.wrap ((u0 : Int) - (b0 : Int)) = (n0 : Int) := by rw [IntKind.wrap_u64]; omega
  have t0' : ((u0 : Int) - (b0 : Int)) % 18446744073709551616 = (n0 : Int) := by omega
  have s1 : IntKind.u64.wrap ((a1 : Int) + 4503599627370494) = (u1 : Int) := by rw [IntKind.wrap_u64]; omega
  have s1' : ((a1 : Int) + 4503599627370494) % 18446744073709551616 = (u1 : Int) := by omega
  have t1 : IntKind.u64.wrap ((u1 : Int) - (b1 : Int)) = (n1 : Int) := by rw [IntKind.wrap_u64]; omega
  have t1' : ((u1 : Int) - (b1 : Int)) % 18446744073709551616 = (n1 : Int) := by omega
  have s2 : IntKind.u64.wrap ((a2 : Int) + 4503599627370494) = (u2 : Int) := by rw [IntKind.wrap_u64]; omega
  have s2' : ((a2 : Int) + 4503599627370494) % 18446744073709551616 = (u2 : Int) := by omega
  have t2 : IntKind.u64.wrap ((u2 : Int) - (b2 : Int)) = (n2 : Int) := by rw [IntKind.wrap_u64]; omega
  have t2' : ((u2 : Int) - (b2 : Int)) % 18446744073709551616 = (n2 : Int) := by omega
  have s3 : IntKind.u64.wrap ((a3 : Int) + 4503599627370494) = (u3 : Int) := by rw [IntKind.wrap_u64]; omega
  have s3' : ((a3 : Int) + 4503599627370494) % 18446744073709551616 = (u3 : Int) := by omega
  have t3 : IntKind.u64.wrap ((u3 : Int) - (b3 : Int)) = (n3 : Int) := by rw [IntKind.wrap_u64]; omega
  have t3' : ((u3 : Int) - (b3 : Int)) % 18446744073709551616 = (n3 : Int) := by omega
  have s4 : IntKind.u64.wrap ((a4 : Int) + 4503599627370494) = (u4 : Int) := by rw [IntKind.wrap_u64]; omega
  have s4' : ((a4 : Int) + 4503599627370494) % 18446744073709551616 = (u4 : Int) := by omega
  have t4 : IntKind.u64.wrap ((u4 : Int) - (b4 : Int)) = (n4 : Int) := by rw [IntKind.wrap_u64]; omega
  have t4' : ((u4 : Int) - (b4 : Int)) % 18446744073709551616 = (n4 : Int) := by omega
  obtain ⟨g, hg⟩ : ∃ g, g = w.heap.size := ⟨_, rfl⟩
  obtain ⟨W, hW⟩ : ∃ W, Hid (W = ((w.alloc (.cells A.toArray 40)).alloc (.cells B.toArray 40)).alloc (.cells z5.toArray 40)) := ⟨_, rfl⟩
  have A0 : Blk W g 40 A := by rw [hW.out, hg]; exact ((Blk.newAt _ _ _ _ _ rfl (by simp)).alloc _).alloc _
  have A1 : Blk W (g + 1) 40 B := by rw [hW.out, hg]; exact (Blk.newAt _ _ _ _ _ (by simp) (by simp)).alloc _
  have A2 : Hid (Blk W (g + 1 + 1) 40 z5) := by rw [hW.out, hg]; exact Blk.newAt _ _ _ _ _ (by simp) (by simp)
  have K0 : Hid (Below w.heap.size w W) := by rw [hW.out]; exact (((Below.refl _ _).alloc (Nat.le_refl _) _).alloc (by simp) _).alloc (by simp; omega) _
  have HG : Hid (w.heap.size ≤ g + 1 + 1) := by rw [Hid]; omega
  have c0 : W.cell? ⟨g, 0, none⟩ = some (.int .u64 (a0 : Int)) := by rw [A0.cell, ha]; rfl
  have d0 : W.cell? ⟨g + 1, 0, none⟩ = some (.int .u64 (b0 : Int)) := by rw [A1.cell, hb]; rfl
  have c1 : W.cell? ⟨g, 1, none⟩ = some (.int .u64 (a1 : Int)) := by rw [A0.cell, ha]; rfl
  have d1 : W.cell? ⟨g + 1, 1, none⟩ = some (.int .u64 (b1 : Int)) := by rw [A1.cell, hb]; rfl
  have c2 : W.cell? ⟨g, 2, none⟩ = some (.int .u64 (a2 : Int)) := by rw [A0.cell, ha]; rfl
  have d2 : W.cell? ⟨g + 1, 2, none⟩ = some (.int .u64 (b2 : Int)) := by rw [A1.cell, hb]; rfl
  have c3 : W.cell? ⟨g, 3, none⟩ = some (.int .u64 (a3 : Int)) := by rw [A0.cell, ha]; rfl
  have d3 : W.cell? ⟨g + 1, 3, none⟩ = some (.int .u64 (b3 : Int)) := by rw [A1.cell, hb]; rfl
  have c4 : W.cell? ⟨g, 4, none⟩ = some (.int .u64 (a4 : Int)) := by rw [A0.cell, ha]; rfl
  have d4 : W.cell? ⟨g + 1, 4, none⟩ = some (.int .u64 (b4 : Int)) := by rw [A1.cell, hb]; rfl
  clear A0 A1 ha hb hv hr hx hyy hy hn0 la0 lb0 hu0 hn1 la1 lb1 hu1 hn2 la2 lb2 hu2 hn3 la3 lb3 hu3 hn4 la4 lb4 hu4
  go_enter Try.func43, Try.ntmps43
  go_upto_region 1 with fail
  rw [← z5_arr, ← hW.out, ← hg]
  clear hW hg
  go_wp2_with fail
  refine (C.out _).mono ?_
  rintro e w1 ⟨L, rfl, hL, k1⟩
  have B2 : Hid (Blk w1 (g + 1 + 1) 40 z5) := A2.out.below k1 A2.out.lt
  have K1 : Hid (Below w.heap.size w w1) := K0.out.trans (k1.mono K0.out.size)
  go_wp2_with (refine wpList_store_el rfl rfl (.tmp 4) (.tmp 45) rfl (g + 1 + 1) rfl L z5 rfl B2.out z5_len hL.len hL.one ?_; intro w3 hb3 ho3)
  exact bodyPost_ret (results_cell_row rfl _ _ (g + 1 + 1) _ _ _ _ rfl hb3 Try.underlying40 rfl (by rw [List.size_toArray, hL.len]; kernel_rfl)) rfl ⟨L, rfl, hL, K1.out.trans (ho3.below K1.out.size HG.out)⟩

end Go.Proofs.Yteombilmndlhjaa
