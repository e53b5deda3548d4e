/-
  CONTRACT OF (field.Elem).Bytes: an element's own 32 bytes. Conditions: the cells are an element's.
-/
import Derived.Test.YteombilmndlhjaaFieldLeft
import Derived.Test.YteombilmndlhjaaAppend
import Derived.Test.YteombilmndlhjaaWordA
namespace Go.Proofs.Yteombilmndlhjaa
open Go.RowKit
set_option linter.unusedVariables false

namespace M

/-- Word i of a number. -/
def wrd (n i : Nat) : Nat := n / 2 ^ (64 * i) % 18446744073709551616

theorem wrd0 (n : Nat) : lim n 0 < 2 ^ 51 ∧ lim n 0 + (lim n 1 % 8192) * 2 ^ 51 = wrd n 0 := by
  show n / 2 ^ 0 % 2251799813685248 < 2 ^ 51 ∧ n / 2 ^ 0 % 2251799813685248 + (n / 2 ^ 51 % 2251799813685248 % 8192) * 2 ^ 51 = n / 2 ^ 0 % 18446744073709551616
  omega

theorem wrd1 (n : Nat) : lim n 1 / 8192 < 2 ^ 38 ∧ lim n 1 / 8192 + (lim n 2 % 67108864) * 2 ^ 38 = wrd n 1 := by
  show n / 2 ^ 51 % 2251799813685248 / 8192 < 2 ^ 38 ∧ n / 2 ^ 51 % 2251799813685248 / 8192 + (n / 2 ^ 102 % 2251799813685248 % 67108864) * 2 ^ 38 = n / 2 ^ 64 % 18446744073709551616
  omega

theorem wrd2 (n : Nat) : lim n 2 / 67108864 < 2 ^ 25 ∧ lim n 2 / 67108864 + (lim n 3 % 549755813888) * 2 ^ 25 = wrd n 2 := by
  show n / 2 ^ 102 % 2251799813685248 / 67108864 < 2 ^ 25 ∧ n / 2 ^ 102 % 2251799813685248 / 67108864 + (n / 2 ^ 153 % 2251799813685248 % 549755813888) * 2 ^ 25 = n / 2 ^ 128 % 18446744073709551616
  omega

theorem wrd3 (n : Nat) (h : n < Q) : lim n 3 / 549755813888 < 2 ^ 12 ∧ lim n 3 / 549755813888 + (lim n 4 % 4503599627370496) * 2 ^ 12 = wrd n 3 := by
  show n / 2 ^ 153 % 2251799813685248 / 549755813888 < 2 ^ 12 ∧ n / 2 ^ 153 % 2251799813685248 / 549755813888 + (n / 2 ^ 204 % 2251799813685248 % 4503599627370496) * 2 ^ 12 = n / 2 ^ 192 % 18446744073709551616
  unfold Q at h
  omega

theorem le_wrd (n i : Nat) : le n (8 * i) ++ le (wrd n i) 8 = le n (8 * (i + 1)) := by
  rw [show 8 * (i + 1) = 8 * i + 8 by omega, le_add, wrd, show (18446744073709551616 : Nat) = 256 ^ 8 by decide, le_mod _ 8 8 (Nat.le_refl _), show (2 : Nat) ^ (64 * i) = 256 ^ (8 * i) by rw [show (256 : Nat) = 2 ^ 8 by decide, ← Nat.pow_mul]; congr 1; omega]

def wrds (n : Nat) : List Nat := [wrd n 0, wrd n 1, wrd n 2, wrd n 3]

theorem wrds_get (n k : Nat) (h : k < 4) : (wrds n).getD k 0 = wrd n k := by
  have : k = 0 ∨ k = 1 ∨ k = 2 ∨ k = 3 := by omega
  rcases this with rfl | rfl | rfl | rfl <;> rfl

end M

theorem n_or' (a b k : Nat) (h : b + a * 2 ^ k < 18446744073709551616) (hb : b < 2 ^ k) : bits BinOp.or .u64 (b : Int) ((a * 2 ^ k : Nat) : Int) = ((b + a * 2 ^ k : Nat) : Int) := by
  rw [u64_or_nat _ _ (by omega) (by omega), Nat.or_comm, Nat.mul_comm, ← Nat.two_pow_add_eq_or_of_lt hb, Nat.add_comm]

/-- One word out of two limbs. -/
theorem two_limbs (x y k c d : Nat) (v : Nat) (hc : c * d = 18446744073709551616) (hcp : c = 2 ^ k) (hx : x < 2 ^ k) (hv : x + (y % d) * 2 ^ k = v) (hvb : v < 18446744073709551616) :
    bits BinOp.or .u64 (x : Int) (((y : Int) * (c : Int)) % 18446744073709551616) = (v : Int) := by
  have e : ((y : Int) * (c : Int)) % 18446744073709551616 = ((y % d * 2 ^ k : Nat) : Int) := by
    have h1 : y * c % 18446744073709551616 = y % d * c := by
      rw [← hc, Nat.mul_comm c d, Nat.mul_mod_mul_right]
    rw [← Int.natCast_mul, show (18446744073709551616 : Int) = ((18446744073709551616 : Nat) : Int) from rfl, ← Int.natCast_emod, h1, hcp]
  rw [e, n_or' _ _ _ (by omega) hx, hv]

theorem run_index4 (w : World) (l : List Nat) (k : Nat) (hk : k < 4) (x : Nat) (hx : (uc l)[k]? = some (.int .u64 (x : Int))) :
    (Instr.index 61 (.agg (uc l).toArray) (.int .i64 (k : Int))).run Try.prog w = .ok (.int .u64 (x : Int)) w := by
  have hn' : (k : Int) < 4 := by omega
  simp [Instr.index, run_underlying Try.underlying61, asIntOf, go_sem, Try.sizeOf37]
  rw [if_pos hk, hx]
  rfl

theorem run_field5 (w : World) (R : List Value) (h : R.length = 5) : (Instr.field 40 (.agg R.toArray) 0).run Try.prog w = .ok (.agg R.toArray) w := by
  have e : R.toArray.extract 0 5 = R.toArray := by rw [← h]; simp
  simp [Instr.field, run_underlying Try.underlying40, go_sem, part, isAgg, asAgg, run_underlying Try.underlying38]
  simpa using e

/-- 'make([]byte, n, m)' as a run equation. -/
theorem make_run_cap (n m : Nat) (hnm : n ≤ m) (hm : m ≤ 140737488355328) : ∃ C : Array Value, ∀ w : World, (Instr.makeSlice 22 (.int .i64 (n : Int)) (.int .i64 (m : Int))).run Try.prog w = .ok (.slice (some ⟨w.heap.size, 0, none⟩) n m) (w.alloc (.cells C 5)) ∧
    Own (w.alloc (.cells C 5)) w.heap.size (.slice (some ⟨w.heap.size, 0, none⟩) n m) (List.replicate n 0) := by
  obtain ⟨i0, h0, hz0, hz1, hz2⟩ := info_parts Try.info5
  have hb : (i0.bytes : Int) * (m : Int) ≤ 281474976710656 := by rw [hz2]; omega
  have e : (madeCells (Value.int IntKind.u8 0).cells (m * i0.size)).toList = List.replicate m (.int .u8 0) := by
    rw [hz1, Nat.mul_one]
    exact toList_madeCells_one _ _
  have hsz : (madeCells (Value.int IntKind.u8 0).cells (m * i0.size)).size = m := by rw [← Array.length_toList, e, List.length_replicate]
  refine ⟨madeCells (Value.int IntKind.u8 0).cells (m * i0.size), fun w => ⟨?_, ?_⟩⟩
  · have hrun := run_make (P := Try.prog) w 22 5 i0 (.int .u8 0) Try.underlying22 h0 hz0 .i64 .i64 n m (by omega) (by omega) hb (by omega)
    simp only [Int.toNat_natCast] at hrun
    exact hrun
  · refine ⟨by rw [byteCells_length, Nat.mul_one], .inr ⟨w.heap.size, m, _, by rw [List.length_replicate], Nat.le_refl _, heap_alloc_new w _, by rw [List.length_replicate]; exact hnm, by unfold maxLen; omega, by rw [hsz, Nat.mul_one], ?_⟩⟩
    rw [e, List.length_replicate, Nat.mul_one, List.take_replicate, Nat.min_eq_left hnm]
    simp [Lib.byteCells]

theorem wrd_lt (n i : Nat) : M.wrd n i < 18446744073709551616 := Nat.mod_lt _ (by decide)

set_option maxHeartbeats 4000000 in
theorem fbytes_any (A : List Value) (n : Nat) (w : World) (hA : Fl A n) :
    Calls Try.prog 20 #[.agg A.toArray] w (Makes w (M.le n 32)) := by
  have HQ : n < M.Q := hA.lt
  have HA := Lib.hid hA
  obtain ⟨R, hR⟩ : ∃ R, R = uc (M.lims n 5) := ⟨_, rfl⟩
  have CL := Lib.hid (fun w => fleft_any A n w hA)
  rw [← hR] at CL
  have HRL : Hid (R.length = 5) := by rw [Hid, hR, uc_length, M.lims_length]
  have HR1 : Hid (∀ u ∈ R, u.oneCell' = true) := by rw [hR]; exact uc_one _
  have HR : Hid (R = uc [M.lim n 0, M.lim n 1, M.lim n 2, M.lim n 3, M.lim n 4]) := hR
  obtain ⟨x0, hx0⟩ : ∃ x, x = M.lim n 0 := ⟨_, rfl⟩
  obtain ⟨x1, hx1⟩ : ∃ x, x = M.lim n 1 := ⟨_, rfl⟩
  obtain ⟨x2, hx2⟩ : ∃ x, x = M.lim n 2 := ⟨_, rfl⟩
  obtain ⟨x3, hx3⟩ : ∃ x, x = M.lim n 3 := ⟨_, rfl⟩
  obtain ⟨x4, hx4⟩ : ∃ x, x = M.lim n 4 := ⟨_, rfl⟩
  rw [← hx0, ← hx1, ← hx2, ← hx3, ← hx4] at HR
  obtain ⟨y0, hy0⟩ : ∃ x, x = M.wrd n 0 := ⟨_, rfl⟩
  obtain ⟨y1, hy1⟩ : ∃ x, x = M.wrd n 1 := ⟨_, rfl⟩
  obtain ⟨y2, hy2⟩ : ∃ x, x = M.wrd n 2 := ⟨_, rfl⟩
  obtain ⟨y3, hy3⟩ : ∃ x, x = M.wrd n 3 := ⟨_, rfl⟩
  have HY : Hid (#[Value.int .u64 (y0 : Int), .int .u64 (y1 : Int), .int .u64 (y2 : Int), .int .u64 (y3 : Int)] = (uc (M.wrds n)).toArray) := by rw [hy0, hy1, hy2, hy3]; rfl
  obtain ⟨p1, hp1⟩ : ∃ x, x = x1 / 8192 := ⟨_, rfl⟩
  obtain ⟨p2, hp2⟩ : ∃ x, x = x2 / 67108864 := ⟨_, rfl⟩
  obtain ⟨p3, hp3⟩ : ∃ x, x = x3 / 549755813888 := ⟨_, rfl⟩
  obtain ⟨a0, e0⟩ := M.wrd0 n
  obtain ⟨a1, e1⟩ := M.wrd1 n
  obtain ⟨a2, e2⟩ := M.wrd2 n
  obtain ⟨a3, e3⟩ := M.wrd3 n HQ
  rw [← hx0, ← hx1, ← hy0] at e0
  rw [← hx1, ← hx2, ← hy1, ← hp1] at e1
  rw [← hx2, ← hx3, ← hy2, ← hp2] at e2
  rw [← hx3, ← hx4, ← hy3, ← hp3] at e3
  rw [← hx0] at a0
  rw [← hx1, ← hp1] at a1
  rw [← hx2, ← hp2] at a2
  rw [← hx3, ← hp3] at a3
  have o0 : bits BinOp.or .u64 (x0 : Int) (IntKind.u64.wrap ((x1 : Int) * 2251799813685248)) = (y0 : Int) := by rw [IntKind.wrap_u64]; exact two_limbs x0 x1 51 2251799813685248 8192 y0 (by decide) (by decide) a0 e0 (by rw [hy0]; exact wrd_lt _ _)
  have o1 : bits BinOp.or .u64 (p1 : Int) (IntKind.u64.wrap ((x2 : Int) * 274877906944)) = (y1 : Int) := by rw [IntKind.wrap_u64]; exact two_limbs p1 x2 38 274877906944 67108864 y1 (by decide) (by decide) a1 e1 (by rw [hy1]; exact wrd_lt _ _)
  have o2 : bits BinOp.or .u64 (p2 : Int) (IntKind.u64.wrap ((x3 : Int) * 33554432)) = (y2 : Int) := by rw [IntKind.wrap_u64]; exact two_limbs p2 x3 25 33554432 549755813888 y2 (by decide) (by decide) a2 e2 (by rw [hy2]; exact wrd_lt _ _)
  have o3 : bits BinOp.or .u64 (p3 : Int) (IntKind.u64.wrap ((x4 : Int) * 4096)) = (y3 : Int) := by rw [IntKind.wrap_u64]; exact two_limbs p3 x4 12 4096 4503599627370496 y3 (by decide) (by decide) a3 e3 (by rw [hy3]; exact wrd_lt _ _)
  have d1 : (x1 : Int) / 8192 = (p1 : Int) := by omega
  have d2 : (x2 : Int) / 67108864 = (p2 : Int) := by omega
  have d3 : (x3 : Int) / 549755813888 = (p3 : Int) := by omega
  clear hA hR hx0 hx1 hx2 hx3 hx4 hy0 hy1 hy2 hy3 hp1 hp2 hp3 a0 a1 a2 a3 e0 e1 e2 e3 HQ
  obtain ⟨g, hg⟩ : ∃ g, g = w.heap.size := ⟨_, rfl⟩
  obtain ⟨W, hW⟩ : ∃ W, Hid (W = w.alloc (.cells A.toArray 40)) := ⟨_, rfl⟩
  have A0 : Hid (Blk W g 40 A) := by rw [hW.out, hg]; exact Blk.newAt _ _ _ _ _ rfl rfl
  have K0 : Hid (Below w.heap.size w W) := by rw [hW.out]; exact (Below.refl _ _).alloc (Nat.le_refl _) _
  have HG : Hid (w.heap.size = g) := hg.symm
  go_enter Try.func20, Try.ntmps20
  go_upto_region 1 with fail
  rw [← hW.out, ← hg]
  clear hW hg
  go_wp2_with (refine wpList_load_el rfl (.tmp 1) rfl g rfl A A0.out HA.out.len ?_)
  refine (CL.out _).mono ?_
  rintro e w1 ⟨rfl, k1⟩
  have K1 : Hid (Below w.heap.size w w1) := K0.out.trans (k1.mono K0.out.size)
  obtain ⟨g1, hg1⟩ : ∃ v, v = w1.heap.size := ⟨_, rfl⟩
  have HG1 : Hid (w.heap.size ≤ g1) := by rw [hg1]; exact K1.out.size
  have N1 : Blk (w1.alloc (.cells #[.int .u64 0, .int .u64 0, .int .u64 0, .int .u64 0, .int .u64 0] 38)) g1 38 z5 := Blk.newAt _ _ _ _ _ hg1 rfl
  have K1' : Below w.heap.size w (w1.alloc (.cells #[.int .u64 0, .int .u64 0, .int .u64 0, .int .u64 0, .int .u64 0] 38)) := K1.out.alloc K1.out.size _
  have hfl := fun w => run_field5 w R HRL.out
  clear A0 K0 k1 CL
  go_upto_region 2 with (rw [← hg1]; refine wpList_store_blk rfl 38 (.tmp 3) (.tmp 9) rfl g1 R.toArray rfl rfl 38 z5 N1 (by rw [List.size_toArray, HRL.out]; kernel_rfl) (by rw [List.size_toArray, HRL.out, z5_len]) HR1.out ?_; intro w2 hb2 ho2)
  have B2 : Hid (Blk w2 g1 38 R) := hb2
  have K2 : Hid (Below w.heap.size w w2) := K1'.trans (ho2.below K1'.size HG1.out)
  try rw [← hg1]
  clear hb2 ho2 K1 K1' N1 hg1 hfl
  obtain ⟨C, hC⟩ := make_run_cap 0 32 (by decide) (by decide)
  have hmk : ∀ w : World, (Instr.makeSlice 22 (.int .i64 0) (.int .i64 32)).run Try.prog w = .ok (.slice (some ⟨w.heap.size, 0, none⟩) 0 32) (w.alloc (.cells C 5)) := fun w => (hC w).1
  have O3 : Own (w2.alloc (.cells C 5)) w2.heap.size (.slice (some ⟨w2.heap.size, 0, none⟩) 0 32) [] := (hC w2).2
  have B3 : Hid (Blk (w2.alloc (.cells C 5)) g1 38 R) := B2.out.alloc _
  have K3 : Hid (Below w.heap.size w (w2.alloc (.cells C 5))) := K2.out.alloc K2.out.size _
  obtain ⟨W3, hW3⟩ : ∃ W, Hid (W = w2.alloc (.cells C 5)) := ⟨_, rfl⟩
  rw [← hW3.out] at O3 B3 K3
  obtain ⟨g3, hg3⟩ : ∃ v, v = w2.heap.size := ⟨_, rfl⟩
  have O4 : Hid (Own W3 w.heap.size (.slice (some ⟨g3, 0, none⟩) 0 32) (M.le n (8 * 0))) := by rw [hg3]; exact O3.mono K2.out.size
  have b3 : Blk W3 g1 38 R := B3.out
  have c0 : W3.cell? ⟨g1, 0, none⟩ = some (.int .u64 (x0 : Int)) := by rw [b3.cell, HR.out]; rfl
  have c1 : W3.cell? ⟨g1, 1, none⟩ = some (.int .u64 (x1 : Int)) := by rw [b3.cell, HR.out]; rfl
  have c2 : W3.cell? ⟨g1, 2, none⟩ = some (.int .u64 (x2 : Int)) := by rw [b3.cell, HR.out]; rfl
  have c3 : W3.cell? ⟨g1, 3, none⟩ = some (.int .u64 (x3 : Int)) := by rw [b3.cell, HR.out]; rfl
  have c4 : W3.cell? ⟨g1, 4, none⟩ = some (.int .u64 (x4 : Int)) := by rw [b3.cell, HR.out]; rfl
  clear O3 B2 K2 hC b3
  go_upto_region 3 with fail
  rw [← hW3.out, ← hg3]
  clear hmk hW3 hg3
  go_upto_region 4 with fail
  rw [HY.out]
  clear HY o0 o1 o2 o3 d1 d2 d3 c0 c1 c2 c3 c4 HR HRL HR1 B3
  go_loopw [4, 39] (fun s i wr => ∃ k : Nat, k ≤ 4 ∧ i = .int .i64 k ∧ Hid (Own wr w.heap.size s (M.le n (8 * k))) ∧ Hid (Below w.heap.size w wr))
    (fun _ i _ => 4 - (intOf i).toNat)
  case atStart => exact ⟨0, by omega, rfl, O4, K3⟩
  case round =>
    clear O4 K3
    obtain ⟨wA, rfl⟩ : ∃ x, x = wr := ⟨_, rfl⟩
    obtain ⟨k, hk, rfl, oo, kk⟩ := hrel
    obtain ⟨sv, rfl⟩ : ∃ z, z = u4 := ⟨_, rfl⟩
    by_cases hlt : k < 4
    · obtain ⟨x, hx⟩ : ∃ x, Hid (x = M.wrd n k) := ⟨_, rfl⟩
      have hrun := run_index4 wA (M.wrds n) k hlt x (by rw [uc_get _ _ (by exact hlt), M.wrds_get n k hlt, hx.out])
      have HNX : Hid (M.le n (8 * k) ++ M.le x 8 = M.le n (8 * (k + 1))) := by rw [hx.out]; exact M.le_wrd n k
      clear hx
      go_wp2_with fail
      refine (put64_any x _).mono ?_
      rintro e w4 ⟨r4, rfl, o4, k4⟩
      have i4 : IsB w4 r4 (M.le x 8) := o4.isB
      have n4 := o4.nil0
      have O5 : Own w4 w.heap.size sv (M.le n (8 * k)) := oo.out.below k4
      have K4 : Below w.heap.size w w4 := kk.out.trans (k4.mono kk.out.size)
      go_wp2_with (refine wpList_app _ rfl (.tmp 42) (.tmp 44) rfl w.heap.size sv (M.le n (8 * k)) rfl O5 r4 (M.le x 8) rfl i4 n4 (by rw [M.le_length, M.le_length]; omega) K4.size ?_; intro v6 w6 o6 k6 _)
      have O6 : Hid (Own w6 w.heap.size v6 (M.le n (8 * (k + 1)))) := by rw [← HNX.out]; exact o6
      have K6 : Hid (Below w.heap.size w w6) := K4.trans k6
      clear o6 k6 O5 i4 n4 o4 k4 K4 HNX
      go_roundw
      case rel => exact ⟨k + 1, by omega, by go_num, O6, K6⟩
      case measure => simp [intOf]; omega
    · obtain rfl : k = 4 := by omega
      go_wp2
      go_ret
      exact ⟨_, rfl, oo.out, kk.out⟩

end Go.Proofs.Yteombilmndlhjaa
