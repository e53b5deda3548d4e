/-
  CONTRACTS OF math/bits.Add64 AND poly.withS: the first 16 bytes of a sum. Conditions: five limbs; a row of 16 bytes.
-/
import Derived.Test.YtbjmkgbjpcepaaaPolyN
import Derived.Test.YtbjmkgbjpcepaaaWordA
import Derived.Test.YtbjmkgbjpcepaaaAppend
import Derived.Laws.Externs
namespace Go.Proofs.Ytbjmkgbjpcepaaa
open Go.RowKit
set_option linter.unusedVariables false

namespace M

def low (n : List UInt64) : UInt64 := n.getD 0 0 ||| (n.getD 1 0 <<< 26) ||| (n.getD 2 0 <<< 52)
def high (n : List UInt64) : UInt64 := (n.getD 2 0 >>> 12) ||| (n.getD 3 0 <<< 14) ||| (n.getD 4 0 <<< 40)
def sumA (n : List UInt64) (s : List UInt8) : Nat := (low n).toNat + gl s 8
def sumB (n : List UInt64) (s : List UInt8) : Nat := (high n).toNat + gl (s.drop 8) 8 + sumA n s / 18446744073709551616
def withS (n : List UInt64) (s : List UInt8) : List UInt8 := le (sumA n s % 18446744073709551616) 8 ++ le (sumB n s % 18446744073709551616) 8

end M

theorem d_shl26 (x : UInt64) : (x.toNat : Int) * 67108864 % 18446744073709551616 = ((x <<< 26).toNat : Int) := by
  rw [UInt64.toNat_shiftLeft, show ((26 : UInt64).toNat % 64) = 26 from rfl, Nat.shiftLeft_eq]
  omega

theorem d_shl52 (x : UInt64) : (x.toNat : Int) * 4503599627370496 % 18446744073709551616 = ((x <<< 52).toNat : Int) := by
  rw [UInt64.toNat_shiftLeft, show ((52 : UInt64).toNat % 64) = 52 from rfl, Nat.shiftLeft_eq]
  omega

theorem d_shl14 (x : UInt64) : (x.toNat : Int) * 16384 % 18446744073709551616 = ((x <<< 14).toNat : Int) := by
  rw [UInt64.toNat_shiftLeft, show ((14 : UInt64).toNat % 64) = 14 from rfl, Nat.shiftLeft_eq]
  omega

theorem d_shl40 (x : UInt64) : (x.toNat : Int) * 1099511627776 % 18446744073709551616 = ((x <<< 40).toNat : Int) := by
  rw [UInt64.toNat_shiftLeft, show ((40 : UInt64).toNat % 64) = 40 from rfl, Nat.shiftLeft_eq]
  omega

theorem d_shr12 (x : UInt64) : (x.toNat : Int) / 4096 = ((x >>> 12).toNat : Int) := by
  rw [M.u_shr x 12 (by decide), show (12 : UInt64).toNat = 12 from rfl]
  omega

theorem add64_any (x y c : Nat) (hc : c ≤ 1) (w : World) :
    (callFunc 25 #[.int .u64 x, .int .u64 y, .int .u64 c]).run Try.prog w =
      .ok (.value (.tuple #[.int .u64 (((x + y + c) % 18446744073709551616 : Nat) : Int), .int .u64 (((x + y + c) / 18446744073709551616 : Nat) : Int)])) w := by
  rw [run_callFunc_extern Try.func25 (by kernel_rfl) (by kernel_rfl) (by kernel_rfl) (e := add64Entry) (by kernel_rfl), run_add64 x y c (by omega) (by omega) (by omega) (by omega)]
  simp only [Result.andThen]
  congr 5 <;> omega

theorem withS_any (n : List UInt64) (sv : Value) (s : List UInt8) (w : World) (hn : n.length = 5) (hs : IsB w sv s) (hsl : s.length = 16) :
    Calls Try.prog 16 #[.agg (dc n).toArray, sv] w (Makes w (M.withS n s)) := by
  have HN := Lib.hid hn
  have HS := Lib.hid hs
  obtain ⟨n0, hn0⟩ : ∃ x, Hid (x = n.getD 0 0) := ⟨_, rfl⟩
  obtain ⟨n1, hn1⟩ : ∃ x, Hid (x = n.getD 1 0) := ⟨_, rfl⟩
  obtain ⟨n2, hn2⟩ : ∃ x, Hid (x = n.getD 2 0) := ⟨_, rfl⟩
  obtain ⟨n3, hn3⟩ : ∃ x, Hid (x = n.getD 3 0) := ⟨_, rfl⟩
  obtain ⟨n4, hn4⟩ : ∃ x, Hid (x = n.getD 4 0) := ⟨_, rfl⟩
  obtain ⟨w1, hw1⟩ : ∃ x, x = w.alloc (.cells (dc n).toArray 39) := ⟨_, rfl⟩
  have A0 : Blk w1 w.heap.size 39 (dc n) := by rw [hw1]; exact Blk.newAt _ _ _ _ _ rfl (by simp)
  have k1 : Below w.heap.size w w1 := by rw [hw1]; exact (Below.refl _ _).alloc (Nat.le_refl _) _
  have c0 : w1.cell? ⟨w.heap.size, 0, none⟩ = some (.int .u64 (n0.toNat : Int)) := by rw [A0.cell, dc_get _ _ (by rw [hn]; decide), hn0.out]
  have c1 : w1.cell? ⟨w.heap.size, 1, none⟩ = some (.int .u64 (n1.toNat : Int)) := by rw [A0.cell, dc_get _ _ (by rw [hn]; decide), hn1.out]
  have c2 : w1.cell? ⟨w.heap.size, 2, none⟩ = some (.int .u64 (n2.toNat : Int)) := by rw [A0.cell, dc_get _ _ (by rw [hn]; decide), hn2.out]
  have c3 : w1.cell? ⟨w.heap.size, 3, none⟩ = some (.int .u64 (n3.toNat : Int)) := by rw [A0.cell, dc_get _ _ (by rw [hn]; decide), hn3.out]
  have c4 : w1.cell? ⟨w.heap.size, 4, none⟩ = some (.int .u64 (n4.toNat : Int)) := by rw [A0.cell, dc_get _ _ (by rw [hn]; decide), hn4.out]
  obtain ⟨ao, cap, rfl, h1, h2, hat⟩ := hs
  rw [hsl] at h1 HS ⊢
  unfold maxLen at h2
  have HS1 : Hid (IsB w1 (.slice ao 16 cap) s) := HS.out.below k1
  obtain ⟨b, o, rfl, hcs⟩ : ∃ b off, ao = some ⟨b, off, none⟩ ∧ ∀ i, i < s.length → w.cell? ⟨b, off + i, none⟩ = some (.int .u8 ((s.getD i 0).toNat : Int)) := by
    rcases hat with h | h
    · rw [h] at hsl; simp at hsl
    · exact h
  have HS2 : Hid (IsB w1 (.slice (some ⟨b, o + 8, none⟩) 8 (cap - 8)) (s.drop 8)) := by
    have hl : (s.drop 8).length = 8 := by rw [List.length_drop, hsl]
    refine ⟨_, cap - 8, by rw [hl], by rw [hl]; omega, by unfold maxLen; omega, .inr ⟨b, o + 8, rfl, fun i hi => ?_⟩⟩
    rw [hl] at hi
    have hx := hcs (8 + i) (by omega)
    rw [Nat.add_assoc, k1.cell (by exact World.block_lt_of_cell? w _ hx), hx]
    simp [List.getD_eq_getElem?_getD, List.getElem?_drop]
  have hne : ¬ cap = 8 := by omega
  have hne2 : ¬ cap - 8 = 0 := by omega
  have HW1 := Lib.hid hw1
  clear hn hsl A0 hw1 hcs
  go_enter Try.func16, Try.ntmps16
  go_wp2
  rw [← HW1.out]
  obtain ⟨a1, ha1⟩ : ∃ x, Hid (x = n1 <<< 26) := ⟨_, rfl⟩
  obtain ⟨a2, ha2⟩ : ∃ x, Hid (x = n0 ||| a1) := ⟨_, rfl⟩
  obtain ⟨a3, ha3⟩ : ∃ x, Hid (x = n2 <<< 52) := ⟨_, rfl⟩
  obtain ⟨lo, hlo⟩ : ∃ x, Hid (x = a2 ||| a3) := ⟨_, rfl⟩
  have s1 : (n1.toNat : Int) * 67108864 % 18446744073709551616 = (a1.toNat : Int) := by rw [ha1.out]; exact d_shl26 n1
  have s1' : IntKind.u64.wrap ((n1.toNat : Int) * 67108864) = (a1.toNat : Int) := s1
  have s2 : bits BinOp.or .u64 (n0.toNat : Int) (a1.toNat : Int) = (a2.toNat : Int) := by rw [ha2.out]; exact d_or n0 a1
  have s3 : (n2.toNat : Int) * 4503599627370496 % 18446744073709551616 = (a3.toNat : Int) := by rw [ha3.out]; exact d_shl52 n2
  have s3' : IntKind.u64.wrap ((n2.toNat : Int) * 4503599627370496) = (a3.toNat : Int) := s3
  have s4 : bits BinOp.or .u64 (a2.toNat : Int) (a3.toNat : Int) = (lo.toNat : Int) := by rw [hlo.out]; exact d_or a2 a3
  obtain ⟨b1, hb1⟩ : ∃ x, Hid (x = n2 >>> 12) := ⟨_, rfl⟩
  obtain ⟨b2, hb2⟩ : ∃ x, Hid (x = n3 <<< 14) := ⟨_, rfl⟩
  obtain ⟨b3, hb3⟩ : ∃ x, Hid (x = b1 ||| b2) := ⟨_, rfl⟩
  obtain ⟨b4, hb4⟩ : ∃ x, Hid (x = n4 <<< 40) := ⟨_, rfl⟩
  obtain ⟨hi, hhi⟩ : ∃ x, Hid (x = b3 ||| b4) := ⟨_, rfl⟩
  have t1 : (n2.toNat : Int) / 4096 = (b1.toNat : Int) := by rw [hb1.out]; exact d_shr12 n2
  have t2 : (n3.toNat : Int) * 16384 % 18446744073709551616 = (b2.toNat : Int) := by rw [hb2.out]; exact d_shl14 n3
  have t2' : IntKind.u64.wrap ((n3.toNat : Int) * 16384) = (b2.toNat : Int) := t2
  have t3 : bits BinOp.or .u64 (b1.toNat : Int) (b2.toNat : Int) = (b3.toNat : Int) := by rw [hb3.out]; exact d_or b1 b2
  have t4 : (n4.toNat : Int) * 1099511627776 % 18446744073709551616 = (b4.toNat : Int) := by rw [hb4.out]; exact d_shl40 n4
  have t4' : IntKind.u64.wrap ((n4.toNat : Int) * 1099511627776) = (b4.toNat : Int) := t4
  have t5 : bits BinOp.or .u64 (b3.toNat : Int) (b4.toNat : Int) = (hi.toNat : Int) := by rw [hhi.out]; exact d_or b3 b4
  obtain ⟨S0, hS0⟩ : ∃ G, Hid (G = M.gl s 8) := ⟨_, rfl⟩
  obtain ⟨S1, hS1⟩ : ∃ G, Hid (G = M.gl (s.drop 8) 8) := ⟨_, rfl⟩
  have hS0b : S0 < 18446744073709551616 := by rw [hS0.out]; exact Nat.lt_of_lt_of_eq (M.gl_lt _ 8) (by decide)
  have hS1b : S1 < 18446744073709551616 := by rw [hS1.out]; exact Nat.lt_of_lt_of_eq (M.gl_lt _ 8) (by decide)
  obtain ⟨x1, hx1⟩ : ∃ G, G = (lo.toNat + S0 + 0) % 18446744073709551616 := ⟨_, rfl⟩
  obtain ⟨y1, hy1⟩ : ∃ G, G = (lo.toNat + S0 + 0) / 18446744073709551616 := ⟨_, rfl⟩
  have hlob := d_lt lo
  have hhib := d_lt hi
  have hy1b : y1 ≤ 1 := by omega
  obtain ⟨x2, hx2⟩ : ∃ G, G = (hi.toNat + S1 + y1) % 18446744073709551616 := ⟨_, rfl⟩
  obtain ⟨y2, hy2⟩ : ∃ G, G = (hi.toNat + S1 + y1) / 18446744073709551616 := ⟨_, rfl⟩
  have hadd1 : ∀ w, (callFunc 25 #[.int .u64 (lo.toNat : Int), .int .u64 (S0 : Int), .int .u64 0]).run Try.prog w = .ok (.value (.tuple #[.int .u64 (x1 : Int), .int .u64 (y1 : Int)])) w := by
    intro w; rw [hx1, hy1]; exact add64_any lo.toNat S0 0 (by omega) w
  have hadd2 : ∀ w, (callFunc 25 #[.int .u64 (hi.toNat : Int), .int .u64 (S1 : Int), .int .u64 (y1 : Int)]).run Try.prog w = .ok (.value (.tuple #[.int .u64 (x2 : Int), .int .u64 (y2 : Int)])) w := by
    intro w; rw [hx2, hy2]; exact add64_any hi.toNat S1 y1 hy1b w
  have HX1 := Lib.hid hx1
  have HY1 := Lib.hid hy1
  have HX2 := Lib.hid hx2
  clear hx1 hy1 hx2 hy2 hS0b hS1b hlob hhib
  have HG0 : Hid (∀ W, Below w1.heap.size w1 W → Calls Try.prog 26 #[.slice (some ⟨b, o, none⟩) 16 cap] W fun e w' => e = .returned (.int .u64 (S0 : Int)) ∧ w' = W) := fun W kW => by
    rw [hS0.out]
    exact (get64_any _ _ _ (HS1.out.below kW)).mono fun e w' ⟨h, k⟩ => ⟨h, k.symm⟩
  go_quiet ((go_at_call 26; exact Calls.quiet_of_same (HG0.out _ (below_draws _ _))))
  go_wp2
  obtain ⟨w2, hw2⟩ : ∃ x, Hid (x = w1.drewN nq) := ⟨_, rfl⟩
  rw [← hw2.out]
  have k2 : Below w.heap.size w w2 := by rw [hw2.out]; exact drewN_below k1 nq
  have c2' : w2.cell? ⟨w.heap.size, 2, none⟩ = some (.int .u64 (n2.toNat : Int)) := by rw [hw2.out]; exact c2
  have c3' : w2.cell? ⟨w.heap.size, 3, none⟩ = some (.int .u64 (n3.toNat : Int)) := by rw [hw2.out]; exact c3
  have c4' : w2.cell? ⟨w.heap.size, 4, none⟩ = some (.int .u64 (n4.toNat : Int)) := by rw [hw2.out]; exact c4
  have HG1 : Hid (∀ W, Below w2.heap.size w2 W → Calls Try.prog 26 #[.slice (some ⟨b, o + 8, none⟩) 8 (cap - 8)] W fun e w' => e = .returned (.int .u64 (S1 : Int)) ∧ w' = W) := fun W kW => by
    rw [hS1.out]
    have h2 : IsB w2 (.slice (some ⟨b, o + 8, none⟩) 8 (cap - 8)) (s.drop 8) := by rw [hw2.out]; exact HS2.out.below (below_draws _ _)
    exact (get64_any _ _ _ (h2.below kW)).mono fun e w' ⟨h, k⟩ => ⟨h, k.symm⟩
  clear c0 c1 c2 c3 c4
  go_quiet ((go_at_call 26; exact Calls.quiet_of_same (HG1.out _ (below_draws _ _))))
  obtain ⟨w3, hw3⟩ : ∃ x, Hid (x = w2.drewN nq) := ⟨_, rfl⟩
  rw [← hw3.out]
  have k3 : Below w.heap.size w w3 := by rw [hw3.out]; exact drewN_below k2 _
  clear c2' c3' c4'
  go_wp2_with fail
  refine (put64_any x1 _).mono ?_
  rintro e w4 ⟨r4, rfl, o4, k4⟩
  go_wp2_with fail
  refine (put64_any x2 _).mono ?_
  rintro e w5 ⟨r5, rfl, o5, k5⟩
  have o4' : Own w5 w.heap.size r4 (M.le x1 8) := (o4.below k5).mono k3.size
  have i5 : IsB w5 r5 (M.le x2 8) := o5.isB
  have n5 := o5.nil0
  have k45 : Below w.heap.size w w5 := (k3.trans (k4.mono k3.size)).trans (k5.mono (Nat.le_trans k3.size k4.size))
  go_wp2_with (refine wpList_app _ rfl (.tmp 45) (.tmp 47) rfl w.heap.size r4 (M.le x1 8) rfl o4' r5 (M.le x2 8) rfl i5 n5 (by rw [M.le_length, M.le_length]; decide) k45.size ?_)
  intro v6 w6 o6 k6 _
  go_wp2
  go_ret
  refine ⟨_, rfl, ?_, k45.trans k6⟩
  have e : M.withS n s = M.le x1 8 ++ M.le x2 8 := by
    rw [M.withS, M.sumB, M.sumA, M.low, M.high, HX2.out, HX1.out, HY1.out, hhi.out, hlo.out, hb3.out, hb4.out, hb1.out, hb2.out, ha2.out, ha1.out, ha3.out, hS0.out, hS1.out, hn0.out, hn1.out, hn2.out, hn3.out, hn4.out, Nat.add_zero]
  rw [e]
  exact o6

end Go.Proofs.Ytbjmkgbjpcepaaa
