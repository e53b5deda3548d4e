/-
  CONTRACTS OF (field.wide).plus, limb AND over. Conditions: as each says.
-/
import Derived.Test.YtdojalhaklkegaaDoorPn20
namespace Go.Proofs.YtdojalhaklkegaaDoor
open Go.RowKit
set_option linter.unusedVariables false

theorem wd_eq {s hi lo : Nat} (h1 : hi = s / 18446744073709551616) (h2 : lo = s % 18446744073709551616) : wd s = uc [hi, lo] := by rw [h1, h2]; rfl

theorem sum_wide (s p : Nat) (h : s + p < 340282366920938463463374607431768211456) :
    (s + p) % 18446744073709551616 = (p % 18446744073709551616 + s % 18446744073709551616 + 0) % 18446744073709551616 ∧
    (s + p) / 18446744073709551616 = (p / 18446744073709551616 + s / 18446744073709551616 + (p % 18446744073709551616 + s % 18446744073709551616 + 0) / 18446744073709551616) % 18446744073709551616 ∧
    (p % 18446744073709551616 + s % 18446744073709551616 + 0) / 18446744073709551616 ≤ 1 ∧ p / 18446744073709551616 < 18446744073709551616 ∧ s / 18446744073709551616 < 18446744073709551616 := by omega

set_option maxHeartbeats 2000000 in
theorem wplus_any (s x y : Nat) (w : World) (hx : x < 18446744073709551616) (hy : y < 18446744073709551616) (h : s + x * y < 340282366920938463463374607431768211456) (S : List Value) (hS : S = wd s) :
    Calls Tryd.prog 90 #[.agg S.toArray, .int .u64 (x : Int), .int .u64 (y : Int)] w (GivesW w (s + x * y)) := by
  have C := Lib.hid (fun w => mul64_any x y hx hy w)
  obtain ⟨t, ht⟩ : ∃ t, t = s + x * y := ⟨_, rfl⟩
  rw [← ht]
  obtain ⟨g1, g2, g3, g4, g5⟩ := sum_wide s (x * y) h
  rw [← ht] at g1 g2
  obtain ⟨pl, hpl⟩ : ∃ v, v = x * y % 18446744073709551616 := ⟨_, rfl⟩
  obtain ⟨ph, hph⟩ : ∃ v, v = x * y / 18446744073709551616 := ⟨_, rfl⟩
  obtain ⟨sl, hsl⟩ : ∃ v, v = s % 18446744073709551616 := ⟨_, rfl⟩
  obtain ⟨sh, hsh⟩ : ∃ v, v = s / 18446744073709551616 := ⟨_, rfl⟩
  rw [← hpl, ← hsl] at g1
  rw [← hpl, ← hsl, ← hph, ← hsh] at g2
  rw [← hpl, ← hsl] at g3
  rw [← hph] at g4
  rw [← hsh] at g5
  rw [← hph, ← hpl] at C
  obtain ⟨lo, hlo⟩ : ∃ v, v = (pl + sl + 0) % 18446744073709551616 := ⟨_, rfl⟩
  obtain ⟨c, hc⟩ : ∃ v, v = (pl + sl + 0) / 18446744073709551616 := ⟨_, rfl⟩
  rw [← hlo] at g1
  rw [← hc] at g2 g3
  obtain ⟨hi, hhi⟩ : ∃ v, v = (ph + sh + c) % 18446744073709551616 := ⟨_, rfl⟩
  obtain ⟨c2, hc2⟩ : ∃ v, v = (ph + sh + c) / 18446744073709551616 := ⟨_, rfl⟩
  rw [← hhi] at g2
  obtain ⟨L, hL⟩ : ∃ L, L = wd t := ⟨_, rfl⟩
  have HLU : L = uc [hi, lo] := by rw [hL]; exact wd_eq g2.symm g1.symm
  have HL : Hid (L.toArray = #[.int .u64 (hi : Int), .int .u64 (lo : Int)]) := by rw [HLU]; rfl
  have HLL : Hid (L.length = 2) := by rw [HLU]; rfl
  have HL1 : Hid (∀ u ∈ L, u.oneCell' = true) := by rw [HLU]; exact uc_one _
  have HF : Hid (L = wd t) := hL
  have hadd1 : ∀ w, (callFunc 109 #[.int .u64 (pl : Int), .int .u64 (sl : Int), .int .u64 0]).run Tryd.prog w = .ok (.value (.tuple #[.int .u64 (lo : Int), .int .u64 (c : Int)])) w := by
    intro w; rw [hlo, hc]; exact add64_any pl sl 0 (by omega) w
  have hadd2 : ∀ w, (callFunc 109 #[.int .u64 (ph : Int), .int .u64 (sh : Int), .int .u64 (c : Int)]).run Tryd.prog w = .ok (.value (.tuple #[.int .u64 (hi : Int), .int .u64 (c2 : Int)])) w := by
    intro w; rw [hhi, hc2]; exact add64_any ph sh c g3 w
  obtain ⟨W, hW⟩ : ∃ W, Hid (W = (w.alloc (.cells S.toArray 136)).alloc (.cells #[.int .u64 0, .int .u64 0] 136)) := ⟨_, rfl⟩
  have HSU : S = uc [sh, sl] := by rw [hS]; exact wd_eq hsh hsl
  obtain ⟨g, hg⟩ : ∃ g, g = w.heap.size := ⟨_, rfl⟩
  have A0 : Blk W g 136 S := by rw [hW.out, hg]; exact (Blk.newAt _ _ _ _ _ rfl (by simp)).alloc _
  have B0 : Hid (Blk W (g + 1) 136 z2) := by rw [hW.out, hg]; exact Blk.newAt _ _ _ _ _ (by simp) rfl
  have K0 : Hid (Below w.heap.size w W) := by rw [hW.out]; exact ((Below.refl _ _).alloc (Nat.le_refl _) _).alloc (by simp) _
  have c0 : W.cell? ⟨g, 0, none⟩ = some (.int .u64 (sh : Int)) := by rw [A0.cell, HSU]; rfl
  have c1 : W.cell? ⟨g, 1, none⟩ = some (.int .u64 (sl : Int)) := by rw [A0.cell, HSU]; rfl
  have HG : Hid (w.heap.size ≤ g + 1) := by rw [Hid]; omega
  clear hL HLU hS HSU A0 ht h g1 g2 g3 g4 g5 hpl hph hsl hsh hlo hc hhi hc2 hx hy
  go_enter Tryd.func90, Tryd.ntmps90
  go_wp2_with fail
  rw [← hW.out, ← hg]
  clear hW hg
  refine (C.out _).mono ?_
  rintro e w' ⟨rfl, rfl⟩
  go_wp2_with (rw [← HL.out]; refine wpList_store_wide rfl rfl (.tmp 6) (.tmp 33) rfl (g + 1) rfl L z2 rfl B0.out rfl HLL.out HL1.out ?_; intro w3 hb3 ho3)
  exact bodyPost_ret (results_cell_row rfl _ _ (g + 1) _ _ _ _ rfl hb3 Tryd.underlying136 rfl (by rw [List.size_toArray, HLL.out]; kernel_rfl)) rfl ⟨L, rfl, HF.out, K0.out.trans (ho3.below K0.out.size HG.out)⟩

set_option maxHeartbeats 1000000 in
theorem wlimb_any (s : Nat) (w : World) (S : List Value) (hS : S = wd s) :
    Calls Tryd.prog 92 #[.agg S.toArray] w fun e w' => e = .returned (.int .u64 ((s % 2251799813685248 : Nat) : Int)) ∧ Below w.heap.size w w' := by
  obtain ⟨sl, hsl⟩ : ∃ v, v = s % 18446744073709551616 := ⟨_, rfl⟩
  obtain ⟨sh, hsh⟩ : ∃ v, v = s / 18446744073709551616 := ⟨_, rfl⟩
  have HSU : S = uc [sh, sl] := by rw [hS]; exact wd_eq hsh hsl
  obtain ⟨r, hr⟩ : ∃ v, v = s % 2251799813685248 := ⟨_, rfl⟩
  rw [← hr]
  have s1 : bits BinOp.and .u64 (sl : Int) 2251799813685247 = (r : Int) := by
    have := n_and sl 51 (by omega) (by decide)
    rw [show ((2 ^ 51 - 1 : Nat) : Int) = 2251799813685247 from rfl] at this
    rw [this]
    omega
  obtain ⟨W, hW⟩ : ∃ W, Hid (W = w.alloc (.cells S.toArray 136)) := ⟨_, rfl⟩
  obtain ⟨g, hg⟩ : ∃ g, g = w.heap.size := ⟨_, rfl⟩
  have A0 : Blk W g 136 S := by rw [hW.out, hg]; exact Blk.newAt _ _ _ _ _ rfl (by simp)
  have K0 : Hid (Below w.heap.size w W) := by rw [hW.out]; exact (Below.refl _ _).alloc (Nat.le_refl _) _
  have c1 : W.cell? ⟨g, 1, none⟩ = some (.int .u64 (sl : Int)) := by rw [A0.cell, HSU]; rfl
  clear hsl hsh HSU A0 hS hr
  go_enter Tryd.func92, Tryd.ntmps92
  go_upto_region 1 with fail
  rw [← hW.out, ← hg]
  clear hW hg
  go_wp2
  go_ret
  exact ⟨rfl, K0.out⟩

theorem or_over (s : Nat) (h : s < 41538374868278621028243970633760768) : (s / 18446744073709551616) * 2 ^ 13 + s % 18446744073709551616 / 2251799813685248 = s / 2251799813685248 ∧ s % 18446744073709551616 / 2251799813685248 < 2 ^ 13 ∧ s / 2251799813685248 < 18446744073709551616 ∧ s / 18446744073709551616 * 8192 < 18446744073709551616 := by omega

set_option maxHeartbeats 1000000 in
theorem wover_any (s : Nat) (w : World) (S : List Value) (hS : S = wd s) (hs : s < 41538374868278621028243970633760768) :
    Calls Tryd.prog 93 #[.agg S.toArray] w fun e w' => e = .returned (.int .u64 ((s / 2251799813685248 : Nat) : Int)) ∧ Below w.heap.size w w' := by
  obtain ⟨g1, g2, g3, g4⟩ := or_over s hs
  obtain ⟨sl, hsl⟩ : ∃ v, v = s % 18446744073709551616 := ⟨_, rfl⟩
  obtain ⟨sh, hsh⟩ : ∃ v, v = s / 18446744073709551616 := ⟨_, rfl⟩
  have HSU : S = uc [sh, sl] := by rw [hS]; exact wd_eq hsh hsl
  obtain ⟨r, hr⟩ : ∃ v, v = s / 2251799813685248 := ⟨_, rfl⟩
  rw [← hr]
  rw [← hr, ← hsl, ← hsh] at g1
  rw [← hsl] at g2
  rw [← hr] at g3
  rw [← hsh] at g4
  obtain ⟨q, hq⟩ : ∃ v, v = sl / 2251799813685248 := ⟨_, rfl⟩
  rw [← hq] at g1 g2
  obtain ⟨p, hp⟩ : ∃ v, v = sh * 8192 := ⟨_, rfl⟩
  have s1 : IntKind.u64.wrap ((sh : Int) * 8192) = (p : Int) := by rw [IntKind.wrap_u64]; omega
  have s1' : ((sh : Int) * 8192) % 18446744073709551616 = (p : Int) := by omega
  have s2 : (sl : Int) / 2251799813685248 = (q : Int) := by omega
  have s3 : bits BinOp.or .u64 (p : Int) (q : Int) = (r : Int) := by
    have := n_or sh q 13 (by rw [g1]; exact g3) g2
    rw [g1] at this
    rw [← this, hp]
  obtain ⟨W, hW⟩ : ∃ W, Hid (W = w.alloc (.cells S.toArray 136)) := ⟨_, rfl⟩
  obtain ⟨g, hg⟩ : ∃ g, g = w.heap.size := ⟨_, rfl⟩
  have A0 : Blk W g 136 S := by rw [hW.out, hg]; exact Blk.newAt _ _ _ _ _ rfl (by simp)
  have K0 : Hid (Below w.heap.size w W) := by rw [hW.out]; exact (Below.refl _ _).alloc (Nat.le_refl _) _
  have c0 : W.cell? ⟨g, 0, none⟩ = some (.int .u64 (sh : Int)) := by rw [A0.cell, HSU]; rfl
  have c1 : W.cell? ⟨g, 1, none⟩ = some (.int .u64 (sl : Int)) := by rw [A0.cell, HSU]; rfl
  clear hsl hsh HSU A0 hS hr g1 g2 g3 g4 hs hp hq
  go_enter Tryd.func93, Tryd.ntmps93
  go_upto_region 1 with fail
  rw [← hW.out, ← hg]
  clear hW hg
  go_wp2
  go_ret
  exact ⟨rfl, K0.out⟩

end Go.Proofs.YtdojalhaklkegaaDoor
