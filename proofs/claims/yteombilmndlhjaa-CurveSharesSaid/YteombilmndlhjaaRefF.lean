/-
  CONTRACTS OF orlopref07.prime, less, minus AND Rest: numbers below 2^256 as arrays of 32 digits. Conditions: the numbers are below 2^256; what is taken away isn't greater.
-/
import Derived.Test.YteombilmndlhjaaFieldMath
import Derived.Test.YteombilmndlhjaaRefI
import Derived.Test.YteombilmndlhjaaRefA
import Derived.Deep.QuietTactic
import Derived.BigQuiet
import Derived.Lib.Hide
namespace Go.Proofs.Yteombilmndlhjaa
open Go.RowKit
set_option linter.unusedVariables false

/-- The cells of a number. -/
def nm (v : Nat) : List Value := ic (M.dg v 32)

theorem nm_length (v : Nat) : (nm v).length = 32 := by rw [nm, ic_length, M.dg_length]

theorem nm_get (v i : Nat) (h : i < 32) : (nm v)[i]? = some (.int .i64 ((v / 256 ^ i % 256 : Nat) : Int)) := by
  rw [nm, ic_get _ i (by rw [M.dg_length]; exact h), M.dg_get v 32 i h]

theorem nm_one (v : Nat) : ∀ u ∈ nm v, u.oneCell' = true := ic_oneCell _

def pz (k : Nat) : List Nat := List.replicate k 255 ++ List.replicate (32 - k) 0

theorem pz_set (k : Nat) (h : k < 32) : (ic (pz k)).set k (.int .i64 255) = ic (pz (k + 1)) := by
  rw [show (Value.int .i64 255) = ci 255 from rfl, ic_set]
  congr 1
  obtain ⟨m, hm⟩ : ∃ m, 32 - k = m + 1 := ⟨31 - k, by omega⟩
  rw [pz, pz, hm, show 32 - (k + 1) = m by omega, List.set_append_right _ _ (by rw [List.length_replicate]; omega), List.length_replicate, Nat.sub_self, List.replicate_succ, List.set_cons_zero, List.replicate_succ', List.append_assoc, List.singleton_append]

theorem pz_get (k i : Nat) (h : i < 32) : ∃ x, (ic (pz k))[i]? = some (.int .i64 x) := by
  have hl : i < (pz k).length := by rw [pz, List.length_append, List.length_replicate, List.length_replicate]; omega
  exact ⟨_, ic_get _ i hl⟩

theorem pz_end : ((ic (pz 32)).set 0 (.int .i64 237)).set 31 (.int .i64 127) = nm M.Q := by
  rw [show (Value.int .i64 237) = ci 237 from rfl, show (Value.int .i64 127) = ci 127 from rfl, ic_set, ic_set, nm]
  exact congrArg ic (by decide +kernel)

/-- 32 zeros. -/
def z32 : List Value := List.replicate 32 (.int .i64 0)

theorem z32_length : z32.length = 32 := List.length_replicate

theorem z32_pz : z32 = ic (pz 0) := rfl

set_option maxHeartbeats 1000000 in
theorem prime_any (w : World) : Calls Try.prog 55 #[] w fun e w' => e = .returned (.agg (nm M.Q).toArray) ∧ Below w.heap.size w w' := by
  obtain ⟨F, hF⟩ : ∃ F : List Value, Hid (F = nm M.Q) := ⟨_, rfl⟩
  have HFL : Hid (F.length = 32) := by rw [hF.out]; exact nm_length _
  have HF1 : Hid (∀ u ∈ F, u.oneCell' = true) := by rw [hF.out]; exact nm_one _
  rw [← hF.out]
  go_enter Try.func55, Try.ntmps55
  go_wp2
  go_loopw [2] (fun i wr => ∃ k : Nat, k ≤ 32 ∧ i = .int .i64 k ∧ Hid (Blk wr (w.heap.size + 1) 49 (ic (pz k))) ∧ Hid (Blk wr w.heap.size 49 z32) ∧ Below w.heap.size w wr)
    (fun i _ => 32 - (intOf i).toNat)
  case atStart => exact ⟨0, by omega, rfl, Blk.newAt _ _ _ _ _ (by simp) rfl, (Blk.newAt _ _ _ _ _ rfl rfl).alloc _, ((Below.refl _ _).alloc (Nat.le_refl _) _).alloc (by simp) _⟩
  case round =>
    obtain ⟨wz, rfl⟩ : ∃ x, x = wr := ⟨_, rfl⟩
    obtain ⟨k, hk, rfl, b1, b0, kk⟩ := hrel
    by_cases hlt : k < 32
    · obtain ⟨x, hx⟩ := pz_get k k hlt
      have hc : wz.cell? ⟨w.heap.size + 1, k, none⟩ = some (.int .i64 x) := by rw [b1.out.cell]; exact hx
      have hf : wz.frozen? ⟨w.heap.size + 1, k, none⟩ = false := b1.out.frozen _
      have N1 : Hid (Blk (wz.setCell ⟨w.heap.size + 1, k, none⟩ (.int .i64 255)) (w.heap.size + 1) 49 (ic (pz (k + 1)))) := (b1.out.set_ _ _).eq_ (pz_set k hlt)
      have N0 : Hid (Blk (wz.setCell ⟨w.heap.size + 1, k, none⟩ (.int .i64 255)) w.heap.size 49 z32) := b0.out.far (by simp) _
      have NK : Hid (Below w.heap.size w (wz.setCell ⟨w.heap.size + 1, k, none⟩ (.int .i64 255))) := kk.setCell (by simp) _
      clear hx b1 b0
      go_wp2
      go_roundw
      case rel => exact ⟨k + 1, by omega, by go_num, N1, N0, NK.out⟩
      case measure => simp [intOf]; omega
    · obtain rfl : k = 32 := by omega
      obtain ⟨g, hg⟩ : ∃ g, g = w.heap.size + 1 := ⟨_, rfl⟩
      have hgw : w.heap.size < g := by omega
      rw [← hg] at b1 ⊢
      clear hg
      have hc0 : wz.cell? ⟨g, 0, none⟩ = some (.int .i64 255) := by rw [b1.out.cell]; rfl
      have hf0 : wz.frozen? ⟨g, 0, none⟩ = false := b1.out.frozen _
      have b2 := b1.out.set_ 0 (.int .i64 237)
      have hc1 : (wz.setCell ⟨g, 0, none⟩ (.int .i64 237)).cell? ⟨g, 31, none⟩ = some (.int .i64 255) := by rw [b2.cell]; rfl
      have hf1 : (wz.setCell ⟨g, 0, none⟩ (.int .i64 237)).frozen? ⟨g, 31, none⟩ = false := b2.frozen _
      have b3 := (b2.set_ 31 (.int .i64 127)).eq_ pz_end
      have RG : Hid (((wz.setCell ⟨g, 0, none⟩ (.int .i64 237)).setCell ⟨g, 31, none⟩ (.int .i64 127)).rangeAt g 0 (nm M.Q)) := b3.range 0 _ [] (by simp)
      have B0 : Hid (Blk ((wz.setCell ⟨g, 0, none⟩ (.int .i64 237)).setCell ⟨g, 31, none⟩ (.int .i64 127)) w.heap.size 49 z32) := (b0.out.far (show w.heap.size ≠ g from Nat.ne_of_lt hgw) _).far (show w.heap.size ≠ g from Nat.ne_of_lt hgw) _
      have K0 : Hid (Below w.heap.size w ((wz.setCell ⟨g, 0, none⟩ (.int .i64 237)).setCell ⟨g, 31, none⟩ (.int .i64 127))) := (kk.setCell (show w.heap.size ≤ g from Nat.le_of_lt hgw) _).setCell (show w.heap.size ≤ g from Nat.le_of_lt hgw) _
      clear b1 b2 b3 b0 kk
      rw [← hF.out] at RG
      clear hF
      go_wp2_with (first
          | (refine wpList_load_mid rfl 49 (.tmp 1) rfl g 0 rfl F _ RG.out Try.underlying49 rfl (by rw [HFL.out]; kernel_rfl) ?_)
          | (refine wpList_store_blk rfl 49 (.tmp 0) (.tmp 11) rfl w.heap.size F.toArray rfl rfl 49 z32 B0.out (by rw [List.size_toArray, HFL.out]; kernel_rfl) (by rw [List.size_toArray, HFL.out, z32_length]) HF1.out ?_; intro w9 hb9 ho9))
      exact bodyPost_ret (results_cell_row rfl _ _ w.heap.size _ _ _ _ rfl hb9 Try.underlying49 rfl (by rw [Array.toArray_toList, List.size_toArray, HFL.out]; kernel_rfl)) rfl ⟨by rw [Array.toArray_toList], K0.out.trans (ho9.below K0.out.size (Nat.le_refl _))⟩

/-- A number's cells under a name. -/
theorem nm_named (v : Nat) : ∃ F : List Value, Hid (F = nm v) ∧ Hid (F.length = 32) ∧ Hid (∀ u ∈ F, u.oneCell' = true) := ⟨_, rfl, nm_length v, nm_one v⟩

set_option maxHeartbeats 1000000 in
theorem less_any (x y : Nat) (w : World) (hx : x < 256 ^ 32) (hy : y < 256 ^ 32) : Calls Try.prog 56 #[.agg (nm x).toArray, .agg (nm y).toArray] w fun e w' => e = .returned (.bool (decide (x < y))) ∧ Below w.heap.size w w' := by
  obtain ⟨A, hA⟩ : ∃ A, Hid (A = (nm x).toArray) := ⟨_, rfl⟩
  obtain ⟨B, hB⟩ : ∃ B, Hid (B = (nm y).toArray) := ⟨_, rfl⟩
  have HT : Hid (x / 256 ^ 32 = y / 256 ^ 32) := M.less_top x y hx hy
  rw [← hA.out, ← hB.out]
  obtain ⟨W, hW⟩ : ∃ W, Hid (W = (w.alloc (.cells A 49)).alloc (.cells B 49)) := ⟨_, rfl⟩
  obtain ⟨g, hg⟩ : ∃ g, g = w.heap.size := ⟨_, rfl⟩
  have B0 : Hid (Blk W g 49 (nm x)) := by rw [hW.out, hg]; exact (Blk.newAt _ _ _ _ _ rfl (by rw [hA.out])).alloc _
  have B1 : Hid (Blk W (g + 1) 49 (nm y)) := by rw [hW.out, hg]; exact Blk.newAt _ _ _ _ _ (by simp) (by rw [hB.out])
  have K : Hid (Below w.heap.size w W) := by rw [hW.out]; exact ((Below.refl _ _).alloc (Nat.le_refl _) _).alloc (by simp) _
  obtain ⟨D, hD⟩ : ∃ D, Hid (D = decide (x < y)) := ⟨_, rfl⟩
  rw [← hD.out]
  clear hx hy
  go_enter Try.func56, Try.ntmps56
  go_wp2
  rw [← hW.out, ← hg]
  clear hg hW hA hB
  go_loopw [5] (fun i wr => ∃ k : Nat, k ≤ 32 ∧ i = .int .i64 ((k : Int) - 1) ∧ Hid (x / 256 ^ k = y / 256 ^ k) ∧ ∃ n, wr = W.drewN n)
    (fun i _ => (intOf i + 1).toNat)
  case atStart => exact ⟨32, by omega, rfl, HT, 0, rfl⟩
  case round =>
    obtain ⟨k, hk, rfl, hpre, n, rfl⟩ := hrel
    by_cases h0 : k = 0
    · subst h0
      have HX : D = false := by
        have := hpre.out
        simp only [Nat.pow_zero, Nat.div_one] at this
        rw [hD.out, this]
        exact decide_eq_false (Nat.lt_irrefl _)
      clear hD
      subst HX
      go_wp2
      go_ret
      exact ⟨rfl, drewN_below K.out n⟩
    · obtain ⟨j, rfl⟩ : ∃ j, k = j + 1 := ⟨k - 1, by omega⟩
      obtain ⟨X, hX⟩ : ∃ X, Hid (X = x / 256 ^ j % 256) := ⟨_, rfl⟩
      obtain ⟨Y, hY⟩ : ∃ Y, Hid (Y = y / 256 ^ j % 256) := ⟨_, rfl⟩
      have hXl : X < 256 := by rw [hX.out]; exact Nat.mod_lt _ (by decide)
      have hYl : Y < 256 := by rw [hY.out]; exact Nat.mod_lt _ (by decide)
      have c0 : W.cell? ⟨g, j, none⟩ = some (.int .i64 (X : Int)) := by rw [B0.out.cell, nm_get x j (by omega), ← hX.out]
      have c1 : W.cell? ⟨g + 1, j, none⟩ = some (.int .i64 (Y : Int)) := by rw [B1.out.cell, nm_get y j (by omega), ← hY.out]
      have ei : ((j + 1 : Nat) : Int) - 1 = (j : Int) := by omega
      rw [ei]
      clear ei h0
      by_cases he : X = Y
      · have HN : Hid (x / 256 ^ j = y / 256 ^ j) := M.less_on x y j hpre.out (by rw [← hX.out, ← hY.out]; exact he)
        subst he
        clear hX hY hpre
        go_wp2
        go_quiet (fail)
        go_wp2
        go_roundw
        case rel => exact ⟨j, by omega, rfl, HN, _, rfl⟩
        case measure => simp only [intOf]; omega
      · have HN : Hid (decide (X < Y) = D) := by rw [hX.out, hY.out, hD.out]; exact M.less_at x y j hpre.out (by rw [← hX.out, ← hY.out]; exact he)
        have hne : ¬ (X : Int) = (Y : Int) := by omega
        clear hX hY hpre hD
        go_wp2
        go_quiet (fail)
        go_wp2
        go_quiet (fail)
        go_wp2
        go_ret
        exact ⟨ret_bool HN.out, drewN_below (drewN_below (drewN_below K.out _) _) _⟩

set_option maxRecDepth 100000 in
set_option maxHeartbeats 4000000 in
theorem minus_any (x y : Nat) (w : World) (hx : x < 256 ^ 32) (hy : y ≤ x) : Calls Try.prog 54 #[.agg (nm x).toArray, .agg (nm y).toArray] w fun e w' => e = .returned (.agg (nm (x - y)).toArray) ∧ Below w.heap.size w w' := by
  obtain ⟨A, hA⟩ : ∃ A, Hid (A = (nm x).toArray) := ⟨_, rfl⟩
  obtain ⟨B, hB⟩ : ∃ B, Hid (B = (nm y).toArray) := ⟨_, rfl⟩
  obtain ⟨F, hF, HFL, HF1⟩ := nm_named (x - y)
  have HE : Hid (∀ N, N = 32 → ic (M.prt (M.mS x y N) x N) = F) := by rintro N rfl; rw [hF.out, M.prt_all, M.minus_all x y hx hy, nm]
  rw [← hA.out, ← hB.out, ← hF.out]
  obtain ⟨W, hW⟩ : ∃ W, Hid (W = (w.alloc (.cells A 49)).alloc (.cells B 49)) := ⟨_, rfl⟩
  obtain ⟨g, hg⟩ : ∃ g, g = w.heap.size := ⟨_, rfl⟩
  have B0 : Hid (Blk W g 49 (ic (M.prt (M.mS x y 0) x 0))) := by
    have h : Blk W g 49 (nm x) := by rw [hW.out, hg]; exact (Blk.newAt _ _ _ _ _ rfl (by rw [hA.out])).alloc _
    rw [M.prt_zero]
    exact h
  have B1 : Hid (Blk W (g + 1) 49 (nm y)) := by rw [hW.out, hg]; exact Blk.newAt _ _ _ _ _ (by simp) (by rw [hB.out])
  have HWS : Hid (W.heap.size = g + 1 + 1) := by rw [Hid, hW.out, hg]; simp
  have K : Hid (Below w.heap.size w W) := by rw [hW.out]; exact ((Below.refl _ _).alloc (Nat.le_refl _) _).alloc (by simp) _
  have HG : Hid (g = w.heap.size) := hg
  clear hx hy
  go_enter Try.func54, Try.ntmps54
  go_wp2
  rw [← hW.out, ← hg]
  have hws := HWS.out
  obtain ⟨W1, hW1⟩ : ∃ W1, Hid (W1 = W.alloc (.cells z32.toArray 49)) := ⟨_, rfl⟩
  have D0 : Hid (Blk W1 g 49 (ic (M.prt (M.mS x y 0) x 0))) := by rw [hW1.out]; exact B0.out.alloc _
  have D1 : Hid (Blk W1 (g + 1) 49 (nm y)) := by rw [hW1.out]; exact B1.out.alloc _
  have D2 : Hid (Blk W1 (g + 1 + 1) 49 z32) := by rw [hW1.out]; exact Blk.newAt _ _ _ _ _ hws.symm rfl
  have K1 : Hid (Below w.heap.size w W1) := by rw [hW1.out]; exact K.out.alloc K.out.size _
  have HC0 : Hid (M.mC x y 0 = 0) := M.minus_zero x y
  have hz : z32.toArray = #[Value.int .i64 0, .int .i64 0, .int .i64 0, .int .i64 0, .int .i64 0, .int .i64 0, .int .i64 0, .int .i64 0, .int .i64 0, .int .i64 0, .int .i64 0, .int .i64 0, .int .i64 0, .int .i64 0, .int .i64 0, .int .i64 0, .int .i64 0, .int .i64 0, .int .i64 0, .int .i64 0, .int .i64 0, .int .i64 0, .int .i64 0, .int .i64 0, .int .i64 0, .int .i64 0, .int .i64 0, .int .i64 0, .int .i64 0, .int .i64 0, .int .i64 0, .int .i64 0] := rfl
  rw [← hz, ← hW1.out]
  clear hz hW hA hB hW1 B0 B1 K hws HWS hg hF
  go_loopw [5, 6] (fun c i wr => ∃ k : Nat, k ≤ 32 ∧ i = .int .i64 (k : Int) ∧ c = .int .i64 (M.mC x y k : Nat) ∧ Hid (Blk wr g 49 (ic (M.prt (M.mS x y k) x k))) ∧ Hid (Blk wr (g + 1) 49 (nm y)) ∧ Hid (Blk wr (g + 1 + 1) 49 z32) ∧ Hid (Below w.heap.size w wr))
    (fun _ i _ => 32 - (intOf i).toNat)
  case atStart => exact ⟨0, by omega, rfl, by rw [HC0.out]; rfl, D0, D1, D2, K1⟩
  case round =>
    clear D0 D1 D2 K1 HC0
    obtain ⟨wz, rfl⟩ : ∃ x, x = wr := ⟨_, rfl⟩
    obtain ⟨k, hk, rfl, rfl, b0, b1, b2, kk⟩ := hrel
    obtain ⟨c, hc⟩ : ∃ c, Hid (c = M.mC x y k) := ⟨_, rfl⟩
    rw [← hc.out]
    by_cases hlt : k < 32
    · obtain ⟨X, hX⟩ : ∃ X, Hid (X = x / 256 ^ k % 256) := ⟨_, rfl⟩
      obtain ⟨Y, hY⟩ : ∃ Y, Hid (Y = y / 256 ^ k % 256) := ⟨_, rfl⟩
      obtain ⟨d, h1, hc1, hd, h2⟩ := M.minus_step x y k
      rw [← hX.out, ← hY.out, ← hc.out] at h2
      rw [← hc.out] at hc1
      have hXl : X < 256 := by rw [hX.out]; exact Nat.mod_lt _ (by decide)
      have hYl : Y < 256 := by rw [hY.out]; exact Nat.mod_lt _ (by decide)
      have c0 : wz.cell? ⟨g, k, none⟩ = some (.int .i64 (X : Int)) := by rw [b0.out.cell, ic_get _ k (by rw [M.prt_length _ _ _ (by omega)]; exact hlt), M.prt_get _ _ _ hlt, ← hX.out]
      have c1 : wz.cell? ⟨g + 1, k, none⟩ = some (.int .i64 (Y : Int)) := by rw [b1.out.cell, nm_get y k hlt, ← hY.out]
      have f0 : wz.frozen? ⟨g, k, none⟩ = false := b0.out.frozen _
      have N0 : Hid (∀ n, Blk ((wz.drewN n).setCell ⟨g, k, none⟩ (.int .i64 (d : Int))) g 49 (ic (M.prt (M.mS x y (k + 1)) x (k + 1)))) := fun n => ((b0.out.drewN n).set_ _ _).eq_ (by rw [show Value.int .i64 (d : Int) = ci d from rfl, ic_set, M.prt_set _ _ _ k d hlt h1])
      have N1 : Hid (∀ n, Blk ((wz.drewN n).setCell ⟨g, k, none⟩ (.int .i64 (d : Int))) (g + 1) 49 (nm y)) := fun n => (b1.out.drewN n).far (show g + 1 ≠ g by omega) _
      have N2 : Hid (∀ n, Blk ((wz.drewN n).setCell ⟨g, k, none⟩ (.int .i64 (d : Int))) (g + 1 + 1) 49 z32) := fun n => (b2.out.drewN n).far (show g + 1 + 1 ≠ g by omega) _
      have NK : Hid (∀ n, Below w.heap.size w ((wz.drewN n).setCell ⟨g, k, none⟩ (.int .i64 (d : Int)))) := fun n => (drewN_below kk.out n).setCell (show w.heap.size ≤ g from Nat.le_of_eq HG.out.symm) _
      obtain ⟨s, hs⟩ : ∃ s : Int, (X : Int) - (Y : Int) = s := ⟨_, rfl⟩
      obtain ⟨v, hv⟩ : ∃ v : Int, s - (c : Int) = v := ⟨_, rfl⟩
      have hsb1 : -256 < s := by omega
      have hsb2 : s < 256 := by omega
      have hvb1 : -257 < v := by omega
      have hvb2 : v < 256 := by omega
      rcases h2 with ⟨h3, h4⟩ | ⟨h3, h5, h4⟩
      · obtain rfl : v = (d : Int) := by omega
        have H4 : Hid (∀ n, n = k + 1 → M.mC x y n = 0) := fun n e => by rw [e]; exact h4
        clear h1 h3 h4 hc hX hY b0 b1 b2 kk hc1
        go_wp2
        go_quiet (fail)
        go_wp2
        go_roundw
        case rel => exact ⟨k + 1, by omega, by go_num, by rw [H4.out _ rfl]; rfl, N0.out _, N1.out _, N2.out _, NK.out _⟩
        case measure => simp [intOf]; omega
      · have hvn : v < 0 := by omega
        have hvd : v + 256 = (d : Int) := by omega
        have H4 : Hid (∀ n, n = k + 1 → M.mC x y n = 1) := fun n e => by rw [e]; exact h4
        clear h1 h3 h4 h5 hc hX hY b0 b1 b2 kk hc1
        go_wp2
        go_quiet (fail)
        go_wp2
        go_roundw
        case rel => exact ⟨k + 1, by omega, by go_num, by rw [H4.out _ rfl]; rfl, N0.out _, N1.out _, N2.out _, NK.out _⟩
        case measure => simp [intOf]; omega
    · obtain rfl : k = 32 := by omega
      have RG : Hid (wz.rangeAt g 0 F) := by rw [← HE.out 32 rfl]; exact b0.out.range 0 _ [] (by simp)
      clear hc b0 b1 HE
      go_wp2_with (first
          | (refine wpList_load_mid rfl 49 (.tmp 2) rfl g 0 rfl F _ RG.out Try.underlying49 rfl (by rw [HFL.out]; kernel_rfl) ?_)
          | (refine wpList_store_blk rfl 49 (.tmp 4) (.tmp 28) rfl (g + 1 + 1) F.toArray rfl rfl 49 z32 b2.out (by rw [List.size_toArray, HFL.out]; kernel_rfl) (by rw [List.size_toArray, HFL.out, z32_length]) HF1.out ?_; intro w9 hb9 ho9))
      exact bodyPost_ret (results_cell_row rfl _ _ (g + 1 + 1) _ _ _ _ rfl hb9 Try.underlying49 rfl (by rw [Array.toArray_toList, List.size_toArray, HFL.out]; kernel_rfl)) rfl ⟨by rw [Array.toArray_toList], kk.out.trans (ho9.below kk.out.size (by have := HG.out; omega))⟩

end Go.Proofs.Yteombilmndlhjaa
