/-
  CONTRACT OF (field.Elem).left: an element's own limbs. Conditions: the cells are an element's.
-/
import Derived.Test.YteombilmndlhjaaFieldF
namespace Go.Proofs.Yteombilmndlhjaa
open Go.RowKit
set_option linter.unusedVariables false

namespace M

/-- What goes over behind k limbs. -/
def ov (l : List Nat) (o : Nat) : Nat → Nat
  | 0 => o
  | k + 1 => (l.getD k 0 + ov l o k) / 2251799813685248

/-- The first k limbs carried, the others as they were. -/
def lf (l : List Nat) (o : Nat) : Nat → List Nat
  | 0 => l
  | k + 1 => (lf l o k).set k ((l.getD k 0 + ov l o k) % 2251799813685248)

theorem lf_length (l : List Nat) (o k : Nat) : (lf l o k).length = l.length := by
  induction k with
  | zero => rfl
  | succ k ih => rw [lf, List.length_set, ih]

theorem ov_le (l : List Nat) (o : Nat) (h : ∀ i, l.getD i 0 < 2251799813947392) (ho : o ≤ 19) (k : Nat) : ov l o k ≤ 19 := by
  cases k with
  | zero => exact ho
  | succ k =>
    have h1 := h k
    have h2 : ov l o k ≤ 19 := ov_le l o h ho k
    rw [ov]
    omega

theorem ksplit (x T : Nat) : (x + 2251799813685248 * T) / 2251799813685248 = x / 2251799813685248 + T ∧ (x + 2251799813685248 * T) % 2251799813685248 = x % 2251799813685248 := by omega

theorem V5_nest (a b c d e : Nat) : V5 a b c d e = a + 2251799813685248 * (b + 2251799813685248 * (c + 2251799813685248 * (d + 2251799813685248 * e))) := by
  unfold V5
  omega

/-- The limbs of a sum, carried one by one. -/
theorem chain5 (a b c d e p x0 x1 x2 x3 x4 : Nat) (h0 : x0 = a + p) (h1 : x1 = b + x0 / 2251799813685248) (h2 : x2 = c + x1 / 2251799813685248) (h3 : x3 = d + x2 / 2251799813685248) (h4 : x4 = e + x3 / 2251799813685248) :
    lim (V5 a b c d e + p) 0 = x0 % 2251799813685248 ∧ lim (V5 a b c d e + p) 1 = x1 % 2251799813685248 ∧ lim (V5 a b c d e + p) 2 = x2 % 2251799813685248 ∧ lim (V5 a b c d e + p) 3 = x3 % 2251799813685248 ∧ lim (V5 a b c d e + p) 4 = x4 % 2251799813685248 ∧ (V5 a b c d e + p) / 2 ^ 255 = x4 / 2251799813685248 := by
  obtain ⟨N, hN⟩ : ∃ N, N = V5 a b c d e + p := ⟨_, rfl⟩
  have n0 : N = x0 + 2251799813685248 * (b + 2251799813685248 * (c + 2251799813685248 * (d + 2251799813685248 * e))) := by rw [hN, V5_nest, h0]; omega
  have n1 : N / 2251799813685248 = x1 + 2251799813685248 * (c + 2251799813685248 * (d + 2251799813685248 * e)) := by rw [n0, (ksplit _ _).1, h1]; omega
  have n2 : N / 2251799813685248 / 2251799813685248 = x2 + 2251799813685248 * (d + 2251799813685248 * e) := by rw [n1, (ksplit _ _).1, h2]; omega
  have n3 : N / 2251799813685248 / 2251799813685248 / 2251799813685248 = x3 + 2251799813685248 * e := by rw [n2, (ksplit _ _).1, h3]; omega
  have n4 : N / 2251799813685248 / 2251799813685248 / 2251799813685248 / 2251799813685248 = x4 := by rw [n3, (ksplit _ _).1, h4]; omega
  rw [← hN]
  refine ⟨?_, ?_, ?_, ?_, ?_, ?_⟩
  · rw [lim, show 2 ^ (51 * 0) = 1 from rfl, Nat.div_one, n0, (ksplit _ _).2]
  · rw [lim, show 2 ^ (51 * 1) = 2251799813685248 from rfl, n1, (ksplit _ _).2]
  · rw [lim, show 2 ^ (51 * 2) = 2251799813685248 * 2251799813685248 from rfl, ← Nat.div_div_eq_div_mul, n2, (ksplit _ _).2]
  · rw [lim, show 2 ^ (51 * 3) = 2251799813685248 * 2251799813685248 * 2251799813685248 from rfl, ← Nat.div_div_eq_div_mul, ← Nat.div_div_eq_div_mul, n3, (ksplit _ _).2]
  · rw [lim, show 2 ^ (51 * 4) = 2251799813685248 * 2251799813685248 * 2251799813685248 * 2251799813685248 from rfl, ← Nat.div_div_eq_div_mul, ← Nat.div_div_eq_div_mul, ← Nat.div_div_eq_div_mul, n4]
  · rw [show 2 ^ 255 = 2251799813685248 * 2251799813685248 * 2251799813685248 * 2251799813685248 * 2251799813685248 from rfl, ← Nat.div_div_eq_div_mul, ← Nat.div_div_eq_div_mul, ← Nat.div_div_eq_div_mul, ← Nat.div_div_eq_div_mul, n4]

theorem own_mod (V q : Nat) (hq : q = (V + 19) / 2 ^ 255) (hV : V < 2 * Q) : q ≤ 1 ∧ (V + 19 * q) % 2 ^ 255 = V % Q := by
  unfold Q at *
  have h1 : q ≤ 1 := by omega
  refine ⟨h1, ?_⟩
  have : q = 0 ∨ q = 1 := by omega
  rcases this with rfl | rfl
  · rw [Nat.mod_eq_of_lt (show V < 57896044618658097711785492504343953926634992332820282019728792003956564819949 by omega)]
    omega
  · omega

theorem lim_mod (N i : Nat) (h : i < 5) : lim (N % 2 ^ 255) i = lim N i := by
  have : i = 0 ∨ i = 1 ∨ i = 2 ∨ i = 3 ∨ i = 4 := by omega
  rcases this with rfl | rfl | rfl | rfl | rfl
  · show N % 2 ^ 255 / 2 ^ 0 % 2251799813685248 = N / 2 ^ 0 % 2251799813685248
    omega
  · show N % 2 ^ 255 / 2 ^ 51 % 2251799813685248 = N / 2 ^ 51 % 2251799813685248
    omega
  · show N % 2 ^ 255 / 2 ^ 102 % 2251799813685248 = N / 2 ^ 102 % 2251799813685248
    omega
  · show N % 2 ^ 255 / 2 ^ 153 % 2251799813685248 = N / 2 ^ 153 % 2251799813685248
    omega
  · show N % 2 ^ 255 / 2 ^ 204 % 2251799813685248 = N / 2 ^ 204 % 2251799813685248
    omega

theorem V5_lt (a b c d e : Nat) (h0 : a < 2251799813947392) (h1 : b < 2251799813947392) (h2 : c < 2251799813947392) (h3 : d < 2251799813947392) (h4 : e < 2251799813947392) : V5 a b c d e < 2 * Q := by
  unfold V5 Q
  omega

theorem left5 (a b c d e : Nat) (h0 : a < 2251799813947392) (h1 : b < 2251799813947392) (h2 : c < 2251799813947392) (h3 : d < 2251799813947392) (h4 : e < 2251799813947392) :
    ov [a, b, c, d, e] 19 5 ≤ 1 ∧ lf [a, b, c, d, e] (19 * ov [a, b, c, d, e] 19 5) 5 = lims (V5 a b c d e % Q) 5 := by
  obtain ⟨_, _, _, _, _, hq⟩ := chain5 a b c d e 19 _ _ _ _ _ rfl rfl rfl rfl rfl
  have e1 : ov [a, b, c, d, e] 19 5 = (V5 a b c d e + 19) / 2 ^ 255 := hq.symm
  obtain ⟨g1, g2⟩ := own_mod (V5 a b c d e) _ e1 (V5_lt a b c d e h0 h1 h2 h3 h4)
  refine ⟨g1, ?_⟩
  obtain ⟨l0, l1, l2, l3, l4, _⟩ := chain5 a b c d e (19 * ov [a, b, c, d, e] 19 5) _ _ _ _ _ rfl rfl rfl rfl rfl
  rw [← g2, lims_all, lim_mod _ 0 (by decide), lim_mod _ 1 (by decide), lim_mod _ 2 (by decide), lim_mod _ 3 (by decide), lim_mod _ 4 (by decide), l0, l1, l2, l3, l4]
  rfl

end M

theorem run_index5 (w : World) (l : List Nat) (k : Nat) (hk : k < 5) (x : Nat) (hx : (uc l)[k]? = some (.int .u64 (x : Int))) :
    (Instr.index 38 (.agg (uc l).toArray) (.int .i64 (k : Int))).run Try.prog w = .ok (.int .u64 (x : Int)) w := by
  have hn' : (k : Int) < 5 := by omega
  simp [Instr.index, run_underlying Try.underlying38, asIntOf, go_sem, Try.sizeOf37]
  rw [if_pos hk, hx]
  rfl

theorem getD_lt (a b c d e B : Nat) (h0 : a < B) (h1 : b < B) (h2 : c < B) (h3 : d < B) (h4 : e < B) (i : Nat) : [a, b, c, d, e].getD i 0 < B := by
  rcases i with _ | _ | _ | _ | _ | i
  · exact h0
  · exact h1
  · exact h2
  · exact h3
  · exact h4
  · simp [List.getD_eq_getElem?_getD]; omega

set_option maxHeartbeats 4000000 in
theorem fleft_any (A : List Value) (n : Nat) (w : World) (hA : Fl A n) :
    Calls Try.prog 33 #[.agg A.toArray] w fun e w' => e = .returned (.agg (uc (M.lims n 5)).toArray) ∧ Below w.heap.size w w' := by
  obtain ⟨a0, a1, a2, a3, a4, ha, ⟨la0, la1, la2, la3, la4⟩, hx⟩ := hA
  obtain ⟨l, hl⟩ : ∃ l, l = [a0, a1, a2, a3, a4] := ⟨_, rfl⟩
  obtain ⟨hq1, hleft⟩ := M.left5 a0 a1 a2 a3 a4 la0 la1 la2 la3 la4
  rw [← hl, hx] at hleft
  rw [← hl] at hq1 ha
  have HLL : Hid (l.length = 5) := by rw [hl]; rfl
  have HLB : Hid (∀ i, l.getD i 0 < 2251799813947392) := by rw [hl]; exact getD_lt _ _ _ _ _ _ la0 la1 la2 la3 la4
  obtain ⟨c, hc⟩ : ∃ c, c = 19 * M.ov l 19 5 := ⟨_, rfl⟩
  have hc19 : c ≤ 19 := by omega
  have HV1 : Hid (∀ k, M.ov l 19 k ≤ 19) := M.ov_le l 19 HLB.out (Nat.le_refl _)
  have HV2 : Hid (∀ k, M.ov l c k ≤ 19) := M.ov_le l c HLB.out hc19
  rw [← hc] at hleft
  obtain ⟨R, hR⟩ : ∃ R, R = uc (M.lims n 5) := ⟨_, rfl⟩
  have HR : Hid (uc (M.lf l c 5) = R) := by rw [Hid, hR, hleft]
  have HRL : Hid (R.length = 5) := by rw [Hid, hR, uc_length, M.lims_length]
  have HR1 : Hid (∀ u ∈ R, u.oneCell' = true) := by rw [hR]; exact uc_one _
  rw [← hR]
  obtain ⟨p5, hp5⟩ : ∃ p, Hid (p = M.ov l 19 5) := ⟨_, rfl⟩
  have hcp : p5 * 19 = c := by rw [hp5.out, hc, Nat.mul_comm]
  have s5 : IntKind.u64.wrap ((p5 : Int) * 19) = (c : Int) := by rw [IntKind.wrap_u64]; omega
  have s5' : ((p5 : Int) * 19) % 18446744073709551616 = (c : Int) := by omega
  obtain ⟨g, hg⟩ : ∃ g, g = w.heap.size := ⟨_, rfl⟩
  obtain ⟨W, hW⟩ : ∃ W, Hid (W = (w.alloc (.cells (uc l).toArray 40)).alloc (.cells z5.toArray 40)) := ⟨_, rfl⟩
  have A0 : Hid (Blk W g 40 (uc l)) := by rw [hW.out, hg]; exact (Blk.newAt _ _ _ _ _ rfl rfl).alloc _
  have A1 : Hid (Blk W (g + 1) 40 z5) := by rw [hW.out, hg]; exact Blk.newAt _ _ _ _ _ (by simp) rfl
  have K0 : Hid (Below w.heap.size w W) := by rw [hW.out]; exact ((Below.refl _ _).alloc (Nat.le_refl _) _).alloc (by simp) _
  have HG : Hid (w.heap.size = g) := hg.symm
  subst ha
  clear hl hx hq1 hleft hR hc hcp hc19 la0 la1 la2 la3 la4
  go_enter Try.func33, Try.ntmps33
  go_upto_region 2 with fail
  rw [← z5_arr, ← hW.out, ← hg]
  clear hW hg
  go_wp2_with (refine wpList_load_mid rfl 38 (.tmp 8) rfl g 0 rfl (uc l) _ (A0.out.range 0 _ [] (by simp)) Try.underlying38 rfl (by rw [uc_length, HLL.out]; kernel_rfl) ?_)
  go_loopw [3, 10] (fun o i wr => ∃ k : Nat, k ≤ 5 ∧ i = .int .i64 k ∧ o = .int .u64 (M.ov l 19 k : Int) ∧ Hid (Blk wr g 40 (uc l)) ∧ Hid (Blk wr (g + 1) 40 z5) ∧ Hid (Below w.heap.size w wr))
    (fun _ i _ => 5 - (intOf i).toNat)
  case atStart => exact ⟨0, by omega, rfl, rfl, A0, A1, K0⟩
  case round =>
    clear A0 A1 K0
    obtain ⟨wA, rfl⟩ : ∃ x, x = wr := ⟨_, rfl⟩
    obtain ⟨k, hk, rfl, rfl, b0, b1, kk⟩ := hrel
    by_cases hlt : k < 5
    · obtain ⟨x, hx⟩ : ∃ x, Hid (x = l.getD k 0) := ⟨_, rfl⟩
      obtain ⟨o, ho⟩ : ∃ x, Hid (x = M.ov l 19 k) := ⟨_, rfl⟩
      rw [← ho.out]
      have hxb : x < 2251799813947392 := by rw [hx.out]; exact HLB.out k
      have hob : o ≤ 19 := by rw [ho.out]; exact HV1.out k
      have hrun := run_index5 wA l k hlt x (by rw [uc_get _ _ (by rw [HLL.out]; exact hlt), hx.out])
      obtain ⟨y, hy⟩ : ∃ y, y = x + o := ⟨_, rfl⟩
      obtain ⟨q, hq⟩ : ∃ q, q = y / 2251799813685248 := ⟨_, rfl⟩
      have s1 : IntKind.u64.wrap ((x : Int) + (o : Int)) = (y : Int) := by rw [IntKind.wrap_u64]; omega
      have s2 : ((x : Int) + (o : Int)) % 18446744073709551616 = (y : Int) := by omega
      have s4 : (y : Int) / 2251799813685248 = (q : Int) := by omega
      have HNX : Hid (M.ov l 19 (k + 1) = q) := by rw [Hid, M.ov, ← hx.out, ← ho.out, hq, hy]
      clear hxb hob hy hq
      go_wp2
      go_roundw
      case rel => exact ⟨k + 1, by omega, by go_num, by rw [HNX.out], b0, b1, kk⟩
      case measure => simp [intOf]; omega
    · obtain rfl : k = 5 := by omega
      rw [← hp5.out]
      have B0 : Hid (Blk wA g 40 (uc (M.lf l c 0))) := b0
      go_wp2_with (refine wpList_load_mid rfl 38 (.tmp 20) rfl g 0 rfl (uc l) _ (b0.out.range 0 _ [] (by simp)) Try.underlying38 rfl (by rw [uc_length, HLL.out]; kernel_rfl) ?_)
      clear b0
      go_loopw [3, 22] (fun o i wr => ∃ k : Nat, k ≤ 5 ∧ i = .int .i64 k ∧ o = .int .u64 (M.ov l c k : Int) ∧ Hid (Blk wr g 40 (uc (M.lf l c k))) ∧ Hid (Blk wr (g + 1) 40 z5) ∧ Hid (Below w.heap.size w wr))
        (fun _ i _ => 5 - (intOf i).toNat)
      case atStart => exact ⟨0, by omega, rfl, rfl, B0, b1, kk⟩
      case round =>
        clear B0 b1 kk
        obtain ⟨wB, rfl⟩ : ∃ x, x = wr := ⟨_, rfl⟩
        obtain ⟨k, hk, rfl, rfl, b0, b1, kk⟩ := hrel
        by_cases hlt2 : k < 5
        · obtain ⟨x, hx⟩ : ∃ x, Hid (x = l.getD k 0) := ⟨_, rfl⟩
          obtain ⟨o, ho⟩ : ∃ x, Hid (x = M.ov l c k) := ⟨_, rfl⟩
          rw [← ho.out]
          have hxb : x < 2251799813947392 := by rw [hx.out]; exact HLB.out k
          have hob : o ≤ 19 := by rw [ho.out]; exact HV2.out k
          have hrun := run_index5 wB l k hlt2 x (by rw [uc_get _ _ (by rw [HLL.out]; exact hlt2), hx.out])
          obtain ⟨y, hy⟩ : ∃ y, y = x + o := ⟨_, rfl⟩
          obtain ⟨q, hq⟩ : ∃ q, q = y / 2251799813685248 := ⟨_, rfl⟩
          obtain ⟨m, hm⟩ : ∃ m, m = y % 2251799813685248 := ⟨_, rfl⟩
          have s1 : IntKind.u64.wrap ((x : Int) + (o : Int)) = (y : Int) := by rw [IntKind.wrap_u64]; omega
          have s2 : ((x : Int) + (o : Int)) % 18446744073709551616 = (y : Int) := by omega
          have s3 : bits BinOp.and .u64 (y : Int) 2251799813685247 = (m : Int) := by rw [hm]; exact n_and y 51 (by omega) (by decide)
          have s4 : (y : Int) / 2251799813685248 = (q : Int) := by omega
          have HNX : Hid (M.ov l c (k + 1) = q) := by rw [Hid, M.ov, ← hx.out, ← ho.out, hq, hy]
          have HNL : Hid (M.lf l c (k + 1) = (M.lf l c k).set k m) := by rw [Hid, M.lf, ← hx.out, ← ho.out, hm, hy]
          obtain ⟨u, hu⟩ : ∃ u, wB.cell? ⟨g, k, none⟩ = some u := ⟨_, by rw [b0.out.cell, uc_get _ _ (by rw [M.lf_length, HLL.out]; exact hlt2)]⟩
          have hf : wB.frozen? ⟨g, k, none⟩ = false := b0.out.frozen k
          clear hxb hob hy hq hm
          go_wp2
          go_roundw
          case rel =>
            refine ⟨k + 1, by omega, by go_num, by rw [HNX.out], ?_, blk_far b1.out (by omega) _, below_set kk.out (Nat.le_of_eq HG.out) _⟩
            rw [Hid, HNL.out, ← uc_set]
            exact b0.out.set_ k _
          case measure => simp [intOf]; omega
        · obtain rfl : k = 5 := by omega
          rw [HR.out] at b0
          go_wp2_with (first
            | (refine wpList_load_el rfl (.tmp 1) rfl g rfl R b0.out HRL.out ?_)
            | (refine wpList_store_el rfl rfl (.tmp 2) (.tmp 37) rfl (g + 1) rfl R z5 rfl b1.out z5_len HRL.out HR1.out ?_; intro w5 hb5 ho5))
          exact bodyPost_ret (results_cell_row rfl _ _ (g + 1) _ _ _ _ rfl hb5 Try.underlying40 rfl (by rw [List.size_toArray, HRL.out]; kernel_rfl)) rfl ⟨rfl, kk.out.trans (ho5.below kk.out.size (by have := HG.out; omega))⟩

end Go.Proofs.Yteombilmndlhjaa
