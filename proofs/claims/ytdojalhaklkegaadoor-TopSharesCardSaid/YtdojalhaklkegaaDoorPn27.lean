/-
  CONTRACT OF (field.Elem).left: an element's own limbs. Conditions: the cells are an element's.
  CONTRACT OF (field.Elem).Bytes: an element's own 32 bytes. Conditions: the cells are an element's.
  CONTRACT OF field.Swap: two elements, changed about if the least bit is 1. Conditions: the cells are elements'.
-/
import Derived.Test.YtdojalhaklkegaaDoorPn24
import Derived.Test.YtdojalhaklkegaaDoorPn1
import Derived.Test.YtdojalhaklkegaaDoorPn5
import Derived.Test.YtdojalhaklkegaaDoorPn10

set_option maxRecDepth 100000
namespace Go.Proofs.YtdojalhaklkegaaDoor
open Go.RowKit
set_option linter.unusedVariables false

namespace M

/-- What goes over behind k limbs. -/
def ov (l : List Nat) (o : Nat) : Nat → Nat
  | 0 => o
  | k + 1 => (l.getD k 0 + ov l o k) / 2251799813685248

/-- The first k limbs carried, the others as they were. -/
def lf (l : List Nat) (o : Nat) : Nat → List Nat
  | 0 => l
  | k + 1 => (lf l o k).set k ((l.getD k 0 + ov l o k) % 2251799813685248)

theorem lf_length (l : List Nat) (o k : Nat) : (lf l o k).length = l.length := by
  induction k with
  | zero => rfl
  | succ k ih => rw [lf, List.length_set, ih]

theorem ov_le (l : List Nat) (o : Nat) (h : ∀ i, l.getD i 0 < 2251799813947392) (ho : o ≤ 19) (k : Nat) : ov l o k ≤ 19 := by
  cases k with
  | zero => exact ho
  | succ k =>
    have h1 := h k
    have h2 : ov l o k ≤ 19 := ov_le l o h ho k
    rw [ov]
    omega

theorem ksplit (x T : Nat) : (x + 2251799813685248 * T) / 2251799813685248 = x / 2251799813685248 + T ∧ (x + 2251799813685248 * T) % 2251799813685248 = x % 2251799813685248 := by omega

theorem V5_nest (a b c d e : Nat) : V5 a b c d e = a + 2251799813685248 * (b + 2251799813685248 * (c + 2251799813685248 * (d + 2251799813685248 * e))) := by
  unfold V5
  omega

/-- The limbs of a sum, carried one by one. -/
theorem chain5 (a b c d e p x0 x1 x2 x3 x4 : Nat) (h0 : x0 = a + p) (h1 : x1 = b + x0 / 2251799813685248) (h2 : x2 = c + x1 / 2251799813685248) (h3 : x3 = d + x2 / 2251799813685248) (h4 : x4 = e + x3 / 2251799813685248) :
    lim (V5 a b c d e + p) 0 = x0 % 2251799813685248 ∧ lim (V5 a b c d e + p) 1 = x1 % 2251799813685248 ∧ lim (V5 a b c d e + p) 2 = x2 % 2251799813685248 ∧ lim (V5 a b c d e + p) 3 = x3 % 2251799813685248 ∧ lim (V5 a b c d e + p) 4 = x4 % 2251799813685248 ∧ (V5 a b c d e + p) / 2 ^ 255 = x4 / 2251799813685248 := by
  obtain ⟨N, hN⟩ : ∃ N, N = V5 a b c d e + p := ⟨_, rfl⟩
  have n0 : N = x0 + 2251799813685248 * (b + 2251799813685248 * (c + 2251799813685248 * (d + 2251799813685248 * e))) := by rw [hN, V5_nest, h0]; omega
  have n1 : N / 2251799813685248 = x1 + 2251799813685248 * (c + 2251799813685248 * (d + 2251799813685248 * e)) := by rw [n0, (ksplit _ _).1, h1]; omega
  have n2 : N / 2251799813685248 / 2251799813685248 = x2 + 2251799813685248 * (d + 2251799813685248 * e) := by rw [n1, (ksplit _ _).1, h2]; omega
  have n3 : N / 2251799813685248 / 2251799813685248 / 2251799813685248 = x3 + 2251799813685248 * e := by rw [n2, (ksplit _ _).1, h3]; omega
  have n4 : N / 2251799813685248 / 2251799813685248 / 2251799813685248 / 2251799813685248 = x4 := by rw [n3, (ksplit _ _).1, h4]; omega
  rw [← hN]
  refine ⟨?_, ?_, ?_, ?_, ?_, ?_⟩
  · rw [lim, show 2 ^ (51 * 0) = 1 from rfl, Nat.div_one, n0, (ksplit _ _).2]
  · rw [lim, show 2 ^ (51 * 1) = 2251799813685248 from rfl, n1, (ksplit _ _).2]
  · rw [lim, show 2 ^ (51 * 2) = 2251799813685248 * 2251799813685248 from rfl, ← Nat.div_div_eq_div_mul, n2, (ksplit _ _).2]
  · rw [lim, show 2 ^ (51 * 3) = 2251799813685248 * 2251799813685248 * 2251799813685248 from rfl, ← Nat.div_div_eq_div_mul, ← Nat.div_div_eq_div_mul, n3, (ksplit _ _).2]
  · rw [lim, show 2 ^ (51 * 4) = 2251799813685248 * 2251799813685248 * 2251799813685248 * 2251799813685248 from rfl, ← Nat.div_div_eq_div_mul, ← Nat.div_div_eq_div_mul, ← Nat.div_div_eq_div_mul, n4]
  · rw [show 2 ^ 255 = 2251799813685248 * 2251799813685248 * 2251799813685248 * 2251799813685248 * 2251799813685248 from rfl, ← Nat.div_div_eq_div_mul, ← Nat.div_div_eq_div_mul, ← Nat.div_div_eq_div_mul, ← Nat.div_div_eq_div_mul, n4]

theorem own_mod (V q : Nat) (hq : q = (V + 19) / 2 ^ 255) (hV : V < 2 * Q) : q ≤ 1 ∧ (V + 19 * q) % 2 ^ 255 = V % Q := by
  unfold Q at *
  have h1 : q ≤ 1 := by omega
  refine ⟨h1, ?_⟩
  have : q = 0 ∨ q = 1 := by omega
  rcases this with rfl | rfl
  · rw [Nat.mod_eq_of_lt (show V < 57896044618658097711785492504343953926634992332820282019728792003956564819949 by omega)]
    omega
  · omega

theorem lim_mod (N i : Nat) (h : i < 5) : lim (N % 2 ^ 255) i = lim N i := by
  have : i = 0 ∨ i = 1 ∨ i = 2 ∨ i = 3 ∨ i = 4 := by omega
  rcases this with rfl | rfl | rfl | rfl | rfl
  · show N % 2 ^ 255 / 2 ^ 0 % 2251799813685248 = N / 2 ^ 0 % 2251799813685248
    omega
  · show N % 2 ^ 255 / 2 ^ 51 % 2251799813685248 = N / 2 ^ 51 % 2251799813685248
    omega
  · show N % 2 ^ 255 / 2 ^ 102 % 2251799813685248 = N / 2 ^ 102 % 2251799813685248
    omega
  · show N % 2 ^ 255 / 2 ^ 153 % 2251799813685248 = N / 2 ^ 153 % 2251799813685248
    omega
  · show N % 2 ^ 255 / 2 ^ 204 % 2251799813685248 = N / 2 ^ 204 % 2251799813685248
    omega

theorem V5_lt (a b c d e : Nat) (h0 : a < 2251799813947392) (h1 : b < 2251799813947392) (h2 : c < 2251799813947392) (h3 : d < 2251799813947392) (h4 : e < 2251799813947392) : V5 a b c d e < 2 * Q := by
  unfold V5 Q
  omega

theorem left5 (a b c d e : Nat) (h0 : a < 2251799813947392) (h1 : b < 2251799813947392) (h2 : c < 2251799813947392) (h3 : d < 2251799813947392) (h4 : e < 2251799813947392) :
    ov [a, b, c, d, e] 19 5 ≤ 1 ∧ lf [a, b, c, d, e] (19 * ov [a, b, c, d, e] 19 5) 5 = lims (V5 a b c d e % Q) 5 := by
  obtain ⟨_, _, _, _, _, hq⟩ := chain5 a b c d e 19 _ _ _ _ _ rfl rfl rfl rfl rfl
  have e1 : ov [a, b, c, d, e] 19 5 = (V5 a b c d e + 19) / 2 ^ 255 := hq.symm
  obtain ⟨g1, g2⟩ := own_mod (V5 a b c d e) _ e1 (V5_lt a b c d e h0 h1 h2 h3 h4)
  refine ⟨g1, ?_⟩
  obtain ⟨l0, l1, l2, l3, l4, _⟩ := chain5 a b c d e (19 * ov [a, b, c, d, e] 19 5) _ _ _ _ _ rfl rfl rfl rfl rfl
  rw [← g2, lims_all, lim_mod _ 0 (by decide), lim_mod _ 1 (by decide), lim_mod _ 2 (by decide), lim_mod _ 3 (by decide), lim_mod _ 4 (by decide), l0, l1, l2, l3, l4]
  rfl

end M

theorem run_index5 (w : World) (l : List Nat) (k : Nat) (hk : k < 5) (x : Nat) (hx : (uc l)[k]? = some (.int .u64 (x : Int))) :
    (Instr.index 60 (.agg (uc l).toArray) (.int .i64 (k : Int))).run Tryd.prog w = .ok (.int .u64 (x : Int)) w := by
  have hn' : (k : Int) < 5 := by omega
  simp [Instr.index, run_underlying Tryd.underlying60, asIntOf, go_sem, Tryd.sizeOf59]
  rw [if_pos hk, hx]
  rfl

theorem getD_lt (a b c d e B : Nat) (h0 : a < B) (h1 : b < B) (h2 : c < B) (h3 : d < B) (h4 : e < B) (i : Nat) : [a, b, c, d, e].getD i 0 < B := by
  rcases i with _ | _ | _ | _ | _ | i
  · exact h0
  · exact h1
  · exact h2
  · exact h3
  · exact h4
  · simp [List.getD_eq_getElem?_getD]; omega

set_option maxHeartbeats 4000000 in
theorem fleft_any (A : List Value) (n : Nat) (w : World) (hA : Fl A n) :
    Calls Tryd.prog 63 #[.agg A.toArray] w fun e w' => e = .returned (.agg (uc (M.lims n 5)).toArray) ∧ Below w.heap.size w w' := by
  obtain ⟨a0, a1, a2, a3, a4, ha, ⟨la0, la1, la2, la3, la4⟩, hx⟩ := hA
  obtain ⟨l, hl⟩ : ∃ l, l = [a0, a1, a2, a3, a4] := ⟨_, rfl⟩
  obtain ⟨hq1, hleft⟩ := M.left5 a0 a1 a2 a3 a4 la0 la1 la2 la3 la4
  rw [← hl, hx] at hleft
  rw [← hl] at hq1 ha
  have HLL : Hid (l.length = 5) := by rw [hl]; rfl
  have HLB : Hid (∀ i, l.getD i 0 < 2251799813947392) := by rw [hl]; exact getD_lt _ _ _ _ _ _ la0 la1 la2 la3 la4
  obtain ⟨c, hc⟩ : ∃ c, c = 19 * M.ov l 19 5 := ⟨_, rfl⟩
  have hc19 : c ≤ 19 := by omega
  have HV1 : Hid (∀ k, M.ov l 19 k ≤ 19) := M.ov_le l 19 HLB.out (Nat.le_refl _)
  have HV2 : Hid (∀ k, M.ov l c k ≤ 19) := M.ov_le l c HLB.out hc19
  rw [← hc] at hleft
  obtain ⟨R, hR⟩ : ∃ R, R = uc (M.lims n 5) := ⟨_, rfl⟩
  have HR : Hid (uc (M.lf l c 5) = R) := by rw [Hid, hR, hleft]
  have HRL : Hid (R.length = 5) := by rw [Hid, hR, uc_length, M.lims_length]
  have HR1 : Hid (∀ u ∈ R, u.oneCell' = true) := by rw [hR]; exact uc_one _
  rw [← hR]
  obtain ⟨p5, hp5⟩ : ∃ p, Hid (p = M.ov l 19 5) := ⟨_, rfl⟩
  have hcp : p5 * 19 = c := by rw [hp5.out, hc, Nat.mul_comm]
  have s5 : IntKind.u64.wrap ((p5 : Int) * 19) = (c : Int) := by rw [IntKind.wrap_u64]; omega
  have s5' : ((p5 : Int) * 19) % 18446744073709551616 = (c : Int) := by omega
  obtain ⟨g, hg⟩ : ∃ g, g = w.heap.size := ⟨_, rfl⟩
  obtain ⟨W, hW⟩ : ∃ W, Hid (W = (w.alloc (.cells (uc l).toArray 62)).alloc (.cells z5.toArray 62)) := ⟨_, rfl⟩
  have A0 : Hid (Blk W g 62 (uc l)) := by rw [hW.out, hg]; exact (Blk.newAt _ _ _ _ _ rfl rfl).alloc _
  have A1 : Hid (Blk W (g + 1) 62 z5) := by rw [hW.out, hg]; exact Blk.newAt _ _ _ _ _ (by simp) rfl
  have K0 : Hid (Below w.heap.size w W) := by rw [hW.out]; exact ((Below.refl _ _).alloc (Nat.le_refl _) _).alloc (by simp) _
  have HG : Hid (w.heap.size = g) := hg.symm
  subst ha
  clear hl hx hq1 hleft hR hc hcp hc19 la0 la1 la2 la3 la4
  go_enter Tryd.func63, Tryd.ntmps63
  go_upto_region 2 with fail
  rw [← z5_arr, ← hW.out, ← hg]
  clear hW hg
  go_wp2_with (refine wpList_load_mid rfl 60 (.tmp 8) rfl g 0 rfl (uc l) _ (A0.out.range 0 _ [] (by simp)) Tryd.underlying60 rfl (by rw [uc_length, HLL.out]; kernel_rfl) ?_)
  go_loopw [3, 10] (fun o i wr => ∃ k : Nat, k ≤ 5 ∧ i = .int .i64 k ∧ o = .int .u64 (M.ov l 19 k : Int) ∧ Hid (Blk wr g 62 (uc l)) ∧ Hid (Blk wr (g + 1) 62 z5) ∧ Hid (Below w.heap.size w wr))
    (fun _ i _ => 5 - (intOf i).toNat)
  case atStart => exact ⟨0, by omega, rfl, rfl, A0, A1, K0⟩
  case round =>
    clear A0 A1 K0
    obtain ⟨wA, rfl⟩ : ∃ x, x = wr := ⟨_, rfl⟩
    obtain ⟨k, hk, rfl, rfl, b0, b1, kk⟩ := hrel
    by_cases hlt : k < 5
    · obtain ⟨x, hx⟩ : ∃ x, Hid (x = l.getD k 0) := ⟨_, rfl⟩
      obtain ⟨o, ho⟩ : ∃ x, Hid (x = M.ov l 19 k) := ⟨_, rfl⟩
      rw [← ho.out]
      have hxb : x < 2251799813947392 := by rw [hx.out]; exact HLB.out k
      have hob : o ≤ 19 := by rw [ho.out]; exact HV1.out k
      have hrun := run_index5 wA l k hlt x (by rw [uc_get _ _ (by rw [HLL.out]; exact hlt), hx.out])
      obtain ⟨y, hy⟩ : ∃ y, y = x + o := ⟨_, rfl⟩
      obtain ⟨q, hq⟩ : ∃ q, q = y / 2251799813685248 := ⟨_, rfl⟩
      have s1 : IntKind.u64.wrap ((x : Int) + (o : Int)) = (y : Int) := by rw [IntKind.wrap_u64]; omega
      have s2 : ((x : Int) + (o : Int)) % 18446744073709551616 = (y : Int) := by omega
      have s4 : (y : Int) / 2251799813685248 = (q : Int) := by omega
      have HNX : Hid (M.ov l 19 (k + 1) = q) := by rw [Hid, M.ov, ← hx.out, ← ho.out, hq, hy]
      clear hxb hob hy hq
      go_wp2
      go_roundw
      case rel => exact ⟨k + 1, by omega, by go_num, by rw [HNX.out], b0, b1, kk⟩
      case measure => simp [intOf]; omega
    · obtain rfl : k = 5 := by omega
      rw [← hp5.out]
      have B0 : Hid (Blk wA g 62 (uc (M.lf l c 0))) := b0
      go_wp2_with (refine wpList_load_mid rfl 60 (.tmp 20) rfl g 0 rfl (uc l) _ (b0.out.range 0 _ [] (by simp)) Tryd.underlying60 rfl (by rw [uc_length, HLL.out]; kernel_rfl) ?_)
      clear b0
      go_loopw [3, 22] (fun o i wr => ∃ k : Nat, k ≤ 5 ∧ i = .int .i64 k ∧ o = .int .u64 (M.ov l c k : Int) ∧ Hid (Blk wr g 62 (uc (M.lf l c k))) ∧ Hid (Blk wr (g + 1) 62 z5) ∧ Hid (Below w.heap.size w wr))
        (fun _ i _ => 5 - (intOf i).toNat)
      case atStart => exact ⟨0, by omega, rfl, rfl, B0, b1, kk⟩
      case round =>
        clear B0 b1 kk
        obtain ⟨wB, rfl⟩ : ∃ x, x = wr := ⟨_, rfl⟩
        obtain ⟨k, hk, rfl, rfl, b0, b1, kk⟩ := hrel
        by_cases hlt2 : k < 5
        · obtain ⟨x, hx⟩ : ∃ x, Hid (x = l.getD k 0) := ⟨_, rfl⟩
          obtain ⟨o, ho⟩ : ∃ x, Hid (x = M.ov l c k) := ⟨_, rfl⟩
          rw [← ho.out]
          have hxb : x < 2251799813947392 := by rw [hx.out]; exact HLB.out k
          have hob : o ≤ 19 := by rw [ho.out]; exact HV2.out k
          have hrun := run_index5 wB l k hlt2 x (by rw [uc_get _ _ (by rw [HLL.out]; exact hlt2), hx.out])
          obtain ⟨y, hy⟩ : ∃ y, y = x + o := ⟨_, rfl⟩
          obtain ⟨q, hq⟩ : ∃ q, q = y / 2251799813685248 := ⟨_, rfl⟩
          obtain ⟨m, hm⟩ : ∃ m, m = y % 2251799813685248 := ⟨_, rfl⟩
          have s1 : IntKind.u64.wrap ((x : Int) + (o : Int)) = (y : Int) := by rw [IntKind.wrap_u64]; omega
          have s2 : ((x : Int) + (o : Int)) % 18446744073709551616 = (y : Int) := by omega
          have s3 : bits BinOp.and .u64 (y : Int) 2251799813685247 = (m : Int) := by rw [hm]; exact n_and y 51 (by omega) (by decide)
          have s4 : (y : Int) / 2251799813685248 = (q : Int) := by omega
          have HNX : Hid (M.ov l c (k + 1) = q) := by rw [Hid, M.ov, ← hx.out, ← ho.out, hq, hy]
          have HNL : Hid (M.lf l c (k + 1) = (M.lf l c k).set k m) := by rw [Hid, M.lf, ← hx.out, ← ho.out, hm, hy]
          obtain ⟨u, hu⟩ : ∃ u, wB.cell? ⟨g, k, none⟩ = some u := ⟨_, by rw [b0.out.cell, uc_get _ _ (by rw [M.lf_length, HLL.out]; exact hlt2)]⟩
          have hf : wB.frozen? ⟨g, k, none⟩ = false := b0.out.frozen k
          clear hxb hob hy hq hm
          go_wp2
          go_roundw
          case rel =>
            refine ⟨k + 1, by omega, by go_num, by rw [HNX.out], ?_, blk_far b1.out (by omega) _, below_set kk.out (Nat.le_of_eq HG.out) _⟩
            rw [Hid, HNL.out, ← uc_set]
            exact b0.out.set_ k _
          case measure => simp [intOf]; omega
        · obtain rfl : k = 5 := by omega
          rw [HR.out] at b0
          go_wp2_with (first
            | (refine wpList_load_el rfl (.tmp 1) rfl g rfl R b0.out HRL.out ?_)
            | (refine wpList_store_el rfl rfl (.tmp 2) (.tmp 37) rfl (g + 1) rfl R z5 rfl b1.out z5_len HRL.out HR1.out ?_; intro w5 hb5 ho5))
          exact bodyPost_ret (results_cell_row rfl _ _ (g + 1) _ _ _ _ rfl hb5 Tryd.underlying62 rfl (by rw [List.size_toArray, HRL.out]; kernel_rfl)) rfl ⟨rfl, kk.out.trans (ho5.below kk.out.size (by have := HG.out; omega))⟩

end Go.Proofs.YtdojalhaklkegaaDoor

set_option maxRecDepth 100000
namespace Go.Proofs.YtdojalhaklkegaaDoor
open Go.RowKit
set_option linter.unusedVariables false

namespace M

/-- Word i of a number. -/
def wrd (n i : Nat) : Nat := n / 2 ^ (64 * i) % 18446744073709551616

theorem wrd0 (n : Nat) : lim n 0 < 2 ^ 51 ∧ lim n 0 + (lim n 1 % 8192) * 2 ^ 51 = wrd n 0 := by
  show n / 2 ^ 0 % 2251799813685248 < 2 ^ 51 ∧ n / 2 ^ 0 % 2251799813685248 + (n / 2 ^ 51 % 2251799813685248 % 8192) * 2 ^ 51 = n / 2 ^ 0 % 18446744073709551616
  omega

theorem wrd1 (n : Nat) : lim n 1 / 8192 < 2 ^ 38 ∧ lim n 1 / 8192 + (lim n 2 % 67108864) * 2 ^ 38 = wrd n 1 := by
  show n / 2 ^ 51 % 2251799813685248 / 8192 < 2 ^ 38 ∧ n / 2 ^ 51 % 2251799813685248 / 8192 + (n / 2 ^ 102 % 2251799813685248 % 67108864) * 2 ^ 38 = n / 2 ^ 64 % 18446744073709551616
  omega

theorem wrd2 (n : Nat) : lim n 2 / 67108864 < 2 ^ 25 ∧ lim n 2 / 67108864 + (lim n 3 % 549755813888) * 2 ^ 25 = wrd n 2 := by
  show n / 2 ^ 102 % 2251799813685248 / 67108864 < 2 ^ 25 ∧ n / 2 ^ 102 % 2251799813685248 / 67108864 + (n / 2 ^ 153 % 2251799813685248 % 549755813888) * 2 ^ 25 = n / 2 ^ 128 % 18446744073709551616
  omega

theorem wrd3 (n : Nat) (h : n < Q) : lim n 3 / 549755813888 < 2 ^ 12 ∧ lim n 3 / 549755813888 + (lim n 4 % 4503599627370496) * 2 ^ 12 = wrd n 3 := by
  show n / 2 ^ 153 % 2251799813685248 / 549755813888 < 2 ^ 12 ∧ n / 2 ^ 153 % 2251799813685248 / 549755813888 + (n / 2 ^ 204 % 2251799813685248 % 4503599627370496) * 2 ^ 12 = n / 2 ^ 192 % 18446744073709551616
  unfold Q at h
  omega

theorem le_wrd (n i : Nat) : le n (8 * i) ++ le (wrd n i) 8 = le n (8 * (i + 1)) := by
  rw [show 8 * (i + 1) = 8 * i + 8 by omega, le_add, wrd, show (18446744073709551616 : Nat) = 256 ^ 8 by decide, le_mod _ 8 8 (Nat.le_refl _), show (2 : Nat) ^ (64 * i) = 256 ^ (8 * i) by rw [show (256 : Nat) = 2 ^ 8 by decide, ← Nat.pow_mul]; congr 1; omega]

def wrds (n : Nat) : List Nat := [wrd n 0, wrd n 1, wrd n 2, wrd n 3]

theorem wrds_get (n k : Nat) (h : k < 4) : (wrds n).getD k 0 = wrd n k := by
  have : k = 0 ∨ k = 1 ∨ k = 2 ∨ k = 3 := by omega
  rcases this with rfl | rfl | rfl | rfl <;> rfl

end M

theorem n_or' (a b k : Nat) (h : b + a * 2 ^ k < 18446744073709551616) (hb : b < 2 ^ k) : bits BinOp.or .u64 (b : Int) ((a * 2 ^ k : Nat) : Int) = ((b + a * 2 ^ k : Nat) : Int) := by
  rw [u64_or_nat _ _ (by omega) (by omega), Nat.or_comm, Nat.mul_comm, ← Nat.two_pow_add_eq_or_of_lt hb, Nat.add_comm]

/-- One word out of two limbs. -/
theorem two_limbs (x y k c d : Nat) (v : Nat) (hc : c * d = 18446744073709551616) (hcp : c = 2 ^ k) (hx : x < 2 ^ k) (hv : x + (y % d) * 2 ^ k = v) (hvb : v < 18446744073709551616) :
    bits BinOp.or .u64 (x : Int) (((y : Int) * (c : Int)) % 18446744073709551616) = (v : Int) := by
  have e : ((y : Int) * (c : Int)) % 18446744073709551616 = ((y % d * 2 ^ k : Nat) : Int) := by
    have h1 : y * c % 18446744073709551616 = y % d * c := by
      rw [← hc, Nat.mul_comm c d, Nat.mul_mod_mul_right]
    rw [← Int.natCast_mul, show (18446744073709551616 : Int) = ((18446744073709551616 : Nat) : Int) from rfl, ← Int.natCast_emod, h1, hcp]
  rw [e, n_or' _ _ _ (by omega) hx, hv]

theorem run_index4 (w : World) (l : List Nat) (k : Nat) (hk : k < 4) (x : Nat) (hx : (uc l)[k]? = some (.int .u64 (x : Int))) :
    (Instr.index 110 (.agg (uc l).toArray) (.int .i64 (k : Int))).run Tryd.prog w = .ok (.int .u64 (x : Int)) w := by
  have hn' : (k : Int) < 4 := by omega
  simp [Instr.index, run_underlying Tryd.underlying110, asIntOf, go_sem, Tryd.sizeOf59]
  rw [if_pos hk, hx]
  rfl

theorem run_field5 (w : World) (R : List Value) (h : R.length = 5) : (Instr.field 62 (.agg R.toArray) 0).run Tryd.prog w = .ok (.agg R.toArray) w := by
  have e : R.toArray.extract 0 5 = R.toArray := by rw [← h]; simp
  simp [Instr.field, run_underlying Tryd.underlying62, go_sem, part, isAgg, asAgg, run_underlying Tryd.underlying60]
  simpa using e

/-- 'make([]byte, n, m)' as a run equation. -/
theorem make_run_cap (n m : Nat) (hnm : n ≤ m) (hm : m ≤ 140737488355328) : ∃ C : Array Value, ∀ w : World, (Instr.makeSlice 24 (.int .i64 (n : Int)) (.int .i64 (m : Int))).run Tryd.prog w = .ok (.slice (some ⟨w.heap.size, 0, none⟩) n m) (w.alloc (.cells C 5)) ∧
    Own (w.alloc (.cells C 5)) w.heap.size (.slice (some ⟨w.heap.size, 0, none⟩) n m) (List.replicate n 0) := by
  obtain ⟨i0, h0, hz0, hz1, hz2⟩ := info_parts Tryd.info5
  have hb : (i0.bytes : Int) * (m : Int) ≤ 281474976710656 := by rw [hz2]; omega
  have e : (madeCells (Value.int IntKind.u8 0).cells (m * i0.size)).toList = List.replicate m (.int .u8 0) := by
    rw [hz1, Nat.mul_one]
    exact toList_madeCells_one _ _
  have hsz : (madeCells (Value.int IntKind.u8 0).cells (m * i0.size)).size = m := by rw [← Array.length_toList, e, List.length_replicate]
  refine ⟨madeCells (Value.int IntKind.u8 0).cells (m * i0.size), fun w => ⟨?_, ?_⟩⟩
  · have hrun := run_make (P := Tryd.prog) w 24 5 i0 (.int .u8 0) Tryd.underlying24 h0 hz0 .i64 .i64 n m (by omega) (by omega) hb (by omega)
    simp only [Int.toNat_natCast] at hrun
    exact hrun
  · refine ⟨by rw [byteCells_length, Nat.mul_one], .inr ⟨w.heap.size, m, _, by rw [List.length_replicate], Nat.le_refl _, heap_alloc_new w _, by rw [List.length_replicate]; exact hnm, by unfold maxLen; omega, by rw [hsz, Nat.mul_one], ?_⟩⟩
    rw [e, List.length_replicate, Nat.mul_one, List.take_replicate, Nat.min_eq_left hnm]
    simp [Lib.byteCells]

theorem wrd_lt (n i : Nat) : M.wrd n i < 18446744073709551616 := Nat.mod_lt _ (by decide)

set_option maxHeartbeats 4000000 in
theorem fbytes_any (A : List Value) (n : Nat) (w : World) (hA : Fl A n) :
    Calls Tryd.prog 33 #[.agg A.toArray] w (Makes w (M.le n 32)) := by
  have HQ : n < M.Q := hA.lt
  have HA := Lib.hid hA
  obtain ⟨R, hR⟩ : ∃ R, R = uc (M.lims n 5) := ⟨_, rfl⟩
  have CL := Lib.hid (fun w => fleft_any A n w hA)
  rw [← hR] at CL
  have HRL : Hid (R.length = 5) := by rw [Hid, hR, uc_length, M.lims_length]
  have HR1 : Hid (∀ u ∈ R, u.oneCell' = true) := by rw [hR]; exact uc_one _
  have HR : Hid (R = uc [M.lim n 0, M.lim n 1, M.lim n 2, M.lim n 3, M.lim n 4]) := hR
  obtain ⟨x0, hx0⟩ : ∃ x, x = M.lim n 0 := ⟨_, rfl⟩
  obtain ⟨x1, hx1⟩ : ∃ x, x = M.lim n 1 := ⟨_, rfl⟩
  obtain ⟨x2, hx2⟩ : ∃ x, x = M.lim n 2 := ⟨_, rfl⟩
  obtain ⟨x3, hx3⟩ : ∃ x, x = M.lim n 3 := ⟨_, rfl⟩
  obtain ⟨x4, hx4⟩ : ∃ x, x = M.lim n 4 := ⟨_, rfl⟩
  rw [← hx0, ← hx1, ← hx2, ← hx3, ← hx4] at HR
  obtain ⟨y0, hy0⟩ : ∃ x, x = M.wrd n 0 := ⟨_, rfl⟩
  obtain ⟨y1, hy1⟩ : ∃ x, x = M.wrd n 1 := ⟨_, rfl⟩
  obtain ⟨y2, hy2⟩ : ∃ x, x = M.wrd n 2 := ⟨_, rfl⟩
  obtain ⟨y3, hy3⟩ : ∃ x, x = M.wrd n 3 := ⟨_, rfl⟩
  have HY : Hid (#[Value.int .u64 (y0 : Int), .int .u64 (y1 : Int), .int .u64 (y2 : Int), .int .u64 (y3 : Int)] = (uc (M.wrds n)).toArray) := by rw [hy0, hy1, hy2, hy3]; rfl
  obtain ⟨p1, hp1⟩ : ∃ x, x = x1 / 8192 := ⟨_, rfl⟩
  obtain ⟨p2, hp2⟩ : ∃ x, x = x2 / 67108864 := ⟨_, rfl⟩
  obtain ⟨p3, hp3⟩ : ∃ x, x = x3 / 549755813888 := ⟨_, rfl⟩
  obtain ⟨a0, e0⟩ := M.wrd0 n
  obtain ⟨a1, e1⟩ := M.wrd1 n
  obtain ⟨a2, e2⟩ := M.wrd2 n
  obtain ⟨a3, e3⟩ := M.wrd3 n HQ
  rw [← hx0, ← hx1, ← hy0] at e0
  rw [← hx1, ← hx2, ← hy1, ← hp1] at e1
  rw [← hx2, ← hx3, ← hy2, ← hp2] at e2
  rw [← hx3, ← hx4, ← hy3, ← hp3] at e3
  rw [← hx0] at a0
  rw [← hx1, ← hp1] at a1
  rw [← hx2, ← hp2] at a2
  rw [← hx3, ← hp3] at a3
  have o0 : bits BinOp.or .u64 (x0 : Int) (IntKind.u64.wrap ((x1 : Int) * 2251799813685248)) = (y0 : Int) := by rw [IntKind.wrap_u64]; exact two_limbs x0 x1 51 2251799813685248 8192 y0 (by decide) (by decide) a0 e0 (by rw [hy0]; exact wrd_lt _ _)
  have o1 : bits BinOp.or .u64 (p1 : Int) (IntKind.u64.wrap ((x2 : Int) * 274877906944)) = (y1 : Int) := by rw [IntKind.wrap_u64]; exact two_limbs p1 x2 38 274877906944 67108864 y1 (by decide) (by decide) a1 e1 (by rw [hy1]; exact wrd_lt _ _)
  have o2 : bits BinOp.or .u64 (p2 : Int) (IntKind.u64.wrap ((x3 : Int) * 33554432)) = (y2 : Int) := by rw [IntKind.wrap_u64]; exact two_limbs p2 x3 25 33554432 549755813888 y2 (by decide) (by decide) a2 e2 (by rw [hy2]; exact wrd_lt _ _)
  have o3 : bits BinOp.or .u64 (p3 : Int) (IntKind.u64.wrap ((x4 : Int) * 4096)) = (y3 : Int) := by rw [IntKind.wrap_u64]; exact two_limbs p3 x4 12 4096 4503599627370496 y3 (by decide) (by decide) a3 e3 (by rw [hy3]; exact wrd_lt _ _)
  have d1 : (x1 : Int) / 8192 = (p1 : Int) := by omega
  have d2 : (x2 : Int) / 67108864 = (p2 : Int) := by omega
  have d3 : (x3 : Int) / 549755813888 = (p3 : Int) := by omega
  clear hA hR hx0 hx1 hx2 hx3 hx4 hy0 hy1 hy2 hy3 hp1 hp2 hp3 a0 a1 a2 a3 e0 e1 e2 e3 HQ
  obtain ⟨g, hg⟩ : ∃ g, g = w.heap.size := ⟨_, rfl⟩
  obtain ⟨W, hW⟩ : ∃ W, Hid (W = w.alloc (.cells A.toArray 62)) := ⟨_, rfl⟩
  have A0 : Hid (Blk W g 62 A) := by rw [hW.out, hg]; exact Blk.newAt _ _ _ _ _ rfl rfl
  have K0 : Hid (Below w.heap.size w W) := by rw [hW.out]; exact (Below.refl _ _).alloc (Nat.le_refl _) _
  have HG : Hid (w.heap.size = g) := hg.symm
  go_enter Tryd.func33, Tryd.ntmps33
  go_upto_region 1 with fail
  rw [← hW.out, ← hg]
  clear hW hg
  go_wp2_with (refine wpList_load_el rfl (.tmp 1) rfl g rfl A A0.out HA.out.len ?_)
  refine (CL.out _).mono ?_
  rintro e w1 ⟨rfl, k1⟩
  have K1 : Hid (Below w.heap.size w w1) := K0.out.trans (k1.mono K0.out.size)
  obtain ⟨g1, hg1⟩ : ∃ v, v = w1.heap.size := ⟨_, rfl⟩
  have HG1 : Hid (w.heap.size ≤ g1) := by rw [hg1]; exact K1.out.size
  have N1 : Blk (w1.alloc (.cells #[.int .u64 0, .int .u64 0, .int .u64 0, .int .u64 0, .int .u64 0] 60)) g1 60 z5 := Blk.newAt _ _ _ _ _ hg1 rfl
  have K1' : Below w.heap.size w (w1.alloc (.cells #[.int .u64 0, .int .u64 0, .int .u64 0, .int .u64 0, .int .u64 0] 60)) := K1.out.alloc K1.out.size _
  have hfl := fun w => run_field5 w R HRL.out
  clear A0 K0 k1 CL
  go_upto_region 2 with (rw [← hg1]; refine wpList_store_blk rfl 60 (.tmp 3) (.tmp 9) rfl g1 R.toArray rfl rfl 60 z5 N1 (by rw [List.size_toArray, HRL.out]; kernel_rfl) (by rw [List.size_toArray, HRL.out, z5_len]) HR1.out ?_; intro w2 hb2 ho2)
  have B2 : Hid (Blk w2 g1 60 R) := hb2
  have K2 : Hid (Below w.heap.size w w2) := K1'.trans (ho2.below K1'.size HG1.out)
  try rw [← hg1]
  clear hb2 ho2 K1 K1' N1 hg1 hfl
  obtain ⟨C, hC⟩ := make_run_cap 0 32 (by decide) (by decide)
  have hmk : ∀ w : World, (Instr.makeSlice 24 (.int .i64 0) (.int .i64 32)).run Tryd.prog w = .ok (.slice (some ⟨w.heap.size, 0, none⟩) 0 32) (w.alloc (.cells C 5)) := fun w => (hC w).1
  have O3 : Own (w2.alloc (.cells C 5)) w2.heap.size (.slice (some ⟨w2.heap.size, 0, none⟩) 0 32) [] := (hC w2).2
  have B3 : Hid (Blk (w2.alloc (.cells C 5)) g1 60 R) := B2.out.alloc _
  have K3 : Hid (Below w.heap.size w (w2.alloc (.cells C 5))) := K2.out.alloc K2.out.size _
  obtain ⟨W3, hW3⟩ : ∃ W, Hid (W = w2.alloc (.cells C 5)) := ⟨_, rfl⟩
  rw [← hW3.out] at O3 B3 K3
  obtain ⟨g3, hg3⟩ : ∃ v, v = w2.heap.size := ⟨_, rfl⟩
  have O4 : Hid (Own W3 w.heap.size (.slice (some ⟨g3, 0, none⟩) 0 32) (M.le n (8 * 0))) := by rw [hg3]; exact O3.mono K2.out.size
  have b3 : Blk W3 g1 60 R := B3.out
  have c0 : W3.cell? ⟨g1, 0, none⟩ = some (.int .u64 (x0 : Int)) := by rw [b3.cell, HR.out]; rfl
  have c1 : W3.cell? ⟨g1, 1, none⟩ = some (.int .u64 (x1 : Int)) := by rw [b3.cell, HR.out]; rfl
  have c2 : W3.cell? ⟨g1, 2, none⟩ = some (.int .u64 (x2 : Int)) := by rw [b3.cell, HR.out]; rfl
  have c3 : W3.cell? ⟨g1, 3, none⟩ = some (.int .u64 (x3 : Int)) := by rw [b3.cell, HR.out]; rfl
  have c4 : W3.cell? ⟨g1, 4, none⟩ = some (.int .u64 (x4 : Int)) := by rw [b3.cell, HR.out]; rfl
  clear O3 B2 K2 hC b3
  go_upto_region 3 with fail
  rw [← hW3.out, ← hg3]
  clear hmk hW3 hg3
  go_upto_region 4 with fail
  rw [HY.out]
  clear HY o0 o1 o2 o3 d1 d2 d3 c0 c1 c2 c3 c4 HR HRL HR1 B3
  go_loopw [4, 39] (fun s i wr => ∃ k : Nat, k ≤ 4 ∧ i = .int .i64 k ∧ Hid (Own wr w.heap.size s (M.le n (8 * k))) ∧ Hid (Below w.heap.size w wr))
    (fun _ i _ => 4 - (intOf i).toNat)
  case atStart => exact ⟨0, by omega, rfl, O4, K3⟩
  case round =>
    clear O4 K3
    obtain ⟨wA, rfl⟩ : ∃ x, x = wr := ⟨_, rfl⟩
    obtain ⟨k, hk, rfl, oo, kk⟩ := hrel
    obtain ⟨sv, rfl⟩ : ∃ z, z = u4 := ⟨_, rfl⟩
    by_cases hlt : k < 4
    · obtain ⟨x, hx⟩ : ∃ x, Hid (x = M.wrd n k) := ⟨_, rfl⟩
      have hrun := run_index4 wA (M.wrds n) k hlt x (by rw [uc_get _ _ (by exact hlt), M.wrds_get n k hlt, hx.out])
      have HNX : Hid (M.le n (8 * k) ++ M.le x 8 = M.le n (8 * (k + 1))) := by rw [hx.out]; exact M.le_wrd n k
      clear hx
      go_wp2_with fail
      refine (put64_any x _).mono ?_
      rintro e w4 ⟨r4, rfl, o4, k4⟩
      have i4 : IsB w4 r4 (M.le x 8) := o4.isB
      have n4 := o4.nil0
      have O5 : Own w4 w.heap.size sv (M.le n (8 * k)) := oo.out.below k4
      have K4 : Below w.heap.size w w4 := kk.out.trans (k4.mono kk.out.size)
      go_wp2_with (refine wpList_app _ rfl (.tmp 42) (.tmp 44) rfl w.heap.size sv (M.le n (8 * k)) rfl O5 r4 (M.le x 8) rfl i4 n4 (by rw [M.le_length, M.le_length]; omega) K4.size ?_; intro v6 w6 o6 k6 _)
      have O6 : Hid (Own w6 w.heap.size v6 (M.le n (8 * (k + 1)))) := by rw [← HNX.out]; exact o6
      have K6 : Hid (Below w.heap.size w w6) := K4.trans k6
      clear o6 k6 O5 i4 n4 o4 k4 K4 HNX
      go_roundw
      case rel => exact ⟨k + 1, by omega, by go_num, O6, K6⟩
      case measure => simp [intOf]; omega
    · obtain rfl : k = 4 := by omega
      go_wp2
      go_ret
      exact ⟨_, rfl, oo.out, kk.out⟩

end Go.Proofs.YtdojalhaklkegaaDoor

set_option maxRecDepth 100000
namespace Go.Proofs.YtdojalhaklkegaaDoor
open Go.RowKit
set_option linter.unusedVariables false

namespace M

/-- The first k limbs with what is unlike turned under the mask m, the others as they were. -/
def swp (l r : List Nat) (m : Nat) : Nat → List Nat
  | 0 => l
  | k + 1 => (swp l r m k).set k (l.getD k 0 ^^^ ((l.getD k 0 ^^^ r.getD k 0) &&& m))

def swq (l r : List Nat) (m : Nat) : Nat → List Nat
  | 0 => r
  | k + 1 => (swq l r m k).set k (r.getD k 0 ^^^ ((l.getD k 0 ^^^ r.getD k 0) &&& m))

theorem swp_length (l r : List Nat) (m k : Nat) : (swp l r m k).length = l.length := by
  induction k with
  | zero => rfl
  | succ k ih => rw [swp, List.length_set, ih]

theorem swq_length (l r : List Nat) (m k : Nat) : (swq l r m k).length = r.length := by
  induction k with
  | zero => rfl
  | succ k ih => rw [swq, List.length_set, ih]

theorem swp_get (l r : List Nat) (m k i : Nat) (h : k ≤ i) : (swp l r m k).getD i 0 = l.getD i 0 := by
  induction k with
  | zero => rfl
  | succ k ih => rw [swp, List.getD_eq_getElem?_getD, List.getElem?_set_ne (by omega), ← List.getD_eq_getElem?_getD, ih (by omega)]

theorem swq_get (l r : List Nat) (m k i : Nat) (h : k ≤ i) : (swq l r m k).getD i 0 = r.getD i 0 := by
  induction k with
  | zero => rfl
  | succ k ih => rw [swq, List.getD_eq_getElem?_getD, List.getElem?_set_ne (by omega), ← List.getD_eq_getElem?_getD, ih (by omega)]

/-- The mask: all bits, or none. -/
def msk (b : Nat) : Nat := if b % 2 = 1 then 18446744073709551615 else 0

theorem xor_lt64 {x y : Nat} (hx : x < 18446744073709551616) (hy : y < 18446744073709551616) : x ^^^ y < 18446744073709551616 := Nat.xor_lt_two_pow (n := 64) hx hy

theorem and_ones {x : Nat} (hx : x < 18446744073709551616) : x &&& 18446744073709551615 = x := by
  rw [show 18446744073709551615 = 2 ^ 64 - 1 from rfl, Nat.and_two_pow_sub_one_eq_mod, Nat.mod_eq_of_lt hx]

theorem turn_ (x y b : Nat) (hx : x < 18446744073709551616) (hy : y < 18446744073709551616) :
    x ^^^ ((x ^^^ y) &&& msk b) = (if b % 2 = 1 then y else x) ∧ y ^^^ ((x ^^^ y) &&& msk b) = (if b % 2 = 1 then x else y) := by
  by_cases h : b % 2 = 1
  · rw [msk, if_pos h, if_pos h, if_pos h, and_ones (xor_lt64 hx hy), ← Nat.xor_assoc, Nat.xor_self, Nat.zero_xor]
    refine ⟨rfl, ?_⟩
    rw [Nat.xor_comm x y, ← Nat.xor_assoc, Nat.xor_self, Nat.zero_xor]
  · rw [msk, if_neg h, if_neg h, if_neg h, Nat.and_zero, Nat.xor_zero, Nat.xor_zero]
    exact ⟨rfl, rfl⟩

theorem swp_all (a b c d e a' b' c' d' e' m : Nat) : swp [a, b, c, d, e] [a', b', c', d', e'] m 5 = [a ^^^ ((a ^^^ a') &&& m), b ^^^ ((b ^^^ b') &&& m), c ^^^ ((c ^^^ c') &&& m), d ^^^ ((d ^^^ d') &&& m), e ^^^ ((e ^^^ e') &&& m)] := rfl

theorem swq_all (a b c d e a' b' c' d' e' m : Nat) : swq [a, b, c, d, e] [a', b', c', d', e'] m 5 = [a' ^^^ ((a ^^^ a') &&& m), b' ^^^ ((b ^^^ b') &&& m), c' ^^^ ((c ^^^ c') &&& m), d' ^^^ ((d ^^^ d') &&& m), e' ^^^ ((e ^^^ e') &&& m)] := rfl

end M

/-- Two rows handed back. -/
theorem results_cell_row2 {P : Program} {fn : Func} {p q : Tmp} {ty : TypeId} (h : fn.results = #[.cell p ty, .cell q ty]) (tmps : Array Value) (w : World) (g k : Nat) (t u : TypeId) (cs ds : Array Value) (fr fs : Nat × Nat) (d : TypeDesc)
    (hp : tmps.getD p undef = .pointer (some ⟨g, 0, none⟩)) (hq : tmps.getD q undef = .pointer (some ⟨k, 0, none⟩)) (hg : w.heap[g]? = some (.cells cs t fr)) (hk : w.heap[k]? = some (.cells ds u fs))
    (hu : P.underlying ty = some d) (hd : (match d with | .struct _ | .array _ _ => true | _ => false) = true) (hi : (P.info? ty).map (·.size) = some cs.size) (hj : (P.info? ty).map (·.size) = some ds.size) :
    (results fn tmps).run P w = .ok (.tuple #[.agg cs, .agg ds]) w := by
  have hp' : tmps[p]?.getD undef = .pointer (some ⟨g, 0, none⟩) := by simpa using hp
  have hq' : tmps[q]?.getD undef = .pointer (some ⟨k, 0, none⟩) := by simpa using hq
  simp [results, h, hp', hq', asAddr, run_loadVar_row w g t ty cs fr d hg hu hd hi, run_loadVar_row w k u ty ds fs d hk hu hd hj]

theorem msk_wrap (b : Nat) : IntKind.u64.wrap (-((b % 2 : Nat) : Int)) = (M.msk b : Int) := by
  rw [IntKind.wrap_u64, M.msk]
  have : b % 2 = 0 ∨ b % 2 = 1 := by omega
  rcases this with h | h
  · rw [h, if_neg (by omega)]; rfl
  · rw [h, if_pos rfl]; rfl

theorem fl_swap {a0 a1 a2 a3 a4 b0 b1 b2 b3 b4 x y b : Nat} (ha : Fl (uc [a0, a1, a2, a3, a4]) x) (hb : Fl (uc [b0, b1, b2, b3, b4]) y) (la0 : a0 < 18446744073709551616) (la1 : a1 < 18446744073709551616) (la2 : a2 < 18446744073709551616) (la3 : a3 < 18446744073709551616) (la4 : a4 < 18446744073709551616) (lb0 : b0 < 18446744073709551616) (lb1 : b1 < 18446744073709551616) (lb2 : b2 < 18446744073709551616) (lb3 : b3 < 18446744073709551616) (lb4 : b4 < 18446744073709551616) :
    Fl (uc (M.swp [a0, a1, a2, a3, a4] [b0, b1, b2, b3, b4] (M.msk b) 5)) (if b % 2 = 1 then y else x) ∧ Fl (uc (M.swq [a0, a1, a2, a3, a4] [b0, b1, b2, b3, b4] (M.msk b) 5)) (if b % 2 = 1 then x else y) := by
  rw [M.swp_all, M.swq_all, (M.turn_ a0 b0 b la0 lb0).1, (M.turn_ a1 b1 b la1 lb1).1, (M.turn_ a2 b2 b la2 lb2).1, (M.turn_ a3 b3 b la3 lb3).1, (M.turn_ a4 b4 b la4 lb4).1, (M.turn_ a0 b0 b la0 lb0).2, (M.turn_ a1 b1 b la1 lb1).2, (M.turn_ a2 b2 b la2 lb2).2, (M.turn_ a3 b3 b la3 lb3).2, (M.turn_ a4 b4 b la4 lb4).2]
  by_cases h : b % 2 = 1
  · simp only [if_pos h]
    exact ⟨hb, ha⟩
  · simp only [if_neg h]
    exact ⟨ha, hb⟩

theorem msk_lt (b : Nat) : M.msk b < 18446744073709551616 := by
  rw [M.msk]
  split <;> decide

set_option maxHeartbeats 4000000 in
theorem fswap_any (b : Nat) (A B : List Value) (x y : Nat) (w : World) (hb64 : b < 18446744073709551616) (hA : Fl A x) (hB : Fl B y) :
    Calls Tryd.prog 84 #[.int .u64 (b : Int), .agg A.toArray, .agg B.toArray] w (GivesEE Fl w (if b % 2 = 1 then y else x) (if b % 2 = 1 then x else y)) := by
  obtain ⟨a0, a1, a2, a3, a4, ha, ⟨la0, la1, la2, la3, la4⟩, hx⟩ := hA
  obtain ⟨b0, b1, b2, b3, b4, hb, ⟨lb0, lb1, lb2, lb3, lb4⟩, hyy⟩ := hB
  have hsw := fl_swap (b := b) ⟨a0, a1, a2, a3, a4, rfl, ⟨la0, la1, la2, la3, la4⟩, hx⟩ ⟨b0, b1, b2, b3, b4, rfl, ⟨lb0, lb1, lb2, lb3, lb4⟩, hyy⟩ (by omega) (by omega) (by omega) (by omega) (by omega) (by omega) (by omega) (by omega) (by omega) (by omega)
  obtain ⟨l, hl⟩ : ∃ l, l = [a0, a1, a2, a3, a4] := ⟨_, rfl⟩
  obtain ⟨r, hr⟩ : ∃ r, r = [b0, b1, b2, b3, b4] := ⟨_, rfl⟩
  rw [← hl, ← hr] at hsw
  rw [← hl] at ha
  rw [← hr] at hb
  obtain ⟨X, hX⟩ : ∃ X, X = (if b % 2 = 1 then y else x) := ⟨_, rfl⟩
  obtain ⟨Y, hY⟩ : ∃ Y, Y = (if b % 2 = 1 then x else y) := ⟨_, rfl⟩
  rw [← hX, ← hY] at hsw ⊢
  obtain ⟨m, hm⟩ : ∃ m, m = M.msk b := ⟨_, rfl⟩
  rw [← hm] at hsw
  have HLL : Hid (l.length = 5) := by rw [hl]; rfl
  have HRL : Hid (r.length = 5) := by rw [hr]; rfl
  have HLB : Hid (∀ i, l.getD i 0 < 2251799813947392) := by rw [hl]; exact getD_lt _ _ _ _ _ _ la0 la1 la2 la3 la4
  have HRB : Hid (∀ i, r.getD i 0 < 2251799813947392) := by rw [hr]; exact getD_lt _ _ _ _ _ _ lb0 lb1 lb2 lb3 lb4
  have HMB : Hid (m < 18446744073709551616) := by rw [hm]; exact msk_lt b
  have HSW := Lib.hid hsw
  obtain ⟨q, hq⟩ : ∃ q, q = b % 2 := ⟨_, rfl⟩
  have t1 : bits BinOp.and .u64 (b : Int) 1 = (q : Int) := by rw [hq]; exact n_and b 1 hb64 (by decide)
  have t2 : IntKind.u64.wrap (-(q : Int)) = (m : Int) := by rw [hq, hm]; exact msk_wrap b
  have t2' : (-(q : Int)) % 18446744073709551616 = (m : Int) := by rw [← IntKind.wrap_u64]; exact t2
  obtain ⟨g, hg⟩ : ∃ g, g = w.heap.size := ⟨_, rfl⟩
  obtain ⟨W, hW⟩ : ∃ W, Hid (W = (((w.alloc (.cells (uc l).toArray 62)).alloc (.cells (uc r).toArray 62)).alloc (.cells z5.toArray 62)).alloc (.cells z5.toArray 62)) := ⟨_, rfl⟩
  have A0 : Hid (Blk W g 62 (uc (M.swp l r m 0))) := by rw [hW.out, hg]; exact (((Blk.newAt _ _ _ _ _ rfl rfl).alloc _).alloc _).alloc _
  have A1 : Hid (Blk W (g + 1) 62 (uc (M.swq l r m 0))) := by rw [hW.out, hg]; exact ((Blk.newAt _ _ _ _ _ (by simp) rfl).alloc _).alloc _
  have A2 : Hid (Blk W (g + 1 + 1) 62 z5) := by rw [hW.out, hg]; exact (Blk.newAt _ _ _ _ _ (by simp) rfl).alloc _
  have A3 : Hid (Blk W (g + 1 + 1 + 1) 62 z5) := by rw [hW.out, hg]; exact Blk.newAt _ _ _ _ _ (by simp) rfl
  have K0 : Hid (Below w.heap.size w W) := by rw [hW.out]; exact ((((Below.refl _ _).alloc (Nat.le_refl _) _).alloc (by simp) _).alloc (by simp; omega) _).alloc (by simp; omega) _
  have HG : Hid (w.heap.size = g) := hg.symm
  subst ha hb
  clear hl hr hx hyy hsw hX hY hm hq hb64 la0 la1 la2 la3 la4 lb0 lb1 lb2 lb3 lb4
  go_enter Tryd.func84, Tryd.ntmps84
  go_upto_region 1 with fail
  rw [← z5_arr, ← hW.out, ← hg]
  clear hW hg
  go_wp2
  go_loopw [14] (fun i wr => ∃ k : Nat, k ≤ 5 ∧ i = .int .i64 k ∧ Hid (Blk wr g 62 (uc (M.swp l r m k))) ∧ Hid (Blk wr (g + 1) 62 (uc (M.swq l r m k))) ∧ Hid (Blk wr (g + 1 + 1) 62 z5) ∧ Hid (Blk wr (g + 1 + 1 + 1) 62 z5) ∧ Hid (Below w.heap.size w wr))
    (fun i _ => 5 - (intOf i).toNat)
  case atStart => exact ⟨0, by omega, rfl, A0, A1, A2, A3, K0⟩
  case round =>
    clear A0 A1 A2 A3 K0
    obtain ⟨wA, rfl⟩ : ∃ x, x = wr := ⟨_, rfl⟩
    obtain ⟨k, hk, rfl, v0, v1, v2, v3, kk⟩ := hrel
    by_cases hlt : k < 5
    · obtain ⟨x, hx⟩ : ∃ x, Hid (x = l.getD k 0) := ⟨_, rfl⟩
      obtain ⟨y, hy⟩ : ∃ x, Hid (x = r.getD k 0) := ⟨_, rfl⟩
      have hxb : x < 18446744073709551616 := by have := HLB.out k; rw [← hx.out] at this; omega
      have hyb : y < 18446744073709551616 := by have := HRB.out k; rw [← hy.out] at this; omega
      obtain ⟨u, hu⟩ : ∃ u, u = x ^^^ y := ⟨_, rfl⟩
      obtain ⟨v, hv⟩ : ∃ v, v = u &&& m := ⟨_, rfl⟩
      obtain ⟨p, hp⟩ : ∃ p, p = x ^^^ v := ⟨_, rfl⟩
      obtain ⟨q', hq'⟩ : ∃ q, q = y ^^^ v := ⟨_, rfl⟩
      have hub : u < 18446744073709551616 := by rw [hu]; exact M.xor_lt64 hxb hyb
      have hvb : v < 18446744073709551616 := by rw [hv]; exact Nat.lt_of_le_of_lt Nat.and_le_left hub
      have s1 : bits BinOp.xor .u64 (x : Int) (y : Int) = (u : Int) := by rw [hu]; exact u64_xor_nat x y hxb hyb
      have s2 : bits BinOp.and .u64 (u : Int) (m : Int) = (v : Int) := by rw [hv]; exact u64_and_nat u m hub HMB.out
      have s3 : bits BinOp.xor .u64 (x : Int) (v : Int) = (p : Int) := by rw [hp]; exact u64_xor_nat x v hxb hvb
      have s4 : bits BinOp.xor .u64 (y : Int) (v : Int) = (q' : Int) := by rw [hq']; exact u64_xor_nat y v hyb hvb
      have HP : Hid (M.swp l r m (k + 1) = (M.swp l r m k).set k p) := by rw [Hid, M.swp, ← hx.out, ← hy.out, hp, hv, hu]
      have HQ : Hid (M.swq l r m (k + 1) = (M.swq l r m k).set k q') := by rw [Hid, M.swq, ← hx.out, ← hy.out, hq', hv, hu]
      have c0 : wA.cell? ⟨g, k, none⟩ = some (.int .u64 (x : Int)) := by rw [v0.out.cell, uc_get _ _ (by rw [M.swp_length, HLL.out]; exact hlt), M.swp_get _ _ _ _ _ (Nat.le_refl _), hx.out]
      have c1 : wA.cell? ⟨g + 1, k, none⟩ = some (.int .u64 (y : Int)) := by rw [v1.out.cell, uc_get _ _ (by rw [M.swq_length, HRL.out]; exact hlt), M.swq_get _ _ _ _ _ (Nat.le_refl _), hy.out]
      have f0 : wA.frozen? ⟨g, k, none⟩ = false := v0.out.frozen k
      have f1 : wA.frozen? ⟨g + 1, k, none⟩ = false := v1.out.frozen k
      clear hxb hyb hub hvb hu hv hp hq' hx hy
      go_upto_region 5 with fail
      go_quiet (fail)
      obtain ⟨wB, hwB⟩ : ∃ x, Hid (x = wA.drewN nq) := ⟨_, rfl⟩
      rw [← hwB.out]
      have d0 : wB.cell? ⟨g, k, none⟩ = some (.int .u64 (x : Int)) := by rw [hwB.out]; exact c0
      have d1 : wB.cell? ⟨g + 1, k, none⟩ = some (.int .u64 (y : Int)) := by rw [hwB.out]; exact c1
      have e0 : wB.frozen? ⟨g, k, none⟩ = false := by rw [hwB.out]; exact f0
      have e1 : wB.frozen? ⟨g + 1, k, none⟩ = false := by rw [hwB.out]; exact f1
      have V0 : Hid (Blk wB g 62 (uc (M.swp l r m k))) := by rw [hwB.out]; exact v0.out.drewN _
      have V1 : Hid (Blk wB (g + 1) 62 (uc (M.swq l r m k))) := by rw [hwB.out]; exact v1.out.drewN _
      have V2 : Hid (Blk wB (g + 1 + 1) 62 z5) := by rw [hwB.out]; exact v2.out.drewN _
      have V3 : Hid (Blk wB (g + 1 + 1 + 1) 62 z5) := by rw [hwB.out]; exact v3.out.drewN _
      have KB : Hid (Below w.heap.size w wB) := by rw [hwB.out]; exact drewN_below kk.out _
      clear c0 c1 f0 f1 v0 v1 v2 v3 kk hwB
      go_wp2
      go_roundw
      case rel =>
        have := HG.out
        refine ⟨k + 1, by omega, by go_num, ?_, ?_, blk_far (blk_far V2.out (by omega) _) (by omega) _, blk_far (blk_far V3.out (by omega) _) (by omega) _, below_set (below_set KB.out (by omega) _) (by omega) _⟩
        · rw [Hid, HP.out, ← uc_set]
          exact blk_far (V0.out.set_ k _) (by omega) _
        · rw [Hid, HQ.out, ← uc_set]
          exact (blk_far V1.out (by omega) _).set_ k _
      case measure => simp [intOf]; omega
    · obtain rfl : k = 5 := by omega
      obtain ⟨P, hP⟩ : ∃ P, P = uc (M.swp l r m 5) := ⟨_, rfl⟩
      obtain ⟨R, hR⟩ : ∃ P, P = uc (M.swq l r m 5) := ⟨_, rfl⟩
      rw [← hP] at v0 HSW
      rw [← hR] at v1 HSW
      clear hP hR
      go_upto_region 9 with fail
      refine wp_region_any (by kernel_rfl) ?_
      change wpAny _ _ _ _ _ _ _ (World.drew _)
      refine wpAny_of_held (S := fun w' => w'.rangeAt g 0 P ∧ w'.rangeAt (g + 1) 0 R) _ _ _ _ ?_
      have S0 : wA.drew.rangeAt g 0 P ∧ wA.drew.rangeAt (g + 1) 0 R := ⟨v0.out.drew.range 0 _ [] (by simp), v1.out.drew.range 0 _ [] (by simp)⟩
      refine wpAnyH_take_at (i := 0) (v := .agg P.toArray) rfl rfl (by kernel_rfl) (by kernel_rfl) (by kernel_rfl) (fun _ _ _ h => h) (yieldsIf_load_mid (by rfl) 62 (.tmp 4) rfl g 0 rfl P _ (fun w h => h.1) Tryd.underlying62 rfl (by rw [HSW.out.1.len]; kernel_rfl)) S0 ?_
      simp only [List.setIfInBounds_toArray, List.set_cons_zero, List.set_cons_succ]
      refine wpAnyH_take_at (i := 1) (v := .agg R.toArray) rfl rfl (by kernel_rfl) (by kernel_rfl) (by kernel_rfl) (fun _ _ _ h => h) (yieldsIf_load_mid (by rfl) 62 (.tmp 5) rfl (g + 1) 0 rfl R _ (fun w h => h.2) Tryd.underlying62 rfl (by rw [HSW.out.2.len]; kernel_rfl)) S0 ?_
      simp only [List.setIfInBounds_toArray, List.set_cons_zero, List.set_cons_succ]
      have D0 : Hid (Blk wA.drew g 62 P) := v0.out.drew
      have D1 : Hid (Blk wA.drew (g + 1) 62 R) := v1.out.drew
      have D2 : Hid (Blk wA.drew (g + 1 + 1) 62 z5) := v2.out.drew
      have D3 : Hid (Blk wA.drew (g + 1 + 1 + 1) 62 z5) := v3.out.drew
      have DK : Hid (Below w.heap.size w wA.drew) := drewN_below kk.out 1
      clear v0 v1 v2 v3 kk S0
      have hgw := HG.out
      refine wpAnyH_ready (rs := [2]) (by kernel_rfl) (by simp) ?_
      refine AllReadyH.cons rfl (fun KC hK => ?_) AllReadyH.nil
      refine step_store_blk rfl 62 (.tmp 6) (.tmp 45) rfl (g + 1 + 1) P.toArray rfl rfl 62 z5 D2.out (by rw [List.size_toArray, HSW.out.1.len]; kernel_rfl) (by rw [List.size_toArray, HSW.out.1.len, z5_len]) HSW.out.1.one ?_
      intro w1 hb1 ho1
      have F0 : Hid (Blk w1 g 62 P) := D0.out.grown ho1 (by intro e; injection e with e; omega)
      have F1 : Hid (Blk w1 (g + 1) 62 R) := D1.out.grown ho1 (by intro e; injection e with e; omega)
      have F2 : Hid (Blk w1 (g + 1 + 1 + 1) 62 z5) := D3.out.grown ho1 (by intro e; injection e with e; omega)
      have FA : Hid (Blk w1 (g + 1 + 1) 62 P) := hb1
      have FK : Hid (Below w.heap.size w w1) := DK.out.trans (ho1.below DK.out.size (by omega))
      refine hK _ _ ⟨F0.out.range 0 _ [] (by simp), F1.out.range 0 _ [] (by simp)⟩ (fun _ => ?_)
      clear hK KC hb1 ho1 D0 D1 D2 D3 DK
      refine wpAnyH_ready (rs := [3]) (by kernel_rfl) (by simp) ?_
      refine AllReadyH.cons rfl (fun KC hK => ?_) AllReadyH.nil
      refine step_store_blk rfl 62 (.tmp 7) (.tmp 46) rfl (g + 1 + 1 + 1) R.toArray rfl rfl 62 z5 F2.out (by rw [List.size_toArray, HSW.out.2.len]; kernel_rfl) (by rw [List.size_toArray, HSW.out.2.len, z5_len]) HSW.out.2.one ?_
      intro w2 hb2 ho2
      have G0 : Hid (Blk w2 g 62 P) := F0.out.grown ho2 (by intro e; injection e with e; omega)
      have G1 : Hid (Blk w2 (g + 1) 62 R) := F1.out.grown ho2 (by intro e; injection e with e; omega)
      have GA : Hid (Blk w2 (g + 1 + 1) 62 P) := FA.out.grown ho2 (by intro e; injection e with e; omega)
      have GB : Hid (Blk w2 (g + 1 + 1 + 1) 62 R) := hb2
      have GK : Hid (Below w.heap.size w w2) := FK.out.trans (ho2.below FK.out.size (by omega))
      refine hK _ _ ⟨G0.out.range 0 _ [] (by simp), G1.out.range 0 _ [] (by simp)⟩ (fun _ => ?_)
      clear hK KC hb2 ho2 F0 F1 F2 FA FK
      refine wpAnyH_done (by kernel_rfl) ?_ _
      go_wp2
      exact bodyPost_ret (results_cell_row2 rfl _ _ (g + 1 + 1) (g + 1 + 1 + 1) _ _ _ _ _ _ _ rfl rfl GA.out GB.out Tryd.underlying62 rfl (by rw [List.size_toArray, HSW.out.1.len]; kernel_rfl) (by rw [List.size_toArray, HSW.out.2.len]; kernel_rfl)) rfl ⟨P, R, rfl, HSW.out.1, HSW.out.2, GK.out⟩

end Go.Proofs.YtdojalhaklkegaaDoor
