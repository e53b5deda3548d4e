/-
  CONTRACT OF field.Swap: two elements, changed about if the least bit is 1. Conditions: the cells are elements'.
-/
import Derived.Test.YteombilmndlhjaaFieldLeft
import Derived.Test.YteombilmndlhjaaHeldA
namespace Go.Proofs.Yteombilmndlhjaa
open Go.RowKit
set_option linter.unusedVariables false

namespace M

/-- The first k limbs with what is unlike turned under the mask m, the others as they were. -/
def swp (l r : List Nat) (m : Nat) : Nat → List Nat
  | 0 => l
  | k + 1 => (swp l r m k).set k (l.getD k 0 ^^^ ((l.getD k 0 ^^^ r.getD k 0) &&& m))

def swq (l r : List Nat) (m : Nat) : Nat → List Nat
  | 0 => r
  | k + 1 => (swq l r m k).set k (r.getD k 0 ^^^ ((l.getD k 0 ^^^ r.getD k 0) &&& m))

theorem swp_length (l r : List Nat) (m k : Nat) : (swp l r m k).length = l.length := by
  induction k with
  | zero => rfl
  | succ k ih => rw [swp, List.length_set, ih]

theorem swq_length (l r : List Nat) (m k : Nat) : (swq l r m k).length = r.length := by
  induction k with
  | zero => rfl
  | succ k ih => rw [swq, List.length_set, ih]

theorem swp_get (l r : List Nat) (m k i : Nat) (h : k ≤ i) : (swp l r m k).getD i 0 = l.getD i 0 := by
  induction k with
  | zero => rfl
  | succ k ih => rw [swp, List.getD_eq_getElem?_getD, List.getElem?_set_ne (by omega), ← List.getD_eq_getElem?_getD, ih (by omega)]

theorem swq_get (l r : List Nat) (m k i : Nat) (h : k ≤ i) : (swq l r m k).getD i 0 = r.getD i 0 := by
  induction k with
  | zero => rfl
  | succ k ih => rw [swq, List.getD_eq_getElem?_getD, List.getElem?_set_ne (by omega), ← List.getD_eq_getElem?_getD, ih (by omega)]

/-- The mask: all bits, or none. -/
def msk (b : Nat) : Nat := if b % 2 = 1 then 18446744073709551615 else 0

theorem xor_lt64 {x y : Nat} (hx : x < 18446744073709551616) (hy : y < 18446744073709551616) : x ^^^ y < 18446744073709551616 := Nat.xor_lt_two_pow (n := 64) hx hy

theorem and_ones {x : Nat} (hx : x < 18446744073709551616) : x &&& 18446744073709551615 = x := by
  rw [show 18446744073709551615 = 2 ^ 64 - 1 from rfl, Nat.and_two_pow_sub_one_eq_mod, Nat.mod_eq_of_lt hx]

theorem turn_ (x y b : Nat) (hx : x < 18446744073709551616) (hy : y < 18446744073709551616) :
    x ^^^ ((x ^^^ y) &&& msk b) = (if b % 2 = 1 then y else x) ∧ y ^^^ ((x ^^^ y) &&& msk b) = (if b % 2 = 1 then x else y) := by
  by_cases h : b % 2 = 1
  · rw [msk, if_pos h, if_pos h, if_pos h, and_ones (xor_lt64 hx hy), ← Nat.xor_assoc, Nat.xor_self, Nat.zero_xor]
    refine ⟨rfl, ?_⟩
    rw [Nat.xor_comm x y, ← Nat.xor_assoc, Nat.xor_self, Nat.zero_xor]
  · rw [msk, if_neg h, if_neg h, if_neg h, Nat.and_zero, Nat.xor_zero, Nat.xor_zero]
    exact ⟨rfl, rfl⟩

theorem swp_all (a b c d e a' b' c' d' e' m : Nat) : swp [a, b, c, d, e] [a', b', c', d', e'] m 5 = [a ^^^ ((a ^^^ a') &&& m), b ^^^ ((b ^^^ b') &&& m), c ^^^ ((c ^^^ c') &&& m), d ^^^ ((d ^^^ d') &&& m), e ^^^ ((e ^^^ e') &&& m)] := rfl

theorem swq_all (a b c d e a' b' c' d' e' m : Nat) : swq [a, b, c, d, e] [a', b', c', d', e'] m 5 = [a' ^^^ ((a ^^^ a') &&& m), b' ^^^ ((b ^^^ b') &&& m), c' ^^^ ((c ^^^ c') &&& m), d' ^^^ ((d ^^^ d') &&& m), e' ^^^ ((e ^^^ e') &&& m)] := rfl

end M

/-- Two rows handed back. -/
theorem results_cell_row2 {P : Program} {fn : Func} {p q : Tmp} {ty : TypeId} (h : fn.results = #[.cell p ty, .cell q ty]) (tmps : Array Value) (w : World) (g k : Nat) (t u : TypeId) (cs ds : Array Value) (fr fs : Nat × Nat) (d : TypeDesc)
    (hp : tmps.getD p undef = .pointer (some ⟨g, 0, none⟩)) (hq : tmps.getD q undef = .pointer (some ⟨k, 0, none⟩)) (hg : w.heap[g]? = some (.cells cs t fr)) (hk : w.heap[k]? = some (.cells ds u fs))
    (hu : P.underlying ty = some d) (hd : (match d with | .struct _ | .array _ _ => true | _ => false) = true) (hi : (P.info? ty).map (·.size) = some cs.size) (hj : (P.info? ty).map (·.size) = some ds.size) :
    (results fn tmps).run P w = .ok (.tuple #[.agg cs, .agg ds]) w := by
  have hp' : tmps[p]?.getD undef = .pointer (some ⟨g, 0, none⟩) := by simpa using hp
  have hq' : tmps[q]?.getD undef = .pointer (some ⟨k, 0, none⟩) := by simpa using hq
  simp [results, h, hp', hq', asAddr, run_loadVar_row w g t ty cs fr d hg hu hd hi, run_loadVar_row w k u ty ds fs d hk hu hd hj]

theorem msk_wrap (b : Nat) : IntKind.u64.wrap (-((b % 2 : Nat) : Int)) = (M.msk b : Int) := by
  rw [IntKind.wrap_u64, M.msk]
  have : b % 2 = 0 ∨ b % 2 = 1 := by omega
  rcases this with h | h
  · rw [h, if_neg (by omega)]; rfl
  · rw [h, if_pos rfl]; rfl

theorem fl_swap {a0 a1 a2 a3 a4 b0 b1 b2 b3 b4 x y b : Nat} (ha : Fl (uc [a0, a1, a2, a3, a4]) x) (hb : Fl (uc [b0, b1, b2, b3, b4]) y) (la0 : a0 < 18446744073709551616) (la1 : a1 < 18446744073709551616) (la2 : a2 < 18446744073709551616) (la3 : a3 < 18446744073709551616) (la4 : a4 < 18446744073709551616) (lb0 : b0 < 18446744073709551616) (lb1 : b1 < 18446744073709551616) (lb2 : b2 < 18446744073709551616) (lb3 : b3 < 18446744073709551616) (lb4 : b4 < 18446744073709551616) :
    Fl (uc (M.swp [a0, a1, a2, a3, a4] [b0, b1, b2, b3, b4] (M.msk b) 5)) (if b % 2 = 1 then y else x) ∧ Fl (uc (M.swq [a0, a1, a2, a3, a4] [b0, b1, b2, b3, b4] (M.msk b) 5)) (if b % 2 = 1 then x else y) := by
  rw [M.swp_all, M.swq_all, (M.turn_ a0 b0 b la0 lb0).1, (M.turn_ a1 b1 b la1 lb1).1, (M.turn_ a2 b2 b la2 lb2).1, (M.turn_ a3 b3 b la3 lb3).1, (M.turn_ a4 b4 b la4 lb4).1, (M.turn_ a0 b0 b la0 lb0).2, (M.turn_ a1 b1 b la1 lb1).2, (M.turn_ a2 b2 b la2 lb2).2, (M.turn_ a3 b3 b la3 lb3).2, (M.turn_ a4 b4 b la4 lb4).2]
  by_cases h : b % 2 = 1
  · simp only [if_pos h]
    exact ⟨hb, ha⟩
  · simp only [if_neg h]
    exact ⟨ha, hb⟩

theorem msk_lt (b : Nat) : M.msk b < 18446744073709551616 := by
  rw [M.msk]
  split <;> decide

set_option maxHeartbeats 4000000 in
theorem fswap_any (b : Nat) (A B : List Value) (x y : Nat) (w : World) (hb64 : b < 18446744073709551616) (hA : Fl A x) (hB : Fl B y) :
    Calls Try.prog 41 #[.int .u64 (b : Int), .agg A.toArray, .agg B.toArray] w (GivesEE Fl w (if b % 2 = 1 then y else x) (if b % 2 = 1 then x else y)) := by
  obtain ⟨a0, a1, a2, a3, a4, ha, ⟨la0, la1, la2, la3, la4⟩, hx⟩ := hA
  obtain ⟨b0, b1, b2, b3, b4, hb, ⟨lb0, lb1, lb2, lb3, lb4⟩, hyy⟩ := hB
  have hsw := fl_swap (b := b) ⟨a0, a1, a2, a3, a4, rfl, ⟨la0, la1, la2, la3, la4⟩, hx⟩ ⟨b0, b1, b2, b3, b4, rfl, ⟨lb0, lb1, lb2, lb3, lb4⟩, hyy⟩ (by omega) (by omega) (by omega) (by omega) (by omega) (by omega) (by omega) (by omega) (by omega) (by omega)
  obtain ⟨l, hl⟩ : ∃ l, l = [a0, a1, a2, a3, a4] := ⟨_, rfl⟩
  obtain ⟨r, hr⟩ : ∃ r, r = [b0, b1, b2, b3, b4] := ⟨_, rfl⟩
  rw [← hl, ← hr] at hsw
  rw [← hl] at ha
  rw [← hr] at hb
  obtain ⟨X, hX⟩ : ∃ X, X = (if b % 2 = 1 then y else x) := ⟨_, rfl⟩
  obtain ⟨Y, hY⟩ : ∃ Y, Y = (if b % 2 = 1 then x else y) := ⟨_, rfl⟩
  rw [← hX, ← hY] at hsw ⊢
  obtain ⟨m, hm⟩ : ∃ m, m = M.msk b := ⟨_, rfl⟩
  rw [← hm] at hsw
  have HLL : Hid (l.length = 5) := by rw [hl]; rfl
  have HRL : Hid (r.length = 5) := by rw [hr]; rfl
  have HLB : Hid (∀ i, l.getD i 0 < 2251799813947392) := by rw [hl]; exact getD_lt _ _ _ _ _ _ la0 la1 la2 la3 la4
  have HRB : Hid (∀ i, r.getD i 0 < 2251799813947392) := by rw [hr]; exact getD_lt _ _ _ _ _ _ lb0 lb1 lb2 lb3 lb4
  have HMB : Hid (m < 18446744073709551616) := by rw [hm]; exact msk_lt b
  have HSW := Lib.hid hsw
  obtain ⟨q, hq⟩ : ∃ q, q = b % 2 := ⟨_, rfl⟩
  have t1 : bits BinOp.and .u64 (b : Int) 1 = (q : Int) := by rw [hq]; exact n_and b 1 hb64 (by decide)
  have t2 : IntKind.u64.wrap (-(q : Int)) = (m : Int) := by rw [hq, hm]; exact msk_wrap b
  have t2' : (-(q : Int)) % 18446744073709551616 = (m : Int) := by rw [← IntKind.wrap_u64]; exact t2
  obtain ⟨g, hg⟩ : ∃ g, g = w.heap.size := ⟨_, rfl⟩
  obtain ⟨W, hW⟩ : ∃ W, Hid (W = (((w.alloc (.cells (uc l).toArray 40)).alloc (.cells (uc r).toArray 40)).alloc (.cells z5.toArray 40)).alloc (.cells z5.toArray 40)) := ⟨_, rfl⟩
  have A0 : Hid (Blk W g 40 (uc (M.swp l r m 0))) := by rw [hW.out, hg]; exact (((Blk.newAt _ _ _ _ _ rfl rfl).alloc _).alloc _).alloc _
  have A1 : Hid (Blk W (g + 1) 40 (uc (M.swq l r m 0))) := by rw [hW.out, hg]; exact ((Blk.newAt _ _ _ _ _ (by simp) rfl).alloc _).alloc _
  have A2 : Hid (Blk W (g + 1 + 1) 40 z5) := by rw [hW.out, hg]; exact (Blk.newAt _ _ _ _ _ (by simp) rfl).alloc _
  have A3 : Hid (Blk W (g + 1 + 1 + 1) 40 z5) := by rw [hW.out, hg]; exact Blk.newAt _ _ _ _ _ (by simp) rfl
  have K0 : Hid (Below w.heap.size w W) := by rw [hW.out]; exact ((((Below.refl _ _).alloc (Nat.le_refl _) _).alloc (by simp) _).alloc (by simp; omega) _).alloc (by simp; omega) _
  have HG : Hid (w.heap.size = g) := hg.symm
  subst ha hb
  clear hl hr hx hyy hsw hX hY hm hq hb64 la0 la1 la2 la3 la4 lb0 lb1 lb2 lb3 lb4
  go_enter Try.func41, Try.ntmps41
  go_upto_region 1 with fail
  rw [← z5_arr, ← hW.out, ← hg]
  clear hW hg
  go_wp2
  go_loopw [14] (fun i wr => ∃ k : Nat, k ≤ 5 ∧ i = .int .i64 k ∧ Hid (Blk wr g 40 (uc (M.swp l r m k))) ∧ Hid (Blk wr (g + 1) 40 (uc (M.swq l r m k))) ∧ Hid (Blk wr (g + 1 + 1) 40 z5) ∧ Hid (Blk wr (g + 1 + 1 + 1) 40 z5) ∧ Hid (Below w.heap.size w wr))
    (fun i _ => 5 - (intOf i).toNat)
  case atStart => exact ⟨0, by omega, rfl, A0, A1, A2, A3, K0⟩
  case round =>
    clear A0 A1 A2 A3 K0
    obtain ⟨wA, rfl⟩ : ∃ x, x = wr := ⟨_, rfl⟩
    obtain ⟨k, hk, rfl, v0, v1, v2, v3, kk⟩ := hrel
    by_cases hlt : k < 5
    · obtain ⟨x, hx⟩ : ∃ x, Hid (x = l.getD k 0) := ⟨_, rfl⟩
      obtain ⟨y, hy⟩ : ∃ x, Hid (x = r.getD k 0) := ⟨_, rfl⟩
      have hxb : x < 18446744073709551616 := by have := HLB.out k; rw [← hx.out] at this; omega
      have hyb : y < 18446744073709551616 := by have := HRB.out k; rw [← hy.out] at this; omega
      obtain ⟨u, hu⟩ : ∃ u, u = x ^^^ y := ⟨_, rfl⟩
      obtain ⟨v, hv⟩ : ∃ v, v = u &&& m := ⟨_, rfl⟩
      obtain ⟨p, hp⟩ : ∃ p, p = x ^^^ v := ⟨_, rfl⟩
      obtain ⟨q', hq'⟩ : ∃ q, q = y ^^^ v := ⟨_, rfl⟩
      have hub : u < 18446744073709551616 := by rw [hu]; exact M.xor_lt64 hxb hyb
      have hvb : v < 18446744073709551616 := by rw [hv]; exact Nat.lt_of_le_of_lt Nat.and_le_left hub
      have s1 : bits BinOp.xor .u64 (x : Int) (y : Int) = (u : Int) := by rw [hu]; exact u64_xor_nat x y hxb hyb
      have s2 : bits BinOp.and .u64 (u : Int) (m : Int) = (v : Int) := by rw [hv]; exact u64_and_nat u m hub HMB.out
      have s3 : bits BinOp.xor .u64 (x : Int) (v : Int) = (p : Int) := by rw [hp]; exact u64_xor_nat x v hxb hvb
      have s4 : bits BinOp.xor .u64 (y : Int) (v : Int) = (q' : Int) := by rw [hq']; exact u64_xor_nat y v hyb hvb
      have HP : Hid (M.swp l r m (k + 1) = (M.swp l r m k).set k p) := by rw [Hid, M.swp, ← hx.out, ← hy.out, hp, hv, hu]
      have HQ : Hid (M.swq l r m (k + 1) = (M.swq l r m k).set k q') := by rw [Hid, M.swq, ← hx.out, ← hy.out, hq', hv, hu]
      have c0 : wA.cell? ⟨g, k, none⟩ = some (.int .u64 (x : Int)) := by rw [v0.out.cell, uc_get _ _ (by rw [M.swp_length, HLL.out]; exact hlt), M.swp_get _ _ _ _ _ (Nat.le_refl _), hx.out]
      have c1 : wA.cell? ⟨g + 1, k, none⟩ = some (.int .u64 (y : Int)) := by rw [v1.out.cell, uc_get _ _ (by rw [M.swq_length, HRL.out]; exact hlt), M.swq_get _ _ _ _ _ (Nat.le_refl _), hy.out]
      have f0 : wA.frozen? ⟨g, k, none⟩ = false := v0.out.frozen k
      have f1 : wA.frozen? ⟨g + 1, k, none⟩ = false := v1.out.frozen k
      clear hxb hyb hub hvb hu hv hp hq' hx hy
      go_upto_region 5 with fail
      go_quiet (fail)
      obtain ⟨wB, hwB⟩ : ∃ x, Hid (x = wA.drewN nq) := ⟨_, rfl⟩
      rw [← hwB.out]
      have d0 : wB.cell? ⟨g, k, none⟩ = some (.int .u64 (x : Int)) := by rw [hwB.out]; exact c0
      have d1 : wB.cell? ⟨g + 1, k, none⟩ = some (.int .u64 (y : Int)) := by rw [hwB.out]; exact c1
      have e0 : wB.frozen? ⟨g, k, none⟩ = false := by rw [hwB.out]; exact f0
      have e1 : wB.frozen? ⟨g + 1, k, none⟩ = false := by rw [hwB.out]; exact f1
      have V0 : Hid (Blk wB g 40 (uc (M.swp l r m k))) := by rw [hwB.out]; exact v0.out.drewN _
      have V1 : Hid (Blk wB (g + 1) 40 (uc (M.swq l r m k))) := by rw [hwB.out]; exact v1.out.drewN _
      have V2 : Hid (Blk wB (g + 1 + 1) 40 z5) := by rw [hwB.out]; exact v2.out.drewN _
      have V3 : Hid (Blk wB (g + 1 + 1 + 1) 40 z5) := by rw [hwB.out]; exact v3.out.drewN _
      have KB : Hid (Below w.heap.size w wB) := by rw [hwB.out]; exact drewN_below kk.out _
      clear c0 c1 f0 f1 v0 v1 v2 v3 kk hwB
      go_wp2
      go_roundw
      case rel =>
        have := HG.out
        refine ⟨k + 1, by omega, by go_num, ?_, ?_, blk_far (blk_far V2.out (by omega) _) (by omega) _, blk_far (blk_far V3.out (by omega) _) (by omega) _, below_set (below_set KB.out (by omega) _) (by omega) _⟩
        · rw [Hid, HP.out, ← uc_set]
          exact blk_far (V0.out.set_ k _) (by omega) _
        · rw [Hid, HQ.out, ← uc_set]
          exact (blk_far V1.out (by omega) _).set_ k _
      case measure => simp [intOf]; omega
    · obtain rfl : k = 5 := by omega
      obtain ⟨P, hP⟩ : ∃ P, P = uc (M.swp l r m 5) := ⟨_, rfl⟩
      obtain ⟨R, hR⟩ : ∃ P, P = uc (M.swq l r m 5) := ⟨_, rfl⟩
      rw [← hP] at v0 HSW
      rw [← hR] at v1 HSW
      clear hP hR
      go_upto_region 9 with fail
      refine wp_region_any (by kernel_rfl) ?_
      change wpAny _ _ _ _ _ _ _ (World.drew _)
      refine wpAny_of_held (S := fun w' => w'.rangeAt g 0 P ∧ w'.rangeAt (g + 1) 0 R) _ _ _ _ ?_
      have S0 : wA.drew.rangeAt g 0 P ∧ wA.drew.rangeAt (g + 1) 0 R := ⟨v0.out.drew.range 0 _ [] (by simp), v1.out.drew.range 0 _ [] (by simp)⟩
      refine wpAnyH_take_at (i := 0) (v := .agg P.toArray) rfl rfl (by kernel_rfl) (by kernel_rfl) (by kernel_rfl) (fun _ _ _ h => h) (yieldsIf_load_mid (by rfl) 40 (.tmp 4) rfl g 0 rfl P _ (fun w h => h.1) Try.underlying40 rfl (by rw [HSW.out.1.len]; kernel_rfl)) S0 ?_
      simp only [List.setIfInBounds_toArray, List.set_cons_zero, List.set_cons_succ]
      refine wpAnyH_take_at (i := 1) (v := .agg R.toArray) rfl rfl (by kernel_rfl) (by kernel_rfl) (by kernel_rfl) (fun _ _ _ h => h) (yieldsIf_load_mid (by rfl) 40 (.tmp 5) rfl (g + 1) 0 rfl R _ (fun w h => h.2) Try.underlying40 rfl (by rw [HSW.out.2.len]; kernel_rfl)) S0 ?_
      simp only [List.setIfInBounds_toArray, List.set_cons_zero, List.set_cons_succ]
      have D0 : Hid (Blk wA.drew g 40 P) := v0.out.drew
      have D1 : Hid (Blk wA.drew (g + 1) 40 R) := v1.out.drew
      have D2 : Hid (Blk wA.drew (g + 1 + 1) 40 z5) := v2.out.drew
      have D3 : Hid (Blk wA.drew (g + 1 + 1 + 1) 40 z5) := v3.out.drew
      have DK : Hid (Below w.heap.size w wA.drew) := drewN_below kk.out 1
      clear v0 v1 v2 v3 kk S0
      have hgw := HG.out
      refine wpAnyH_ready (rs := [2]) (by kernel_rfl) (by simp) ?_
      refine AllReadyH.cons rfl (fun KC hK => ?_) AllReadyH.nil
      refine step_store_blk rfl 40 (.tmp 6) (.tmp 45) rfl (g + 1 + 1) P.toArray rfl rfl 40 z5 D2.out (by rw [List.size_toArray, HSW.out.1.len]; kernel_rfl) (by rw [List.size_toArray, HSW.out.1.len, z5_len]) HSW.out.1.one ?_
      intro w1 hb1 ho1
      have F0 : Hid (Blk w1 g 40 P) := D0.out.grown ho1 (by intro e; injection e with e; omega)
      have F1 : Hid (Blk w1 (g + 1) 40 R) := D1.out.grown ho1 (by intro e; injection e with e; omega)
      have F2 : Hid (Blk w1 (g + 1 + 1 + 1) 40 z5) := D3.out.grown ho1 (by intro e; injection e with e; omega)
      have FA : Hid (Blk w1 (g + 1 + 1) 40 P) := hb1
      have FK : Hid (Below w.heap.size w w1) := DK.out.trans (ho1.below DK.out.size (by omega))
      refine hK _ _ ⟨F0.out.range 0 _ [] (by simp), F1.out.range 0 _ [] (by simp)⟩ (fun _ => ?_)
      clear hK KC hb1 ho1 D0 D1 D2 D3 DK
      refine wpAnyH_ready (rs := [3]) (by kernel_rfl) (by simp) ?_
      refine AllReadyH.cons rfl (fun KC hK => ?_) AllReadyH.nil
      refine step_store_blk rfl 40 (.tmp 7) (.tmp 46) rfl (g + 1 + 1 + 1) R.toArray rfl rfl 40 z5 F2.out (by rw [List.size_toArray, HSW.out.2.len]; kernel_rfl) (by rw [List.size_toArray, HSW.out.2.len, z5_len]) HSW.out.2.one ?_
      intro w2 hb2 ho2
      have G0 : Hid (Blk w2 g 40 P) := F0.out.grown ho2 (by intro e; injection e with e; omega)
      have G1 : Hid (Blk w2 (g + 1) 40 R) := F1.out.grown ho2 (by intro e; injection e with e; omega)
      have GA : Hid (Blk w2 (g + 1 + 1) 40 P) := FA.out.grown ho2 (by intro e; injection e with e; omega)
      have GB : Hid (Blk w2 (g + 1 + 1 + 1) 40 R) := hb2
      have GK : Hid (Below w.heap.size w w2) := FK.out.trans (ho2.below FK.out.size (by omega))
      refine hK _ _ ⟨G0.out.range 0 _ [] (by simp), G1.out.range 0 _ [] (by simp)⟩ (fun _ => ?_)
      clear hK KC hb2 ho2 F0 F1 F2 FA FK
      refine wpAnyH_done (by kernel_rfl) ?_ _
      go_wp2
      exact bodyPost_ret (results_cell_row2 rfl _ _ (g + 1 + 1) (g + 1 + 1 + 1) _ _ _ _ _ _ _ rfl rfl GA.out GB.out Try.underlying40 rfl (by rw [List.size_toArray, HSW.out.1.len]; kernel_rfl) (by rw [List.size_toArray, HSW.out.2.len]; kernel_rfl)) rfl ⟨P, R, rfl, HSW.out.1, HSW.out.2, GK.out⟩

end Go.Proofs.Yteombilmndlhjaa
