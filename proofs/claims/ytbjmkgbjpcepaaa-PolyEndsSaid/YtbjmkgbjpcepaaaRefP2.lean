/-
  CONTRACTS OF orlopref05.less AND times: numbers as rows of digits. Conditions: digits below 256; lengths within what the code makes room for.
-/
import Derived.Test.YtbjmkgbjpcepaaaRefP1
namespace Go.Proofs.Ytbjmkgbjpcepaaa
open Go.RowKit
set_option linter.unusedVariables false

namespace M

theorem less_step (A B j : Nat) (h : A / 256 ^ (j + 1) = B / 256 ^ (j + 1)) : (A / 256 ^ j % 256 = B / 256 ^ j % 256 → A / 256 ^ j = B / 256 ^ j) ∧ (A / 256 ^ j % 256 ≠ B / 256 ^ j % 256 → (A < B ↔ A / 256 ^ j % 256 < B / 256 ^ j % 256)) := by
  rw [Nat.pow_succ, ← Nat.div_div_eq_div_mul, ← Nat.div_div_eq_div_mul] at h
  refine ⟨fun e => by omega, fun e => ⟨fun hl => ?_, fun hl => ?_⟩⟩
  · have := Nat.div_le_div_right (c := 256 ^ j) (Nat.le_of_lt hl)
    omega
  · have h2 : A / 256 ^ j < B / 256 ^ j := by omega
    rcases Nat.lt_or_ge A B with h3 | h3
    · exact h3
    · have := Nat.div_le_div_right (c := 256 ^ j) h3
      omega

end M

theorem ret_b {a b : Bool} (h : a = b) : Ending.returned (.bool a) = .returned (.bool b) := by rw [h]

theorem rless_any (av bv : Value) (A B : Nat) (w : World) (ha : IsI w av (M.dg A 17)) (hb : IsI w bv (M.dg B 17)) (hA : A < 256 ^ 17) (hB : B < 256 ^ 17) :
    Calls Try.prog 29 #[av, bv] w fun e w' => e = .returned (.bool (decide (A < B))) ∧ Below w.heap.size w w' := by
  obtain ⟨b1, o1, p1, rfl, hc1⟩ := ha.at_ (by rw [M.dg_length]; decide)
  obtain ⟨b2, o2, p2, rfl, hc2⟩ := hb.at_ (by rw [M.dg_length]; decide)
  have C1 := Lib.hid hc1
  have C2 := Lib.hid hc2
  rw [M.dg_length, M.dg_length]
  have H0 : Hid (A / 256 ^ 17 = B / 256 ^ 17) := by rw [Hid, Nat.div_eq_of_lt hA, Nat.div_eq_of_lt hB]
  clear ha hb hc1 hc2 hA hB
  go_enter Try.func29, Try.ntmps29
  go_wp2
  go_loopw [5] (fun i wr => ∃ k : Nat, k ≤ 17 ∧ i = .int .i64 ((k : Int) - 1) ∧ Hid (A / 256 ^ k = B / 256 ^ k) ∧ Below w.heap.size w wr)
    (fun i _ => (intOf i + 1).toNat)
  case atStart => exact ⟨17, Nat.le_refl _, rfl, H0, Below.refl _ _⟩
  case round =>
    clear H0
    obtain ⟨wA, rfl⟩ : ∃ x, x = wr := ⟨_, rfl⟩
    obtain ⟨k, hk, rfl, he, kk⟩ := hrel
    by_cases hlt : 0 < k
    · obtain ⟨j, rfl⟩ : ∃ j, k = j + 1 := ⟨k - 1, by omega⟩
      have hji : ((j + 1 : Nat) : Int) - 1 = (j : Int) := by omega
      rw [hji]
      obtain ⟨x, hx⟩ : ∃ x, Hid (x = A / 256 ^ j % 256) := ⟨_, rfl⟩
      obtain ⟨y, hy⟩ : ∃ x, Hid (x = B / 256 ^ j % 256) := ⟨_, rfl⟩
      have hc1 := C1.out j (by rw [M.dg_length]; omega)
      have hc2 := C2.out j (by rw [M.dg_length]; omega)
      have cx : wA.cell? ⟨b1, o1 + j, none⟩ = some (.int .i64 (x : Int)) := by
        rw [kk.cell (by exact World.block_lt_of_cell? w _ hc1), hc1, M.dg_get A 17 j (by omega), hx.out]
      have cy : wA.cell? ⟨b2, o2 + j, none⟩ = some (.int .i64 (y : Int)) := by
        rw [kk.cell (by exact World.block_lt_of_cell? w _ hc2), hc2, M.dg_get B 17 j (by omega), hy.out]
      have hj17 : j < 17 := by omega
      have HS := Lib.hid (M.less_step A B j he.out)
      clear hc1 hc2 hji
      by_cases hxy : x = y
      · have hxyi : (x : Int) = y := by omega
        go_wp2
        go_quiet (fail)
        go_wp2
        go_roundw
        case rel => exact ⟨j, by omega, by go_num, HS.out.1 (by rw [← hx.out, ← hy.out]; exact hxy), drewN_below kk _⟩
        case measure => simp [intOf]
      · have hxyi : ¬ (x : Int) = y := by omega
        have HR : Hid (A < B ↔ x < y) := by rw [Hid, hx.out, hy.out]; exact HS.out.2 (by rw [← hx.out, ← hy.out]; exact hxy)
        go_wp2
        go_quiet (fail)
        go_wp2
        obtain ⟨wB, hwB⟩ : ∃ x, Hid (x = wA.drewN nq) := ⟨_, rfl⟩
        rw [← hwB.out]
        have cx' : wB.cell? ⟨b1, o1 + j, none⟩ = some (.int .i64 (x : Int)) := by rw [hwB.out]; exact cx
        have cy' : wB.cell? ⟨b2, o2 + j, none⟩ = some (.int .i64 (y : Int)) := by rw [hwB.out]; exact cy
        have kB : Below w.heap.size w wB := by rw [hwB.out]; exact drewN_below kk _
        clear cx cy kk
        go_quiet (fail)
        go_wp2
        go_ret
        refine ⟨ret_b ?_, drewN_below kB _⟩
        by_cases hl : x < y
        · rw [decide_eq_true (HR.out.2 hl), decide_eq_true (by omega)]
        · rw [decide_eq_false (fun h => hl (HR.out.1 h)), decide_eq_false (by omega)]
    · obtain rfl : k = 0 := by omega
      go_wp2
      go_ret
      refine ⟨ret_b ?_, kk⟩
      have h := he.out
      simp at h
      simp [h]

set_option maxHeartbeats 2000000 in
theorem rtimes_any (av bv : Value) (a b : List Nat) (w : World) (ha : IsI w av a) (hb : IsI w bv b) (da : M.Dig a) (db : M.Dig b) (hlen : a.length + b.length ≤ 35) :
    Calls Try.prog 19 #[av, bv] w (MakesI w (M.dg (M.gi a a.length * M.gi b b.length) 36)) := by
  have HA := Lib.hid ha
  have HB := Lib.hid hb
  have DA := Lib.hid da
  have DB := Lib.hid db
  obtain ⟨a1, c1, rfl, _, _, _⟩ := ha
  obtain ⟨a2, c2, rfl, _, _, _⟩ := hb
  obtain ⟨la, hla⟩ : ∃ n, n = a.length := ⟨_, rfl⟩
  obtain ⟨lb, hlb⟩ : ∃ n, n = b.length := ⟨_, rfl⟩
  have HLA := Lib.hid hla
  have HLB := Lib.hid hlb
  rw [← hla] at HA hlen ⊢
  rw [← hlb] at HB hlen ⊢
  clear hla hlb da db
  obtain ⟨i0, hi, hz0, hz1, hz2⟩ := info_parts Try.info47
  go_enter Try.func19, Try.ntmps19
  go_wp2_with (at_make; go_must (refine wpList_make_full _ rfl _ _ 47 rfl w.heap.size 3 i0 (.int .i64 0) 1 Try.underlying47 hi hz0 hz1 .i64 .i64 36 36 36 rfl rfl rfl rfl (by rw [hz2]; omega) (by unfold maxLen; omega) (Nat.le_refl _) ?_))
  intro w1 hown hgrow
  have hb1 : Below w.heap.size w w1 := (Below.refl _ _).grown hgrow (Nat.le_refl _) (by intro k hk; cases hk)
  have HO : Hid (w1.ownsRow w.heap.size 3 1 (.slice (some ⟨w.heap.size, 0, none⟩) 36 36) 36 (ic (M.dg (M.gi a 0 * M.gi b lb) 36))) := by
    have e : ic (M.dg (M.gi a 0 * M.gi b lb) 36) = (madeCells #[Value.int IntKind.i64 0] 36).toList := by
      rw [toList_madeCells_one, ic_zero, M.gi, Nat.zero_mul]
      congr 1
    rw [Hid, e]
    exact hown
  clear hown hgrow hi hz0 hz1 hz2
  go_wp2
  go_loopw [6] (fun i wr => ∃ k : Nat, k ≤ la ∧ i = .int .i64 k ∧ Hid (wr.ownsRow w.heap.size 3 1 (.slice (some ⟨w.heap.size, 0, none⟩) 36 36) 36 (ic (M.dg (M.gi a k * M.gi b lb) 36))) ∧ Below w.heap.size w wr)
    (fun i _ => la - (intOf i).toNat)
  case atStart => exact ⟨0, Nat.zero_le _, rfl, HO, hb1⟩
  case round =>
    clear HO hb1
    obtain ⟨wA, rfl⟩ : ∃ x, x = wr := ⟨_, rfl⟩
    obtain ⟨i, hi, rfl, hown, kk⟩ := hrel
    by_cases hlt : i < la
    · obtain ⟨x, hx⟩ : ∃ x, Hid (x = a.getD i 0) := ⟨_, rfl⟩
      have hxb : x < 256 := by rw [hx.out]; exact DA.out i
      obtain ⟨X0, hX0⟩ : ∃ X, Hid (X = M.gi a i * M.gi b lb) := ⟨_, rfl⟩
      have HXB : Hid (X0 < 256 ^ (i + b.length)) := by rw [Hid, hX0.out, HLB.out]; exact M.gi_times_lt a b DA.out DB.out i
      rw [← hX0.out] at hown
      obtain ⟨ts1, ts2⟩ := M.t_start X0 x b i (by omega)
      have O0 : Hid (wA.ownsRow w.heap.size 3 1 (.slice (some ⟨w.heap.size, 0, none⟩) 36 36) 36 (ic (M.tR X0 x b i 0))) := by rw [Hid, ts1]; exact hown.out
      have HT0 := Lib.hid ts2
      clear hown ts1 ts2
      go_wp2
      go_loopw [7, 8] (fun c kv wr => ∃ k : Nat, k ≤ lb + 1 ∧ kv = .int .i64 k ∧ c = .int .i64 (M.tC X0 x b i k : Nat) ∧ Hid (wr.ownsRow w.heap.size 3 1 (.slice (some ⟨w.heap.size, 0, none⟩) 36 36) 36 (ic (M.tR X0 x b i k))) ∧ Below w.heap.size w wr)
        (fun _ kv _ => lb + 1 - (intOf kv).toNat)
      case atStart => exact ⟨0, by omega, rfl, by rw [HT0.out]; rfl, O0, kk⟩
      case round =>
        clear O0 HT0 kk
        obtain ⟨wz, rfl⟩ : ∃ x, x = wr := ⟨_, rfl⟩
        obtain ⟨k, hk, rfl, rfl, hown, kk⟩ := hrel
        obtain ⟨c, hc⟩ : ∃ c, Hid (c = M.tC X0 x b i k) := ⟨_, rfl⟩
        have hcb : c < 256 := by rw [hc.out]; exact M.tC_lt X0 x b i k hxb DB.out
        rw [← hc.out]
        by_cases hgo : k < lb ∨ 0 < c
        · have hkl : k ≤ lb := by
            rcases hgo with h | h
            · omega
            · by_cases h2 : k ≤ lb
              · exact h2
              · have e : k = b.length + 1 := by have := HLB.out; omega
                have := M.t_last X0 x b i HXB.out hxb DB.out
                rw [← e, ← hc.out] at this
                omega
          obtain ⟨p, hp⟩ : ∃ p, p = i + k := ⟨_, rfl⟩
          have hpi : (i : Int) + k = p := by omega
          have hp36 : p < 36 := by omega
          have HPP := Lib.hid hp
          obtain ⟨d, hd⟩ : ∃ d, Hid (d = X0 / 256 ^ (i + k) % 256) := ⟨_, rfl⟩
          have hdb : d < 256 := by rw [hd.out]; omega
          obtain ⟨y, hy⟩ : ∃ y, Hid (y = b.getD k 0) := ⟨_, rfl⟩
          have hyb : y < 256 := by rw [hy.out]; exact DB.out k
          obtain ⟨z0, hz0⟩ : ∃ z, z = d + c := ⟨_, rfl⟩
          obtain ⟨xy, hxy⟩ : ∃ z, z = x * y := ⟨_, rfl⟩
          have hxyb : xy ≤ 65025 := by rw [hxy]; exact Nat.mul_le_mul (show x ≤ 255 by omega) (show y ≤ 255 by omega)
          obtain ⟨z, hz⟩ : ∃ z, z = z0 + xy := ⟨_, rfl⟩
          obtain ⟨m, hm⟩ : ∃ m, m = z % 256 := ⟨_, rfl⟩
          obtain ⟨q, hq⟩ : ∃ q, q = z / 256 := ⟨_, rfl⟩
          have t1 : (z : Int).tmod 256 = (m : Int) := by rw [Int.tmod_eq_emod_of_nonneg (by omega)]; omega
          have t2 : (z : Int) % 256 = (m : Int) := by omega
          have t3 : (z : Int).tdiv 256 = (q : Int) := by rw [Int.tdiv_eq_ediv_of_nonneg (by omega)]; omega
          have t4 : (z : Int) / 256 = (q : Int) := by omega
          have hz0i : (d : Int) + c = z0 := by omega
          have hxyi : (x : Int) * y = xy := by rw [hxy]; simp
          have hxyw : IntKind.i64.wrap ((x : Int) * y) = xy := by rw [hxyi]; exact IntWalk.i64_in _ (by omega)
          have hzi : (z0 : Int) + xy = z := by omega
          have hzw : IntKind.i64.wrap ((z0 : Int) + xy) = z := by rw [hzi]; exact IntWalk.i64_in _ (by omega)
          have hcO : wz.cell? ⟨w.heap.size, p, none⟩ = some (.int .i64 (d : Int)) := by
            rw [hown.out.cellAt p (by omega), ic_get _ _ (by rw [M.tR_length _ _ _ _ _ (by omega)]; exact hp36), hp, M.tR_get _ _ _ _ _ (by omega), ← hd.out]
          have hfO : wz.frozen? ⟨w.heap.size, p, none⟩ = false := hown.out.frozenAt p
          obtain ⟨s1, s2⟩ := M.t_step X0 x b i k (by omega)
          rw [← hd.out, ← hc.out, ← hy.out, ← hxy, ← hz0, ← hz] at s1 s2
          have HNX : Hid (M.tC X0 x b i (k + 1) = q) := by rw [Hid, s2, hq]
          have fin : Hid ((wz.setCell ⟨w.heap.size, p, none⟩ (.int .i64 (m : Int))).ownsRow w.heap.size 3 1 (.slice (some ⟨w.heap.size, 0, none⟩) 36 36) 36 (ic (M.tR X0 x b i (k + 1)))) := by
            have h := (hown.out.stored p (.int .i64 (m : Int))).1
            rw [Hid, ← s1, ← hp, ← hm, ← ic_set]
            exact h
          have HXY := Lib.hid hxy
          have HZ := Lib.hid hz
          have HZ0 := Lib.hid hz0
          clear hm hq hp s1 s2 hown hz0 hxy
          by_cases hkb : k < lb
          · obtain ⟨b1, o1, p1, e1, cx⟩ := HA.out.cell kk i (by have := HLA.out; omega)
            injection e1 with e1 e1' e1''
            subst e1
            obtain ⟨b2, o2, p2, e2, cy⟩ := HB.out.cell kk k (by have := HLB.out; omega)
            injection e2 with e2 e2' e2''
            subst e2
            rw [← hx.out] at cx
            rw [← hy.out] at cy
            clear hz e1' e1'' e2' e2'' hgo
            go_wp2
            go_quiet (fail)
            go_wp2
            refine ⟨⟨k + 1, by omega, by go_num, by rw [HNX.out], fin.out, below_set (drewN_below kk _) (Nat.le_refl _) _⟩, by simp [intOf]; omega⟩
          · have hc0 : 0 < c := by omega
            have hy0 : y = 0 := by rw [hy.out]; exact getD_none b k (by have := HLB.out; omega)
            have hzz : z = z0 := by have := HXY.out; rw [hy0, Nat.mul_zero] at this; omega
            subst hzz
            clear hz hgo
            go_wp2
            go_roundw
            case rel => exact ⟨k + 1, by omega, by go_num, by rw [HNX.out], fin, below_set kk (Nat.le_refl _) _⟩
            case measure => simp [intOf]; omega
        · have hkb : ¬ k < lb := by omega
          have hc0 : c = 0 := by omega
          have O1 : Hid (wz.ownsRow w.heap.size 3 1 (.slice (some ⟨w.heap.size, 0, none⟩) 36 36) 36 (ic (M.dg (M.gi a (i + 1) * M.gi b lb) 36))) := by
            have h := M.t_end X0 x b i k HXB.out (by have := HLB.out; omega) (by omega) (by rw [← hc.out]; exact hc0)
            rw [hX0.out, hx.out] at h
            rw [Hid, HLB.out, M.gi_times, ← HLB.out]
            rw [← HLB.out] at h
            rw [← h, ← hX0.out, ← hx.out]
            exact hown.out
          subst hc0
          clear hown hgo
          go_wp2
          go_roundw
          case rel => exact ⟨i + 1, by omega, by go_num, O1, kk⟩
          case measure => simp [intOf]; omega
    · obtain rfl : i = la := by omega
      go_wp2
      go_ret
      refine ⟨_, rfl, ?_, kk⟩
      rw [OwnI, M.dg_length]
      exact hown.out

end Go.Proofs.Ytbjmkgbjpcepaaa
