/-
  CONTRACTS OF orlopref05.add, prime AND less: numbers as rows of digits. Conditions: digits below 256; sums of at most 100 digits.
-/
import Derived.Test.YtbjmkgbjpcepaaaRefI
import Derived.Test.YtbjmkgbjpcepaaaRefPMath
import Derived.Test.YtbjmkgbjpcepaaaPolyW
import Derived.Lib.Hide
namespace Go.Proofs.Ytbjmkgbjpcepaaa
open Go.RowKit
set_option linter.unusedVariables false

/-- The cells of a row that is filled from its head on. -/
def fillC (l : List Nat) (m : Nat) : List Value := ic l ++ List.replicate m (.int .i64 0)

theorem fillC_length (l : List Nat) (m : Nat) : (fillC l m).length = l.length + m := by simp [fillC, ic_length]

theorem IsI.cell {w w' : World} {v : Value} {l : List Nat} (h : IsI w v l) (k : Below w.heap.size w w') (i : Nat) (hi : i < l.length) : ∃ b o cap, v = .slice (some ⟨b, o, none⟩) l.length cap ∧ w'.cell? ⟨b, o + i, none⟩ = some (.int .i64 ((l.getD i 0 : Nat) : Int)) := by
  obtain ⟨b, o, cap, rfl, hc⟩ := h.at_ (by omega)
  have hx := hc i hi
  exact ⟨b, o, cap, rfl, by rw [k.cell (by exact World.block_lt_of_cell? w _ hx), hx]⟩

theorem getD_none (l : List Nat) (i : Nat) (h : ¬ i < l.length) : l.getD i 0 = 0 := by
  simp [List.getD_eq_getElem?_getD, List.getElem?_eq_none (show l.length ≤ i by omega)]

set_option maxHeartbeats 1000000 in
theorem radd_any (av bv : Value) (a b : List Nat) (n : Nat) (w : World) (ha : IsI w av a) (hb : IsI w bv b) (da : M.Dig a) (db : M.Dig b) (hn : n ≤ 100) :
    Calls Try.prog 20 #[av, bv, .int .i64 n] w (MakesI w (M.dg (M.gi a n + M.gi b n) n)) := by
  have HA := Lib.hid ha
  have HB := Lib.hid hb
  have DA := Lib.hid da
  have DB := Lib.hid db
  obtain ⟨a1, c1, rfl, _, _, _⟩ := ha
  obtain ⟨a2, c2, rfl, _, _, _⟩ := hb
  obtain ⟨la, hla⟩ : ∃ n, n = a.length := ⟨_, rfl⟩
  obtain ⟨lb, hlb⟩ : ∃ n, n = b.length := ⟨_, rfl⟩
  have HLA := Lib.hid hla
  have HLB := Lib.hid hlb
  rw [← hla] at HA ⊢
  rw [← hlb] at HB ⊢
  clear hla hlb da db
  obtain ⟨i0, hi, hz0, hz1, hz2⟩ := info_parts Try.info47
  go_enter Try.func20, Try.ntmps20
  go_wp2_with (at_make; go_must (refine wpList_make_full _ rfl _ _ 47 rfl w.heap.size 3 i0 (.int .i64 0) 1 Try.underlying47 hi hz0 hz1 .i64 .i64 n n n rfl rfl rfl rfl (by rw [hz2]; omega) (by unfold maxLen; omega) (Nat.le_refl _) ?_))
  intro w1 hown hgrow
  have hb1 : Below w.heap.size w w1 := (Below.refl _ _).grown hgrow (Nat.le_refl _) (by intro k hk; cases hk)
  have HO : Hid (w1.ownsRow w.heap.size 3 1 (.slice (some ⟨w.heap.size, 0, none⟩) n n) n (fillC (M.dg (M.gi a 0 + M.gi b 0) 0) (n - 0))) := by
    have e : fillC (M.dg (M.gi a 0 + M.gi b 0) 0) (n - 0) = (madeCells #[Value.int IntKind.i64 0] n).toList := by
      simp [fillC, M.dg, ic, toList_madeCells_one]
    rw [Hid, e]
    exact hown
  clear hown hgrow hi hz0 hz1 hz2
  go_wp2
  go_loopw [8, 9] (fun c i wr => ∃ k : Nat, k ≤ n ∧ i = .int .i64 k ∧ c = .int .i64 ((M.gi a k + M.gi b k) / 256 ^ k : Nat) ∧ Hid (wr.ownsRow w.heap.size 3 1 (.slice (some ⟨w.heap.size, 0, none⟩) n n) n (fillC (M.dg (M.gi a k + M.gi b k) k) (n - k))) ∧ Below w.heap.size w wr)
    (fun _ i _ => n - (intOf i).toNat)
  case atStart => exact ⟨0, Nat.zero_le _, rfl, by simp [M.gi], HO, hb1⟩
  case round =>
    clear HO hb1
    obtain ⟨wA, rfl⟩ : ∃ x, x = wr := ⟨_, rfl⟩
    obtain ⟨k, hk, rfl, rfl, hown, kk⟩ := hrel
    obtain ⟨c, hc⟩ : ∃ c, Hid (c = (M.gi a k + M.gi b k) / 256 ^ k) := ⟨_, rfl⟩
    have hc2 : c < 2 := by
      rw [hc.out]
      refine M.carry_le _ _ _ ?_
      have h1 := M.gi_lt a DA.out k
      have h2 := M.gi_lt b DB.out k
      omega
    rw [← hc.out]
    by_cases hlt : k < n
    · obtain ⟨x, hx⟩ : ∃ x, Hid (x = a.getD k 0) := ⟨_, rfl⟩
      obtain ⟨y, hy⟩ : ∃ x, Hid (x = b.getD k 0) := ⟨_, rfl⟩
      have hxb : x < 256 := by rw [hx.out]; exact DA.out k
      have hyb : y < 256 := by rw [hy.out]; exact DB.out k
      obtain ⟨z, hz⟩ : ∃ z, z = c + x + y := ⟨_, rfl⟩
      obtain ⟨m, hm⟩ : ∃ m, m = z % 256 := ⟨_, rfl⟩
      obtain ⟨q, hq⟩ : ∃ q, q = z / 256 := ⟨_, rfl⟩
      have t1 : (z : Int).tmod 256 = (m : Int) := by rw [Int.tmod_eq_emod_of_nonneg (by omega)]; omega
      have t2 : (z : Int) % 256 = (m : Int) := by omega
      have t3 : (z : Int).tdiv 256 = (q : Int) := by rw [Int.tdiv_eq_ediv_of_nonneg (by omega)]; omega
      have t4 : (z : Int) / 256 = (q : Int) := by omega
      have HZ := Lib.hid hz
      have HM := Lib.hid hm
      have HQ := Lib.hid hq
      have hcO : wA.cell? ⟨w.heap.size, k, none⟩ = some (.int .i64 0) := by
        rw [hown.out.cellAt k (by omega), fillC, List.getElem?_append_right (by rw [ic_length, M.dg_length]; omega), ic_length, M.dg_length, Nat.sub_self, List.getElem?_replicate, if_pos (by omega)]
      have hfO : wA.frozen? ⟨w.heap.size, k, none⟩ = false := hown.out.frozenAt k
      have HNX : Hid ((M.gi a (k + 1) + M.gi b (k + 1)) / 256 ^ (k + 1) = q ∧ M.dg (M.gi a (k + 1) + M.gi b (k + 1)) (k + 1) = M.dg (M.gi a k + M.gi b k) k ++ [m]) := by
        have e : M.gi a (k + 1) + M.gi b (k + 1) = (M.gi a k + M.gi b k) + (x + y) * 256 ^ k := by
          rw [M.gi, M.gi, hx.out, hy.out, Nat.add_mul]; omega
        obtain ⟨h1, h2⟩ := M.add_step (M.gi a k + M.gi b k) (x + y) k
        rw [Hid, e, h1, h2, ← hc.out, hm, hq, hz, Nat.add_assoc]
        exact ⟨rfl, rfl⟩
      have fin : Hid ((wA.setCell ⟨w.heap.size, k, none⟩ (.int .i64 (m : Int))).ownsRow w.heap.size 3 1 (.slice (some ⟨w.heap.size, 0, none⟩) n n) n (fillC (M.dg (M.gi a (k + 1) + M.gi b (k + 1)) (k + 1)) (n - (k + 1)))) := by
        have h := (hown.out.stored k (.int .i64 (m : Int))).1
        rw [fillC, set_next _ _ _ k (n - k) (by rw [ic_length, M.dg_length]) (by omega)] at h
        rw [Hid, HNX.out.2, fillC, ic_append, Nat.sub_add_eq]
        exact h
      clear hm hq
      by_cases hka : k < la
      · obtain ⟨b1, o1, p1, e1, cx⟩ := HA.out.cell kk k (by have := HLA.out; omega)
        injection e1 with e1 e1' e1''
        subst e1
        rw [← hx.out] at cx
        by_cases hkb : k < lb
        · obtain ⟨b2, o2, p2, e2, cy⟩ := HB.out.cell kk k (by have := HLB.out; omega)
          injection e2 with e2 e2' e2''
          subst e2
          rw [← hy.out] at cy
          have hzi : (c : Int) + x + y = z := by omega
          clear hz e1' e1'' e2' e2''
          go_wp2
          go_roundw
          case rel => exact ⟨k + 1, by omega, by go_num, by rw [HNX.out.1], fin, below_set kk (Nat.le_refl _) _⟩
          case measure => simp [intOf]; omega
        · have hy0 : y = 0 := by rw [hy.out]; exact getD_none b k (by have := HLB.out; omega)
          have hzi : (c : Int) + x = z := by omega
          clear hz e1' e1''
          go_wp2
          go_roundw
          case rel => exact ⟨k + 1, by omega, by go_num, by rw [HNX.out.1], fin, below_set kk (Nat.le_refl _) _⟩
          case measure => simp [intOf]; omega
      · have hx0 : x = 0 := by rw [hx.out]; exact getD_none a k (by have := HLA.out; omega)
        by_cases hkb : k < lb
        · obtain ⟨b2, o2, p2, e2, cy⟩ := HB.out.cell kk k (by have := HLB.out; omega)
          injection e2 with e2 e2' e2''
          subst e2
          rw [← hy.out] at cy
          have hzi : (c : Int) + y = z := by omega
          clear hz e2' e2''
          go_wp2
          go_roundw
          case rel => exact ⟨k + 1, by omega, by go_num, by rw [HNX.out.1], fin, below_set kk (Nat.le_refl _) _⟩
          case measure => simp [intOf]; omega
        · have hy0 : y = 0 := by rw [hy.out]; exact getD_none b k (by have := HLB.out; omega)
          have hzi : z = c := by omega
          subst hzi
          clear hz
          go_wp2
          go_roundw
          case rel => exact ⟨k + 1, by omega, by go_num, by rw [HNX.out.1], fin, below_set kk (Nat.le_refl _) _⟩
          case measure => simp [intOf]; omega
    · obtain rfl : k = n := by omega
      go_wp2
      go_ret
      refine ⟨_, rfl, ?_, kk⟩
      have h := hown.out
      rw [fillC, Nat.sub_self, List.replicate_zero, List.append_nil] at h
      rw [OwnI, M.dg_length]
      exact h

theorem rprime_any (w : World) : Calls Try.prog 28 #[] w (MakesI w (M.dg M.P 17)) := by
  obtain ⟨i0, hi, hz0, hz1, hz2⟩ := info_parts Try.info47
  go_enter Try.func28, Try.ntmps28
  go_wp2_with (at_make; go_must (refine wpList_make_full _ rfl _ _ 47 rfl w.heap.size 3 i0 (.int .i64 0) 1 Try.underlying47 hi hz0 hz1 .i64 .i64 17 17 17 rfl rfl rfl rfl (by rw [hz2]; omega) (by unfold maxLen; omega) (Nat.le_refl _) ?_))
  intro w1 hown hgrow
  have hb1 : Below w.heap.size w w1 := (Below.refl _ _).grown hgrow (Nat.le_refl _) (by intro k hk; cases hk)
  have HO : Hid (w1.ownsRow w.heap.size 3 1 (.slice (some ⟨w.heap.size, 0, none⟩) 17 17) 17 (fillC (List.replicate 0 255) (17 - 0))) := by
    have e : fillC (List.replicate 0 255) (17 - 0) = (madeCells #[Value.int IntKind.i64 0] 17).toList := by
      simp [fillC, ic, toList_madeCells_one]
    rw [Hid, e]
    exact hown
  clear hown hgrow hi hz0 hz1 hz2
  go_wp2
  go_loopw [2] (fun i wr => ∃ k : Nat, k ≤ 16 ∧ i = .int .i64 k ∧ Hid (wr.ownsRow w.heap.size 3 1 (.slice (some ⟨w.heap.size, 0, none⟩) 17 17) 17 (fillC (List.replicate k 255) (17 - k))) ∧ Below w.heap.size w wr)
    (fun i _ => 16 - (intOf i).toNat)
  case atStart => exact ⟨0, Nat.zero_le _, rfl, HO, hb1⟩
  case round =>
    clear HO hb1
    obtain ⟨wA, rfl⟩ : ∃ x, x = wr := ⟨_, rfl⟩
    obtain ⟨k, hk, rfl, hown, kk⟩ := hrel
    by_cases hlt : k < 16
    · have hcO : wA.cell? ⟨w.heap.size, k, none⟩ = some (.int .i64 0) := by
        rw [hown.out.cellAt k (by omega), fillC, List.getElem?_append_right (by rw [ic_length, List.length_replicate]; omega), ic_length, List.length_replicate, Nat.sub_self, List.getElem?_replicate, if_pos (by omega)]
      have hfO : wA.frozen? ⟨w.heap.size, k, none⟩ = false := hown.out.frozenAt k
      have fin : Hid ((wA.setCell ⟨w.heap.size, k, none⟩ (.int .i64 255)).ownsRow w.heap.size 3 1 (.slice (some ⟨w.heap.size, 0, none⟩) 17 17) 17 (fillC (List.replicate (k + 1) 255) (17 - (k + 1)))) := by
        have h := (hown.out.stored k (.int .i64 255)).1
        rw [fillC, set_next _ _ _ k (17 - k) (by rw [ic_length, List.length_replicate]) (by omega)] at h
        rw [Hid, List.replicate_succ', fillC, ic_append, Nat.sub_add_eq]
        exact h
      go_wp2
      go_roundw
      case rel => exact ⟨k + 1, by omega, by go_num, fin, below_set kk (Nat.le_refl _) _⟩
      case measure => simp [intOf]; omega
    · obtain rfl : k = 16 := by omega
      have c0 : wA.cell? ⟨w.heap.size, 0, none⟩ = some (.int .i64 255) := by rw [hown.out.cellAt 0 (by omega)]; rfl
      have c16 : wA.cell? ⟨w.heap.size, 16, none⟩ = some (.int .i64 0) := by rw [hown.out.cellAt 16 (by omega)]; rfl
      have f0 : wA.frozen? ⟨w.heap.size, 0, none⟩ = false := hown.out.frozenAt 0
      have f16 : wA.frozen? ⟨w.heap.size, 16, none⟩ = false := hown.out.frozenAt 16
      have h2 : Hid (((wA.setCell ⟨w.heap.size, 0, none⟩ (.int .i64 251)).setCell ⟨w.heap.size, 16, none⟩ (.int .i64 3)).ownsRow w.heap.size 3 1 (.slice (some ⟨w.heap.size, 0, none⟩) 17 17) 17 (ic (M.dg M.P 17))) := by
        have h := ((hown.out.stored 0 (.int .i64 251)).1.stored 16 (.int .i64 3)).1
        have e : ((fillC (List.replicate 16 255) (17 - 16)).set 0 (.int .i64 251)).set 16 (.int .i64 3) = ic (M.dg M.P 17) := by
          rw [show M.dg M.P 17 = [251, 255, 255, 255, 255, 255, 255, 255, 255, 255, 255, 255, 255, 255, 255, 255, 3] from by decide]
          rfl
        rw [e] at h
        exact h
      go_wp2
      go_ret
      exact ⟨_, rfl, h2.out, below_set (below_set kk (Nat.le_refl _) _) (Nat.le_refl _) _⟩

end Go.Proofs.Ytbjmkgbjpcepaaa
