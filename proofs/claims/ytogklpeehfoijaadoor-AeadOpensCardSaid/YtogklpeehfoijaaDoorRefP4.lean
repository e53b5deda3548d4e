/-
  CONTRACT OF orlopref05.rest: what is left by 2^130 - 5. Conditions: a number of 36 digits, below 2^256.
-/
import Derived.Test.YtogklpeehfoijaaDoorRefP3
namespace Go.Proofs.YtogklpeehfoijaaDoor
open Go.RowKit
set_option linter.unusedVariables false

/-- A row of ints of a known length: where it lies. -/
theorem IsI.at2 {w : World} {v : Value} {ws : List Nat} (h : IsI w v ws) (n : Nat) (hn : ws.length = n) (hne : 0 < n) :
    ∃ b off cap, v = .slice (some ⟨b, off, none⟩) n cap ∧ n ≤ cap ∧ ∀ i, i < n → w.cell? ⟨b, off + i, none⟩ = some (.int .i64 ((ws.getD i 0 : Nat) : Int)) := by
  subst hn
  obtain ⟨ao, cap, rfl, h1, h2, h3⟩ := h
  rcases h3 with h | ⟨b, off, rfl, h⟩
  · subst h; simp at hne
  · exact ⟨b, off, cap, rfl, h1, h⟩

theorem OwnI.keeps {w w' : World} {B g : Nat} {v : Value} {ws : List Nat} (h : OwnI w B v ws) (k : w.grownBy w' (some g)) (hg : g < B) : OwnI w' B v ws := by
  refine ⟨h.1, ?_⟩
  rcases h.2 with hn | ⟨g', cap, cur, rfl, hb, hg', rest⟩
  · exact .inl hn
  · refine .inr ⟨g', cap, cur, rfl, hb, ?_, rest⟩
    rw [k.block g' (Array.getElem?_eq_some_iff.1 hg').1 (by intro e; injection e with e; omega)]
    exact hg'

theorem OwnI.shape2 {w : World} {B : Nat} {v : Value} {ws : List Nat} (h : OwnI w B v ws) (n : Nat) (hn : ws.length = n) (hne : 0 < n) : ∃ g cap, v = .slice (some ⟨g, 0, none⟩) n cap ∧ B ≤ g := by
  subst hn
  rcases h.2 with ⟨_, hn⟩ | ⟨g, cap, cur, rfl, hb, _⟩
  · omega
  · exact ⟨g, cap, rfl, hb⟩

/-- A new block of one int is as it was behind an append onto another row. -/
theorem isI_one_grown {w w' : World} {B g8 x : Nat} {v : Value} {ws : List Nat} (h : IsI w (.slice (some ⟨g8, 0, none⟩) 1 1) [x]) (o : OwnI w B v ws) (g : w.grownBy w' v.ownBlock) (hne : v.ownBlock ≠ some g8) : IsI w' (.slice (some ⟨g8, 0, none⟩) 1 1) [x] := by
  obtain ⟨ao, cap, e, h1, h2, h3⟩ := h
  injection e with e1 e2 e3
  subst e1 e3
  refine ⟨_, 1, rfl, h1, h2, ?_⟩
  rcases h3 with h3 | ⟨b, off, h4, hc⟩
  · cases h3
  · injection h4 with h4
    injection h4 with h4 h5
    subst h4 h5
    refine .inr ⟨g8, 0, rfl, fun i hi => ?_⟩
    exact g.cell (hc i hi) (fun e => hne e.symm)

/-- The sum of one round. -/
theorem rd_sum (R H : Nat) (hH : H = R / 2 ^ 130) (hR : R < 2 ^ 256) : M.gi (M.dg (R % 2 ^ 130) 17) 36 + M.gi (M.dg (M.gi (M.dg H 17) 17 * M.gi [5] 1) 20) 36 = M.rd R := by
  have hHb : H < 2 ^ 126 := by
    rw [hH]
    exact Nat.div_lt_of_lt_mul (by rw [← Nat.pow_add]; exact hR)
  have e1 : (2 : Nat) ^ 126 < 256 ^ 17 := by decide
  have e2 : 5 * (2 : Nat) ^ 126 < 256 ^ 20 := by decide
  have e3 : (2 : Nat) ^ 130 < 256 ^ 17 := by decide
  have h1 : R % 2 ^ 130 < 2 ^ 130 := Nat.mod_lt _ (by decide)
  rw [M.gi_dg_all _ 17 36 (by decide), M.gi_dg_all _ 20 36 (by decide), M.gi_dg_all H 17 17 (by decide), Nat.mod_eq_of_lt (show R % 2 ^ 130 < 256 ^ 17 by omega), Nat.mod_eq_of_lt (show H < 256 ^ 17 by omega), show M.gi [5] 1 = 5 from rfl, Nat.mod_eq_of_lt (show H * 5 < 256 ^ 20 by omega), M.rd, hH, Nat.mul_comm]

theorem dg_five : M.dg 5 1 = [5] := by decide

set_option maxRecDepth 100000 in
set_option maxHeartbeats 8000000 in
theorem rrest_any (av : Value) (A : Nat) (w : World) (ha : IsI w av (M.dg A 36)) (hA : A < 2 ^ 256) :
    Calls Tryd.prog 29 #[av] w (MakesI w (M.dg (A % M.P) 17)) := by
  obtain ⟨hr4, hrk⟩ := M.rdn_four A hA
  have HR4 := Lib.hid hr4
  have HRK := Lib.hid hrk
  have HI0 : Hid (IsI w av (M.dg (M.rdn A 0) 36)) := ha
  obtain ⟨i0, hi, hz0, hz1, hz2⟩ := info_parts Tryd.info47
  have HMK : ∀ w', Hid (∀ ops rest (o : Oper) a (Q : Exit → Act → World → Prop), o.guard = none → o.op = .makeSlice 49 (.const (.int .i64 20)) (.const (.int .i64 20)) →
      (∀ w1, w1.ownsRow w'.heap.size 3 1 (.slice (some ⟨w'.heap.size, 0, none⟩) 20 20) 20 (fillC (M.dg 0 0) 20) → w'.grownBy w1 none → wpList Tryd.prog ops Q rest (a.put o.dst (.slice (some ⟨w'.heap.size, 0, none⟩) 20 20)) w1) → wpList Tryd.prog ops Q (o :: rest) a w') := by
    intro w' ops rest o a Q hg ho hK
    refine wpList_make_full w' hg _ _ 49 ho w'.heap.size 3 i0 (.int .i64 0) 1 Tryd.underlying49 hi hz0 hz1 .i64 .i64 20 20 20 rfl rfl rfl rfl (by rw [hz2]; omega) (by unfold maxLen; omega) (Nat.le_refl _) ?_
    intro w1 hown hgrow
    refine hK w1 ?_ hgrow
    have e : fillC (M.dg 0 0) 20 = (madeCells #[Value.int IntKind.i64 0] 20).toList := by
      simp [fillC, M.dg, ic, toList_madeCells_one]
    rw [e]
    exact hown
  clear ha hA hr4 hrk hi hz0 hz1 hz2
  go_enter Tryd.func29, Tryd.ntmps29
  go_wp2
  go_loopw [0, 3] (fun v r wr => ∃ k : Nat, k ≤ 4 ∧ r = .int .i64 k ∧ Hid (IsI wr v (M.dg (M.rdn A k) 36)) ∧ Below w.heap.size w wr)
    (fun _ r _ => 4 - (intOf r).toNat)
  case atStart => exact ⟨0, by omega, rfl, HI0, Below.refl _ _⟩
  case round =>
    clear HI0
    obtain ⟨wA, rfl⟩ : ∃ x, x = wr := ⟨_, rfl⟩
    obtain ⟨k, hk, rfl, hi, kk⟩ := hrel
    obtain ⟨R, hR⟩ : ∃ R, Hid (R = M.rdn A k) := ⟨_, rfl⟩
    rw [← hR.out] at hi
    obtain ⟨b, o, cap, rfl, hcap, hcc⟩ := hi.out.at2 36 (M.dg_length R 36) (by decide)
    have HC : Hid (∀ w', Below wA.heap.size wA w' → ∀ j, j < 36 → w'.cell? ⟨b, o + j, none⟩ = some (.int .i64 ((R / 256 ^ j % 256 : Nat) : Int))) := fun w' kw j hj => by
      have h := hcc j hj
      rw [kw.cell (by exact World.block_lt_of_cell? wA _ h), h, M.dg_get R 36 j hj]
    clear hcc
    by_cases hlt : k < 4
    · have HRB : Hid (R < 2 ^ 256) := by rw [Hid, hR.out]; exact HRK.out k hlt
      obtain ⟨H, hH⟩ : ∃ H, Hid (H = R / 2 ^ 130) := ⟨R / 2 ^ 130, rfl⟩
      have hmk := HMK wA
      go_wp2_with (at_make; go_must (refine hmk.out _ _ _ _ _ rfl rfl ?_))
      intro w1 hown hgrow
      have kA1 : Below wA.heap.size wA w1 := (Below.refl _ _).grown hgrow (Nat.le_refl _) (by intro k hk; cases hk)
      have HO : Hid (w1.ownsRow wA.heap.size 3 1 (.slice (some ⟨wA.heap.size, 0, none⟩) 20 20) 20 (fillC (M.dg H 0) (20 - 0))) := hown
      clear hown hgrow hmk
      go_wp2
      go_loopw [5] (fun iv wr => ∃ i : Nat, i ≤ 20 ∧ iv = .int .i64 i ∧ Hid (wr.ownsRow wA.heap.size 3 1 (.slice (some ⟨wA.heap.size, 0, none⟩) 20 20) 20 (fillC (M.dg H i) (20 - i))) ∧ Below wA.heap.size wA wr)
        (fun iv _ => 20 - (intOf iv).toNat)
      case atStart => exact ⟨0, by omega, rfl, HO, kA1⟩
      case round =>
        clear HO kA1
        obtain ⟨wz, rfl⟩ : ∃ x, x = wr := ⟨_, rfl⟩
        obtain ⟨i, hi20, rfl, hown, kz⟩ := hrel
        by_cases hlt2 : i < 20
        · obtain ⟨x, hx⟩ : ∃ x, x = R / 256 ^ (16 + i) % 256 := ⟨_, rfl⟩
          have hxb : x < 256 := by omega
          obtain ⟨x4, hx4⟩ : ∃ y, y = x / 4 := ⟨_, rfl⟩
          have cx : wz.cell? ⟨b, o + (16 + i), none⟩ = some (.int .i64 (x : Int)) := by rw [hx]; exact HC.out wz kz (16 + i) (by omega)
          have hcO : wz.cell? ⟨wA.heap.size, i, none⟩ = some (.int .i64 0) := by
            rw [hown.out.cellAt i (by omega), fillC, List.getElem?_append_right (by rw [ic_length, M.dg_length]; omega), ic_length, M.dg_length, Nat.sub_self, List.getElem?_replicate, if_pos (by omega)]
          have hfO : wz.frozen? ⟨wA.heap.size, i, none⟩ = false := hown.out.frozenAt i
          obtain ⟨p, hp⟩ : ∃ p, p = 16 + i := ⟨_, rfl⟩
          have hpi : (16 : Int) + i = p := by omega
          have hp36 : p < 36 := by omega
          have t1 : (x : Int).tdiv 4 = (x4 : Int) := by rw [Int.tdiv_eq_ediv_of_nonneg (by omega)]; omega
          have t2 : (x : Int) / 4 = (x4 : Int) := by omega
          have HX := Lib.hid hx
          have HX4 := Lib.hid hx4
          rw [← hp] at cx
          have HP := Lib.hid hp
          have HI20 := Lib.hid hlt2
          have hi36 : (i : Int) < 20 := by omega
          have hpI : (p : Int) < 36 := by omega
          clear hx hx4 hp
          by_cases h19 : i < 19
          · obtain ⟨y, hy⟩ : ∃ y, y = R / 256 ^ (17 + i) % 256 := ⟨_, rfl⟩
            obtain ⟨y4, hy4⟩ : ∃ z, z = y % 4 := ⟨_, rfl⟩
            obtain ⟨y64, hy64⟩ : ∃ z, z = y4 * 64 := ⟨_, rfl⟩
            obtain ⟨z, hz⟩ : ∃ z, z = x4 + y64 := ⟨_, rfl⟩
            obtain ⟨p2, hp2⟩ : ∃ p, p = 17 + i := ⟨_, rfl⟩
            have hyb : y < 256 := by omega
            have hy4b : y4 < 4 := by omega
            have hx4b : x4 < 64 := by have := HX4.out; omega
            have hp2i : (17 : Int) + i = p2 := by omega
            have hp2w : IntKind.i64.wrap ((17 : Int) + i) = p2 := by rw [hp2i]; exact IntWalk.i64_in _ (by omega)
            have hp236 : p2 < 36 := by omega
            have hp2I : (p2 : Int) < 36 := by omega
            have t3 : (y : Int).tmod 4 = (y4 : Int) := by rw [Int.tmod_eq_emod_of_nonneg (by omega)]; omega
            have t4 : (y : Int) % 4 = (y4 : Int) := by omega
            have t5 : (y4 : Int) * 64 = y64 := by omega
            have t5w : IntKind.i64.wrap ((y4 : Int) * 64) = y64 := by rw [t5]; exact IntWalk.i64_in _ (by omega)
            have t6 : (x4 : Int) + y64 = z := by omega
            have t6w : IntKind.i64.wrap ((x4 : Int) + y64) = z := by rw [t6]; exact IntWalk.i64_in _ (by omega)
            have hpw : IntKind.i64.wrap (p2 : Int) = p2 := IntWalk.i64_in _ (by omega)
            have hyw : IntKind.i64.wrap (y64 : Int) = y64 := IntWalk.i64_in _ (by omega)
            have hzw : IntKind.i64.wrap (z : Int) = z := IntWalk.i64_in _ (by omega)
            have cy : wz.cell? ⟨b, o + p2, none⟩ = some (.int .i64 (y : Int)) := by rw [hy, hp2]; exact HC.out wz kz (17 + i) (by omega)
            have HZV : Hid (z = H / 256 ^ i % 256) := by
              rw [Hid, hH.out, ← M.high_get R i, ← HX.out, ← hy, hz, hy64, hy4, HX4.out]
            have fin : Hid (((wz.setCell ⟨wA.heap.size, i, none⟩ (.int .i64 (x4 : Int))).setCell ⟨wA.heap.size, i, none⟩ (.int .i64 (z : Int))).ownsRow wA.heap.size 3 1 (.slice (some ⟨wA.heap.size, 0, none⟩) 20 20) 20 (fillC (M.dg H (i + 1)) (20 - (i + 1)))) := by
              have h := ((hown.out.stored i (.int .i64 (x4 : Int))).1.stored i (.int .i64 (z : Int))).1
              rw [List.set_set, fillC, set_next _ _ _ i (20 - i) (by rw [ic_length, M.dg_length]) (by omega)] at h
              rw [Hid, M.dg, ← HZV.out, fillC, ic_append, Nat.sub_add_eq]
              exact h
            obtain ⟨wB, hwB⟩ : ∃ x, Hid (x = wz.setCell ⟨wA.heap.size, i, none⟩ (.int .i64 (x4 : Int))) := ⟨_, rfl⟩
            have kB : Below wA.heap.size wA wB := by rw [hwB.out]; exact below_set kz (Nat.le_refl _) _
            have c1 : wB.cell? ⟨wA.heap.size, i, none⟩ = some (.int .i64 (x4 : Int)) := by
              rw [hwB.out, (hown.out.stored i (.int .i64 (x4 : Int))).1.cellAt i (by omega)]
              rw [List.getElem?_set_self]
              rw [fillC_length, M.dg_length]; omega
            have f1 : wB.frozen? ⟨wA.heap.size, i, none⟩ = false := by rw [hwB.out]; exact (hown.out.stored i (.int .i64 (x4 : Int))).1.frozenAt i
            have cy2 : wB.cell? ⟨b, o + p2, none⟩ = some (.int .i64 (y : Int)) := by rw [hy, hp2]; exact HC.out wB kB (17 + i) (by omega)
            rw [← hwB.out] at fin
            have HY := Lib.hid hy
            clear hy hy4 hy64 hz hp2 cy
            go_upto_region 9 with fail
            rw [← hwB.out]
            clear cx hcO hfO hown kz
            go_wp2
            refine wp_region_still 15 (by kernel_rfl) (by kernel_rfl) ?_
            simp only [List.take_succ_cons, List.take_zero, List.drop_succ_cons, List.drop_zero]
            repeat still_step
            refine wpStill_nil ?_
            go_wp2
            go_roundw
            case rel => exact ⟨i + 1, by have := HI20.out; omega, by go_num, fin.out, drewN_below (below_set kB (Nat.le_refl _) _) 1⟩
            case measure => have := HI20.out; simp [intOf]; omega
          · obtain rfl : i = 19 := by omega
            obtain rfl : p = 35 := HP.out
            clear hpi
            have HZV : Hid (x4 = H / 256 ^ 19 % 256) := by
              have e0 : R / 256 ^ (17 + 19) = 0 := Nat.div_eq_of_lt (Nat.lt_of_lt_of_le HRB.out (by decide))
              rw [Hid, hH.out, ← M.high_get R 19, ← HX.out, e0, HX4.out]
              simp
            have fin : Hid ((wz.setCell ⟨wA.heap.size, 19, none⟩ (.int .i64 (x4 : Int))).ownsRow wA.heap.size 3 1 (.slice (some ⟨wA.heap.size, 0, none⟩) 20 20) 20 (fillC (M.dg H (19 + 1)) (20 - (19 + 1)))) := by
              have h := (hown.out.stored 19 (.int .i64 (x4 : Int))).1
              rw [fillC, set_next _ _ _ 19 (20 - 19) (by rw [ic_length, M.dg_length]) (by omega)] at h
              rw [Hid, M.dg, ← HZV.out, fillC, ic_append, Nat.sub_add_eq]
              exact h
            clear hown
            go_wp2
            go_roundw
            case rel => exact ⟨19 + 1, by omega, by go_num, fin, below_set kz (Nat.le_refl _) _⟩
            case measure => simp [intOf]
        · obtain rfl : i = 20 := by omega
          have HOH : Hid (OwnI wz wA.heap.size (.slice (some ⟨wA.heap.size, 0, none⟩) 20 20) (M.dg H 20)) := by
            have h := hown.out
            rw [fillC, Nat.sub_self, List.replicate_zero, List.append_nil] at h
            rw [Hid, OwnI, M.dg_length]
            exact h
          clear hown
          go_upto_region 11 with fail
          obtain ⟨x, hx⟩ : ∃ x, Hid (x = R / 256 ^ 16 % 256) := ⟨R / 256 ^ 16 % 256, rfl⟩
          obtain ⟨x4, hx4⟩ : ∃ x4, x4 = x % 4 := ⟨_, rfl⟩
          have hxb : x < 256 := by rw [hx.out]; omega
          have t1 : (x : Int).tmod 4 = (x4 : Int) := by rw [Int.tmod_eq_emod_of_nonneg (by omega)]; omega
          have t2 : (x : Int) % 4 = (x4 : Int) := by omega
          have HX4 := Lib.hid hx4
          have h16 : 16 ≤ cap := by omega
          have h16i : (16 : Int) ≤ (cap : Int) := by omega
          have HCX : Hid (∀ w', Below wA.heap.size wA w' → w'.cell? ⟨b, o + 16, none⟩ = some (.int .i64 (x : Int))) := fun w' kw => by rw [hx.out]; exact HC.out w' kw 16 (by decide)
          have HIA : Hid (∀ w', Below wA.heap.size wA w' → IsI w' (.slice (some ⟨b, o, none⟩) 16 cap) (M.dg R 16)) := fun w' kw => by
            have h := isI_front (hi.out.below kw) 16 (by rw [M.dg_length]; decide)
            rwa [M.dg_take R 36 16 (by decide)] at h
          clear hx4
          refine wp_region_any (by kernel_rfl) ?_
          change wpAny _ _ _ _ _ _ _ (World.drew _)
          refine wpAny_of_held (S := fun w' => w'.cell? ⟨b, o + 16, none⟩ = some (.int .i64 (x : Int))) _ _ _ _ ?_
          have kd : Below wA.heap.size wA wz.drew := drewN_below kz 1
          have S0 := HCX.out _ kd
          refine wpAnyH_take_at (i := 1) (v := .slice (some ⟨b, o, none⟩) 36 cap) rfl rfl (by kernel_rfl) (by kernel_rfl) (by kernel_rfl) (fun _ _ _ h => h) (Or.inl ⟨by rfl, fun w _ => ?y1⟩) S0 ?r1
          case y1 => go_simp
          simp only [List.setIfInBounds_toArray, List.set_cons_zero, List.set_cons_succ]
          refine wpAnyH_take_at (i := 2) (v := .slice (some ⟨b, o, none⟩) 16 cap) rfl rfl (by kernel_rfl) (by kernel_rfl) (by kernel_rfl) (fun _ _ _ h => h) (Or.inl ⟨by rfl, fun w _ => ?y2⟩) S0 ?r2
          case y2 => go_simp
          simp only [List.setIfInBounds_toArray, List.set_cons_zero, List.set_cons_succ]
          refine wpAnyH_take_at (i := 4) (v := .slice (some ⟨b, o, none⟩) 36 cap) rfl rfl (by kernel_rfl) (by kernel_rfl) (by kernel_rfl) (fun _ _ _ h => h) (Or.inl ⟨by rfl, fun w _ => ?y4⟩) S0 ?r4
          case y4 => go_simp
          simp only [List.setIfInBounds_toArray, List.set_cons_zero, List.set_cons_succ]
          refine wpAnyH_take_at (i := 5) (v := .pointer (some ⟨b, o + 16, none⟩)) rfl rfl (by kernel_rfl) (by kernel_rfl) (by kernel_rfl) (fun _ _ _ h => h) (Or.inl ⟨by rfl, fun w _ => ?y5⟩) S0 ?r5
          case y5 => go_simp
          simp only [List.setIfInBounds_toArray, List.set_cons_zero, List.set_cons_succ]
          refine wpAnyH_take_at (i := 6) (v := .int .i64 (x : Int)) rfl rfl (by kernel_rfl) (by kernel_rfl) (by kernel_rfl) (fun _ _ _ h => h) (Or.inl ⟨by rfl, fun w hS => ?y6⟩) S0 ?r6
          case y6 => go_simp
          simp only [List.setIfInBounds_toArray, List.set_cons_zero, List.set_cons_succ]
          refine wpAnyH_take_at (i := 7) (v := .int .i64 (x4 : Int)) rfl rfl (by kernel_rfl) (by kernel_rfl) (by kernel_rfl) (fun _ _ _ h => h) (Or.inl ⟨by rfl, fun w _ => ?y7⟩) S0 ?r7
          case y7 => go_simp
          simp only [List.setIfInBounds_toArray, List.set_cons_zero, List.set_cons_succ]
          refine wpAnyH_ready (rs := [0, 8]) (by kernel_rfl) (by simp) ?_
          have HKZ : Hid (∀ w', Below wz.heap.size wz w' → Below wA.heap.size wA w') := fun w' k => kz.trans (k.mono kz.size)
          have HIZ : Hid (∀ w', Below wz.heap.size wz w' → IsI w' (.slice (some ⟨b, o, none⟩) 16 cap) (M.dg R 16)) := fun w' k => HIA.out w' (HKZ.out w' k)
          have HCZ : Hid (∀ w', Below wz.heap.size wz w' → w'.cell? ⟨b, o + 16, none⟩ = some (.int .i64 (x : Int))) := fun w' k => HCX.out w' (HKZ.out w' k)
          have hl16 : (M.dg R 16).length = 16 := M.dg_length _ _
          have HL16 := Lib.hid hl16
          clear hl16 S0 kd
          refine AllReadyH.cons rfl (fun K hK => ?_) (AllReadyH.cons rfl (fun K hK => ?_) AllReadyH.nil)
          go_simp
          have oa : OwnI (wz.alloc (.cells #[] 3)).drew wz.heap.size (.slice (some ⟨wz.heap.size, 0, none⟩) 0 0) [] := ownI_empty wz _ (Nat.le_refl _)
          have ka : Below wz.heap.size wz (wz.alloc (.cells #[] 3)).drew := drewN_below ((Below.refl _ _).alloc (Nat.le_refl _) _) 1
          obtain ⟨wa, hwa⟩ : ∃ W, Hid (W = (wz.alloc (.cells #[] 3)).drew) := ⟨_, rfl⟩
          rw [← hwa.out] at oa ka ⊢
          refine hK.out _ _ (HCZ.out _ ka) (fun _ => ?_)
          clear hK K
          refine wpAnyH_ready (rs := [3, 8]) (by kernel_rfl) (by simp) ?_
          refine AllReadyH.cons rfl (fun K hK => ?_) (AllReadyH.cons rfl (fun K hK => ?_) AllReadyH.nil)
          refine step_appIs rfl (.tmp 54) (.tmp 56) rfl wz.heap.size _ [] rfl oa ⟨b, o, none⟩ 16 cap (M.dg R 16) rfl (HIZ.out _ ka) HL16.out.symm (by rw [HL16.out]; decide) ka.size ?_
          intro v3 w3 o3 g3
          have k3 : Below wz.heap.size wz w3 := ka.trans ((Below.refl _ _).grown g3 ka.size (fun k hk => (World.ownsRow.lt oa k hk).1))
          refine hK.out _ _ (HCZ.out _ k3) (fun _ => ?_)
          clear hK K
          refine wpAnyH_ready (rs := [8]) (by kernel_rfl) (by simp) ?_
          refine AllReadyH.cons rfl (fun K hK => ?_) AllReadyH.nil
          go_simp
          have i9 := isI_one w3 w3.heap.size x4 rfl
          have k9 : Below wz.heap.size wz (w3.alloc (.cells #[.int .i64 (x4 : Int)] 3)) := k3.alloc k3.size _
          have o9 : OwnI (w3.alloc (.cells #[.int .i64 (x4 : Int)] 3)) wz.heap.size v3 (M.dg R 16) := o3.below ((Below.refl _ _).alloc (Nat.le_refl _) _)
          obtain ⟨g8, hg8⟩ : ∃ g, g = w3.heap.size := ⟨_, rfl⟩
          rw [← hg8] at i9 ⊢
          obtain ⟨w9, hw9⟩ : ∃ W, Hid (W = w3.alloc (.cells #[.int .i64 (x4 : Int)] 3)) := ⟨_, rfl⟩
          rw [← hw9.out] at i9 k9 o9 ⊢
          refine hK.out _ _ (HCZ.out _ k9) (fun _ => ?_)
          clear hK K hg8
          rotate_left
          go_simp
          have i4 := isI_one wa wa.heap.size x4 rfl
          have k4 : Below wz.heap.size wz (wa.alloc (.cells #[.int .i64 (x4 : Int)] 3)) := ka.alloc ka.size _
          have o4 : OwnI (wa.alloc (.cells #[.int .i64 (x4 : Int)] 3)) wz.heap.size (.slice (some ⟨wz.heap.size, 0, none⟩) 0 0) [] := oa.below ((Below.refl _ _).alloc (Nat.le_refl _) _)
          obtain ⟨g8, hg8⟩ : ∃ g, g = wa.heap.size := ⟨_, rfl⟩
          have hne : wz.heap.size < g8 := by rw [hg8, hwa.out]; simp [World.drew]
          rw [← hg8] at i4 ⊢
          obtain ⟨w4, hw4⟩ : ∃ W, Hid (W = wa.alloc (.cells #[.int .i64 (x4 : Int)] 3)) := ⟨_, rfl⟩
          rw [← hw4.out] at i4 k4 o4 ⊢
          refine hK.out _ _ (HCZ.out _ k4) (fun _ => ?_)
          clear hK K hg8
          refine wpAnyH_ready (rs := [3]) (by kernel_rfl) (by simp) ?_
          refine AllReadyH.cons rfl (fun K hK => ?_) AllReadyH.nil
          refine step_appIs rfl (.tmp 54) (.tmp 56) rfl wz.heap.size _ [] rfl o4 ⟨b, o, none⟩ 16 cap (M.dg R 16) rfl (HIZ.out _ k4) HL16.out.symm (by rw [HL16.out]; decide) k4.size ?_
          intro v3 w9 o9 g9
          have k9 : Below wz.heap.size wz w9 := k4.trans ((Below.refl _ _).grown g9 k4.size (fun k hk => (World.ownsRow.lt o4 k hk).1))
          have i9 := isI_one_grown i4 o4 g9 (by simp [Value.ownBlock]; omega)
          refine hK.out _ _ (HCZ.out _ k9) (fun _ => ?_)
          clear hK K
          rotate_left
          go_simp
          have i1 : IsI (wz.alloc (.cells #[.int .i64 (x4 : Int)] 3)).drew (.slice (some ⟨wz.heap.size, 0, none⟩) 1 1) [x4] := isI_one wz wz.heap.size x4 rfl
          have k1 : Below wz.heap.size wz (wz.alloc (.cells #[.int .i64 (x4 : Int)] 3)).drew := drewN_below ((Below.refl _ _).alloc (Nat.le_refl _) _) 1
          obtain ⟨g8, hg8⟩ : ∃ g, g = wz.heap.size := ⟨_, rfl⟩
          obtain ⟨wb, hwb⟩ : ∃ W, Hid (W = (wz.alloc (.cells #[.int .i64 (x4 : Int)] 3)).drew) := ⟨_, rfl⟩
          have hsb : g8 < wb.heap.size := by rw [hwb.out, hg8]; simp [World.drew]
          have HG8 := Lib.hid hg8
          rw [← hwb.out] at i1 k1 ⊢
          rw [← hg8] at i1 ⊢
          clear hg8
          refine hK.out _ _ (HCZ.out _ k1) (fun _ => ?_)
          clear hK K
          refine wpAnyH_ready (rs := [0]) (by kernel_rfl) (by simp) ?_
          refine AllReadyH.cons rfl (fun K hK => ?_) AllReadyH.nil
          go_simp
          have o4 : OwnI (wb.alloc (.cells #[] 3)) wz.heap.size (.slice (some ⟨wb.heap.size, 0, none⟩) 0 0) [] := ownI_empty wb _ k1.size
          have k4 : Below wz.heap.size wz (wb.alloc (.cells #[] 3)) := k1.alloc k1.size _
          have i4 : IsI (wb.alloc (.cells #[] 3)) (.slice (some ⟨g8, 0, none⟩) 1 1) [x4] := i1.below ((Below.refl _ _).alloc (Nat.le_refl _) _)
          obtain ⟨g7, hg7⟩ : ∃ g, g = wb.heap.size := ⟨_, rfl⟩
          rw [← hg7] at o4 hsb ⊢
          obtain ⟨w4, hw4⟩ : ∃ W, Hid (W = wb.alloc (.cells #[] 3)) := ⟨_, rfl⟩
          rw [← hw4.out] at o4 k4 i4 ⊢
          refine hK.out _ _ (HCZ.out _ k4) (fun _ => ?_)
          clear hK K hg7
          refine wpAnyH_ready (rs := [3]) (by kernel_rfl) (by simp) ?_
          refine AllReadyH.cons rfl (fun K hK => ?_) AllReadyH.nil
          refine step_appIs rfl (.tmp 54) (.tmp 56) rfl wz.heap.size _ [] rfl o4 ⟨b, o, none⟩ 16 cap (M.dg R 16) rfl (HIZ.out _ k4) HL16.out.symm (by rw [HL16.out]; decide) k4.size ?_
          intro v3 w9 o9 g9
          have k9 : Below wz.heap.size wz w9 := k4.trans ((Below.refl _ _).grown g9 k4.size (fun k hk => (World.ownsRow.lt o4 k hk).1))
          have i9 := isI_one_grown i4 o4 g9 (by simp [Value.ownBlock]; omega)
          refine hK.out _ _ (HCZ.out _ k9) (fun _ => ?_)
          clear hK K
          all_goals
            refine wpAnyH_ready (rs := [9]) (by kernel_rfl) (by simp) ?_
            refine AllReadyH.cons rfl (fun K hK => ?_) AllReadyH.nil
            refine step_appIs rfl (.tmp 57) (.tmp 62) rfl wz.heap.size v3 (M.dg R 16) rfl o9 ⟨g8, 0, none⟩ 1 1 [x4] rfl i9 rfl (by rw [HL16.out]; show 16 + 1 ≤ 1000000; decide) k9.size ?_
            intro v10 w10 o10 g10
            have k10 : Below wz.heap.size wz w10 := k9.trans ((Below.refl _ _).grown g10 k9.size (fun k hk => (World.ownsRow.lt o9 k hk).1))
            refine hK.out _ _ (HCZ.out _ k10) (fun _ => ?_)
            clear hK K
            refine wpAnyH_take_at (i := 10) (v := v10) rfl rfl (by kernel_rfl) (by kernel_rfl) (by kernel_rfl) (fun _ _ _ h => h) (Or.inl ⟨by rfl, fun w _ => by go_simp⟩) (HCZ.out _ k10) ?_
            try simp only [List.setIfInBounds_toArray, List.set_cons_zero, List.set_cons_succ]
            refine wpAnyH_done (by kernel_rfl) ?_ _
            have e16 : M.dg R 16 ++ [x4] = M.dg (R % 2 ^ 130) 17 := by rw [← M.low_row R, M.dg_take R 36 16 (by decide), HX4.out, hx.out]
            rw [e16] at o10
            have kA10 := HKZ.out _ k10
            have HT : Hid (Calls Tryd.prog 30 #[.slice (some ⟨wA.heap.size, 0, none⟩) 17 20, .slice (some ⟨w10.heap.size, 0, none⟩) 1 1] (w10.alloc (.cells #[.int .i64 5] 3)) (MakesI (w10.alloc (.cells #[.int .i64 5] 3)) (M.dg (M.gi (M.dg H 17) 17 * M.gi [5] 1) 36))) := by
              have ih : IsI (w10.alloc (.cells #[.int .i64 5] 3)) (.slice (some ⟨wA.heap.size, 0, none⟩) 17 20) (M.dg H 17) := by
                have h := isI_front ((HOH.out.below k10).isI.below ((Below.refl _ _).alloc (Nat.le_refl _) (.cells #[.int .i64 5] 3))) 17 (by rw [M.dg_length]; decide)
                rwa [M.dg_take H 20 17 (by decide)] at h
              have h5 : IsI (w10.alloc (.cells #[.int .i64 5] 3)) (.slice (some ⟨w10.heap.size, 0, none⟩) 1 1) [5] := isI_one w10 w10.heap.size 5 rfl
              have h := rtimes_any _ _ (M.dg H 17) [5] _ ih h5 (M.dg_dig _ _) (dg_five ▸ M.dg_dig 5 1) (by rw [M.dg_length]; decide)
              rw [M.dg_length] at h
              exact h
            have i10 : IsI w10 v10 (M.dg (R % 2 ^ 130) 17) := OwnI.isI o10
            have h17i : (17 : Int) ≤ 20 := by decide
            clear o10 g10 i9 o9 k9
            go_wp2_with fail
            refine HT.out.mono ?_
            rintro e w11 ⟨r11, rfl, o11, k11⟩
            obtain ⟨b11, q11, c11, rfl, hc11, _⟩ := (OwnI.isI o11).at2 36 (M.dg_length _ _) (by decide)
            have h20 : 20 ≤ c11 := by omega
            have h20i : (20 : Int) ≤ (c11 : Int) := by omega
            have k10a : Below w10.heap.size w10 (w10.alloc (.cells #[.int .i64 5] 3)) := (Below.refl _ _).alloc (Nat.le_refl _) _
            have HAD : Hid (Calls Tryd.prog 31 #[v10, .slice (some ⟨b11, q11, none⟩) 20 c11, .int .i64 36] w11 (MakesI w11 (M.dg (M.rd R) 36))) := by
              have i11 : IsI w11 (.slice (some ⟨b11, q11, none⟩) 20 c11) (M.dg (M.gi (M.dg H 17) 17 * M.gi [5] 1) 20) := by
                have h := isI_front (OwnI.isI o11) 20 (by rw [M.dg_length]; decide)
                rwa [M.dg_take _ 36 20 (by decide)] at h
              have h := radd_any v10 _ (M.dg (R % 2 ^ 130) 17) (M.dg (M.gi (M.dg H 17) 17 * M.gi [5] 1) 20) 36 w11 ((i10.below k10a).below k11) i11 (M.dg_dig _ _) (M.dg_dig _ _) (by decide)
              rw [rd_sum R H hH.out HRB.out] at h
              exact h
            have kA11 : Below wA.heap.size wA w11 := (kA10.trans (k10a.mono kA10.size)).trans (k11.mono (Nat.le_trans kA10.size k10a.size))
            clear o11 k11 k10a
            go_wp2_with fail
            refine HAD.out.mono ?_
            rintro e w12 ⟨r12, rfl, o12, k12⟩
            have kA12 : Below wA.heap.size wA w12 := kA11.trans (k12.mono kA11.size)
            have i12 : Hid (IsI w12 r12 (M.dg (M.rdn A (k + 1)) 36)) := by
              rw [Hid, M.rdn, ← hR.out]
              exact OwnI.isI o12
            have kw12 : Below w.heap.size w w12 := kk.trans (kA12.mono kk.size)
            clear o12 k12 kA12 i10
            go_wp2
            go_roundw
            case rel => exact ⟨k + 1, by omega, by go_num, i12, kw12⟩
            case measure => simp [intOf]; omega
    · obtain rfl : k = 4 := by omega
      have HRP : Hid (R < 2 ^ 130) := by rw [Hid, hR.out]; exact HR4.out
      have HMOD : Hid (R % M.P = A % M.P) := by rw [Hid, hR.out]; exact M.rdn_mod A 4
      have h17 : 17 ≤ cap := by omega
      have h17i : (17 : Int) ≤ (cap : Int) := by omega
      have kE : Below wA.heap.size wA (wA.alloc (.cells #[] 3)) := (Below.refl _ _).alloc (Nat.le_refl _) _
      have oE : OwnI (wA.alloc (.cells #[] 3)) w.heap.size (.slice (some ⟨wA.heap.size, 0, none⟩) 0 0) [] := ownI_empty wA _ kk.size
      have i17 : IsI (wA.alloc (.cells #[] 3)) (.slice (some ⟨b, o, none⟩) 17 cap) (M.dg R 17) := by
        have h := isI_front (hi.out.below kE) 17 (by rw [M.dg_length]; decide)
        rwa [M.dg_take R 36 17 (by decide)] at h
      have kwE : Below w.heap.size w (wA.alloc (.cells #[] 3)) := kk.alloc kk.size _
      go_wp2_with (refine wpList_appIs _ rfl (.tmp 71) (.tmp 73) rfl w.heap.size _ [] rfl oE ⟨b, o, none⟩ 17 cap (M.dg R 17) rfl i17 (M.dg_length R 17).symm (by rw [M.dg_length]; decide) kwE.size ?_; intro v1 w1 o1 g1)
      have k1 : Below w.heap.size w w1 := kwE.trans ((Below.refl _ _).grown g1 kwE.size (fun k hk => (World.ownsRow.lt oE k hk).1))
      refine (rprime_any _).mono ?_
      rintro e w2 ⟨r2, rfl, o2, k2⟩
      have o1' : OwnI w2 w.heap.size v1 (M.dg R 17) := OwnI.below o1 k2
      have HLS := Lib.hid (rless_any v1 r2 R M.P w2 (OwnI.isI o1') (OwnI.isI o2) (Nat.lt_trans HRP.out (by decide)) (by decide))
      have k12 : Below w.heap.size w w2 := k1.trans (k2.mono k1.size)
      clear o1 g1 k1 i17 oE kwE kE o2 k2
      go_wp2_with fail
      refine HLS.out.mono ?_
      rintro e w3 ⟨rfl, k3⟩
      have o3 : OwnI w3 w.heap.size v1 (M.dg R 17) := OwnI.below o1' k3
      have k13 : Below w.heap.size w w3 := k12.trans (k3.mono k12.size)
      clear o1' k3 k12
      by_cases hRP : R < M.P
      · rw [decide_eq_true hRP]
        have e : A % M.P = R := by rw [← HMOD.out, Nat.mod_eq_of_lt hRP]
        clear hRP
        go_wp2
        go_ret
        refine ⟨v1, rfl, by rw [e]; exact o3, k13⟩
      · rw [decide_eq_false hRP]
        have HNP := Lib.hid hRP
        clear hRP
        have HAD : Hid (Calls Tryd.prog 31 #[v1, .slice (some ⟨w3.heap.size, 0, none⟩) 1 1, .int .i64 17] (w3.alloc (.cells #[.int .i64 5] 3)) (MakesI (w3.alloc (.cells #[.int .i64 5] 3)) (M.dg (R + 5) 17))) := by
          have h5 : IsI (w3.alloc (.cells #[.int .i64 5] 3)) (.slice (some ⟨w3.heap.size, 0, none⟩) 1 1) [5] := isI_one w3 w3.heap.size 5 rfl
          have h := radd_any v1 _ (M.dg R 17) [5] 17 _ ((OwnI.isI o3).below ((Below.refl _ _).alloc (Nat.le_refl _) (.cells #[.int .i64 5] 3))) h5 (M.dg_dig _ _) (dg_five ▸ M.dg_dig 5 1) (by decide)
          rw [M.gi_dg_all R 17 17 (by decide), Nat.mod_eq_of_lt (Nat.lt_trans HRP.out (by decide)), M.gi_all [5] 17 (by decide), show M.gi [5] [5].length = 5 from rfl] at h
          exact h
        have k13a : Below w3.heap.size w3 (w3.alloc (.cells #[.int .i64 5] 3)) := (Below.refl _ _).alloc (Nat.le_refl _) _
        go_wp2_with fail
        refine HAD.out.mono ?_
        rintro e w4 ⟨r4, rfl, o4, k4⟩
        have k14 : Below w.heap.size w w4 := (k13.trans (k13a.mono k13.size)).trans (k4.mono (Nat.le_trans k13.size k13a.size))
        have o4' : OwnI w4 w.heap.size r4 (M.dg (R + 5) 17) := o4.mono (Nat.le_trans k13.size k13a.size)
        obtain ⟨g4, c4, rfl, hg4⟩ := OwnI.shape2 o4' 17 (M.dg_length _ _) (by decide)
        have o5 : w4.ownsRow w.heap.size 3 1 (.slice (some ⟨g4, 0, none⟩) 17 c4) 17 (ic (M.dg (R + 5) 17)) := by
          have h := o4'
          rw [OwnI, M.dg_length] at h
          exact h
        obtain ⟨x, hx⟩ : ∃ x, Hid (x = (R + 5) / 256 ^ 16 % 256) := ⟨(R + 5) / 256 ^ 16 % 256, rfl⟩
        obtain ⟨x4, hx4⟩ : ∃ x4, x4 = x % 4 := ⟨_, rfl⟩
        have hxb : x < 256 := by rw [hx.out]; omega
        have t1 : (x : Int).tmod 4 = (x4 : Int) := by rw [Int.tmod_eq_emod_of_nonneg (by omega)]; omega
        have t2 : (x : Int) % 4 = (x4 : Int) := by omega
        have c16 : w4.cell? ⟨g4, 16, none⟩ = some (.int .i64 (x : Int)) := by
          rw [o5.cellAt 16 (by omega), ic_get _ _ (by rw [M.dg_length]; decide), M.dg_get _ 17 16 (by decide), ← hx.out]
        have f16 : w4.frozen? ⟨g4, 16, none⟩ = false := o5.frozenAt 16
        have HX4 := Lib.hid hx4
        have fin : Hid ((w4.setCell ⟨g4, 16, none⟩ (.int .i64 (x4 : Int))).ownsRow w.heap.size 3 1 (.slice (some ⟨g4, 0, none⟩) 17 c4) 17 (ic (M.dg (A % M.P) 17))) := by
          have h := (o5.stored 16 (.int .i64 (x4 : Int))).1
          rw [show Value.int .i64 (x4 : Int) = ci x4 from rfl, ic_set, HX4.out, hx.out, M.set_row, M.last_ok R HRP.out HNP.out, HMOD.out] at h
          rw [Hid, HX4.out, hx.out]
          exact h
        clear hx4 o4 k4 o3 k13 k13a o4' o5
        go_wp2
        go_ret
        refine ⟨_, rfl, ?_, below_set k14 hg4 _⟩
        rw [OwnI, M.dg_length]
        exact fin.out

end Go.Proofs.YtogklpeehfoijaaDoor
