/-
  CONTRACTS OF orlopref07.Mul AND Invert. Conditions: the numbers are below 2^256.
-/
import Derived.Test.YteombilmndlhjaaRefAdd
namespace Go.Proofs.Yteombilmndlhjaa
open Go.RowKit
set_option linter.unusedVariables false

namespace M

theorem gi_set (l : List Nat) (p v : Nat) (hp : p < l.length) : ∀ n, p < n → gi (l.set p v) n + l.getD p 0 * 256 ^ p = gi l n + v * 256 ^ p := by
  intro n
  induction n with
  | zero => intro h; omega
  | succ n ih =>
    intro h
    by_cases e : p = n
    · subst e
      have e1 : gi (l.set p v) p = gi l p := gi_congr _ _ _ fun i hi => by
        simp only [List.getD_eq_getElem?_getD, List.getElem?_set]
        rw [if_neg (by omega)]
      have e2 : (l.set p v).getD p 0 = v := by simp [List.getD_eq_getElem?_getD, hp]
      rw [gi, gi, e1, e2]
      omega
    · have e2 : (l.set p v).getD n 0 = l.getD n 0 := by
        simp only [List.getD_eq_getElem?_getD, List.getElem?_set]
        rw [if_neg e]
      have := ih (by omega)
      rw [gi, gi, e2]
      omega

/-- A product's row on its way: i digits of x done, and of the next one k of y's. -/
structure Mu (x y i k : Nat) (l : List Nat) : Prop where
  len : l.length = 63
  sum : gi l 63 = x % 256 ^ i * y + x / 256 ^ i % 256 * (y % 256 ^ k) * 256 ^ i
  le : ∀ j, l.getD j 0 ≤ 65025 * (i + 1)
  low : ∀ j, k = 0 ∨ i + k ≤ j → l.getD j 0 ≤ 65025 * i

theorem Mu.start (x y : Nat) : Mu x y 0 0 (List.replicate 63 0) := by
  have h : ∀ j, (List.replicate 63 0).getD j 0 = 0 := fun j => by
    rw [List.getD_eq_getElem?_getD, List.getElem?_replicate]
    split <;> rfl
  refine ⟨List.length_replicate, ?_, fun j => by rw [h]; omega, fun j _ => by rw [h]; omega⟩
  rw [show gi (List.replicate 63 0) 63 = 0 by decide +kernel]
  simp [Nat.mod_one]

theorem Mu.step {x y i k : Nat} {l : List Nat} (h : Mu x y i k l) (hi : i < 32) (hk : k < 32) : Mu x y i (k + 1) (l.set (i + k) (l.getD (i + k) 0 + x / 256 ^ i % 256 * (y / 256 ^ k % 256))) := by
  have hX : x / 256 ^ i % 256 ≤ 255 := by have := Nat.mod_lt (x / 256 ^ i) (show 0 < 256 by decide); omega
  have hY : y / 256 ^ k % 256 ≤ 255 := by have := Nat.mod_lt (y / 256 ^ k) (show 0 < 256 by decide); omega
  have hXY : x / 256 ^ i % 256 * (y / 256 ^ k % 256) ≤ 255 * 255 := Nat.mul_le_mul hX hY
  have hlow := h.low (i + k) (.inr (Nat.le_refl _))
  have hg : ∀ j, (l.set (i + k) (l.getD (i + k) 0 + x / 256 ^ i % 256 * (y / 256 ^ k % 256))).getD j 0 = if i + k = j then l.getD (i + k) 0 + x / 256 ^ i % 256 * (y / 256 ^ k % 256) else l.getD j 0 := by
    intro j
    simp only [List.getD_eq_getElem?_getD, List.getElem?_set]
    by_cases e : i + k = j
    · rw [if_pos e, if_pos e, if_pos (by rw [h.len]; omega)]
      rfl
    · rw [if_neg e, if_neg e]
  refine ⟨by rw [List.length_set, h.len], ?_, fun j => ?_, fun j hj => ?_⟩
  · have h1 := gi_set l (i + k) (l.getD (i + k) 0 + x / 256 ^ i % 256 * (y / 256 ^ k % 256)) (by rw [h.len]; omega) 63 (by omega)
    rw [h.sum, Nat.add_mul] at h1
    rw [mod_next y k, Nat.mul_add, Nat.add_mul]
    have e : x / 256 ^ i % 256 * (y / 256 ^ k % 256 * 256 ^ k) * 256 ^ i = x / 256 ^ i % 256 * (y / 256 ^ k % 256) * 256 ^ (i + k) := by
      rw [Nat.pow_add, Nat.mul_comm (256 ^ i), ← Nat.mul_assoc, ← Nat.mul_assoc]
    rw [e]
    omega
  · rw [hg]
    split
    · omega
    · exact h.le j
  · rw [hg, if_neg (by omega)]
    exact h.low j (.inr (by omega))

theorem Mu.next {x y i : Nat} {l : List Nat} (h : Mu x y i 32 l) (hy : y < 256 ^ 32) (hi : i < 32) : Mu x y (i + 1) 0 l := by
  refine ⟨h.len, ?_, fun j => by have := h.le j; omega, fun j _ => h.le j⟩
  rw [h.sum, Nat.mod_eq_of_lt hy, Nat.pow_zero, Nat.mod_one, Nat.mul_zero, Nat.zero_mul, Nat.add_zero, mod_next x i, Nat.add_mul, Nat.mul_right_comm]

theorem Mu.done {x y : Nat} {l : List Nat} (h : Mu x y 32 0 l) (hx : x < 256 ^ 32) : gi l l.length = x * y ∧ FB l := by
  refine ⟨?_, .inl ⟨by rw [h.len]; exact Nat.le_refl _, fun j => ?_⟩⟩
  · rw [h.len, h.sum, Nat.mod_eq_of_lt hx, Nat.pow_zero, Nat.mod_one, Nat.mul_zero, Nat.zero_mul, Nat.add_zero]
  · by_cases hj : j < 63
    · have := h.low j (.inl rfl)
      omega
    · rw [List.getD_eq_getElem?_getD, List.getElem?_eq_none (by rw [h.len]; omega)]
      decide

end M

set_option maxRecDepth 100000 in
set_option maxHeartbeats 8000000 in
theorem rmul_n {K L : List Value} {x y : Nat} (w : World) (hx : IsN K x) (hy : IsN L y) : Calls Try.prog 37 #[.agg K.toArray, .agg L.toArray] w (GivesN w (x * y % M.Q)) := by
  have HX := Lib.hid hx
  have HY := Lib.hid hy
  obtain ⟨r, hr⟩ : ∃ r, Hid (r = x * y % M.Q) := ⟨x * y % M.Q, rfl⟩
  rw [← hr.out]
  have CF := Lib.hid (show ∀ W v l, IsI W v l → M.Mu x y 32 0 l → Calls Try.prog 53 #[v] W fun e w' => ∃ (R : List Value) (f : Nat), e = .returned (.agg R.toArray) ∧ IsN R f ∧ f % M.Q = r ∧ Below W.heap.size W w' from fun W v l h hm => by
    obtain ⟨h1, h2⟩ := hm.done hx.2
    have := fold_n v l W h h2
    rw [h1, ← hr.out] at this
    exact this)
  have CR := Lib.hid (show ∀ W R f, IsN R f → f % M.Q = r → Calls Try.prog 39 #[.agg R.toArray] W (GivesN W r) from fun W R f h e => by
    have := rest_n R f W h
    rwa [e] at this)
  obtain ⟨W, hW⟩ : ∃ W, Hid (W = ((w.alloc (.cells K.toArray 49)).alloc (.cells L.toArray 49)).alloc (.cells z32.toArray 49)) := ⟨_, rfl⟩
  obtain ⟨g, hg⟩ : ∃ g, g = w.heap.size := ⟨_, rfl⟩
  have HG : Hid (g = w.heap.size) := hg
  have B0 : Hid (Blk W g 49 K) := by rw [hW.out, hg]; exact ((Blk.newAt _ _ _ _ _ rfl rfl).alloc _).alloc _
  have B1 : Hid (Blk W (g + 1) 49 L) := by rw [hW.out, hg]; exact (Blk.newAt _ _ _ _ _ (by simp) rfl).alloc _
  have B2 : Hid (Blk W (g + 1 + 1) 49 z32) := by rw [hW.out, hg]; exact Blk.newAt _ _ _ _ _ (by simp) rfl
  have KK : Hid (Below w.heap.size w W) := by rw [hW.out]; exact (((Below.refl _ _).alloc (Nat.le_refl _) _).alloc (by simp) _).alloc (by simp; omega) _
  obtain ⟨i0, hi, hz0, hz1, hz2⟩ := info_parts Try.info47
  have HWS : Hid (g + 1 + 1 < W.heap.size) := B2.out.lt
  clear hx hy hr
  go_enter Try.func37, Try.ntmps37
  go_wp2_with (at_make; rw [← z32_arr, ← hW.out]; go_must (refine wpList_make_full _ rfl _ _ 76 rfl W.heap.size 3 i0 (.int .i64 0) 1 Try.underlying76 hi hz0 hz1 .i64 .i64 63 63 63 rfl rfl rfl rfl (by rw [hz2]; omega) (by unfold maxLen; omega) (Nat.le_refl _) ?_))
  rw [← hg]
  clear hW hg
  intro w1 hown hgrow
  have KS : Hid (Below W.heap.size W w1) := (Below.refl _ _).grown hgrow (Nat.le_refl _) (by intro k hk; cases hk)
  obtain ⟨gs, hgs⟩ : ∃ gs, gs = W.heap.size := ⟨_, rfl⟩
  rw [← hgs] at hown KS HWS ⊢
  have HS : Hid (w1.ownsRow gs 3 1 (.slice (some ⟨gs, 0, none⟩) 63 63) 63 (ic (List.replicate 63 0))) := by
    have e : ic (List.replicate 63 0) = (madeCells #[Value.int IntKind.i64 0] 63).toList := by
      rw [← ic_zero, toList_madeCells_one]
    rw [Hid, e]
    exact hown
  have HGS := Lib.hid hgs
  clear hown hgrow hi hz0 hz1 hz2 hgs
  have HM0 : Hid (M.Mu x y 0 0 (List.replicate 63 0)) := M.Mu.start x y
  go_wp2
  go_loopw [6] (fun iv wr => ∃ (i : Nat) (l : List Nat), i ≤ 32 ∧ iv = .int .i64 (i : Int) ∧ Hid (M.Mu x y i 0 l) ∧ Hid (wr.ownsRow gs 3 1 (.slice (some ⟨gs, 0, none⟩) 63 63) 63 (ic l)) ∧ Hid (Below gs W wr))
    (fun iv _ => 32 - (intOf iv).toNat)
  case atStart => exact ⟨0, _, by omega, rfl, HM0, HS, KS⟩
  case round =>
    clear HM0 HS KS
    obtain ⟨wA, rfl⟩ : ∃ x, x = wr := ⟨_, rfl⟩
    obtain ⟨i, l, hi, rfl, hm, hs, ka⟩ := hrel
    by_cases hlti : i < 32
    · go_wp2
      rw [decide_eq_true (show (i : Int) < 32 by omega)]
      go_loopw [7] (fun kv wr => ∃ (k : Nat) (l : List Nat), k ≤ 32 ∧ kv = .int .i64 (k : Int) ∧ Hid (M.Mu x y i k l) ∧ Hid (wr.ownsRow gs 3 1 (.slice (some ⟨gs, 0, none⟩) 63 63) 63 (ic l)) ∧ Hid (Below gs W wr))
        (fun kv _ => 32 - (intOf kv).toNat)
      case atStart => exact ⟨0, l, by omega, rfl, hm, hs, ka⟩
      case round =>
        clear hm hs ka
        obtain ⟨wy, rfl⟩ : ∃ x, x = wr := ⟨_, rfl⟩
        obtain ⟨k, l, hk, rfl, hm, hs, ka⟩ := hrel
        by_cases hlt : k < 32
        · obtain ⟨X, hX⟩ : ∃ X, X = x / 256 ^ i % 256 := ⟨x / 256 ^ i % 256, rfl⟩
          obtain ⟨Y, hY⟩ : ∃ Y, Y = y / 256 ^ k % 256 := ⟨y / 256 ^ k % 256, rfl⟩
          have hXl : X ≤ 255 := by rw [hX]; have := Nat.mod_lt (x / 256 ^ i) (show 0 < 256 by decide); omega
          have hYl : Y ≤ 255 := by rw [hY]; have := Nat.mod_lt (y / 256 ^ k) (show 0 < 256 by decide); omega
          have hgb : g < gs ∧ g + 1 < gs := by have := HWS.out; omega
          have c0 : wy.cell? ⟨g, i, none⟩ = some (.int .i64 (X : Int)) := by rw [(B0.out.below ka.out hgb.1).cell, HX.out.1, nm_get x i hlti, ← hX]
          have c1 : wy.cell? ⟨g + 1, k, none⟩ = some (.int .i64 (Y : Int)) := by rw [(B1.out.below ka.out hgb.2).cell, HY.out.1, nm_get y k hlt, ← hY]
          obtain ⟨p, hp⟩ : ∃ p, p = i + k := ⟨_, rfl⟩
          obtain ⟨Z, hZ⟩ : ∃ Z, Z = l.getD p 0 := ⟨_, rfl⟩
          have hZl : Z ≤ 2145825 := by rw [hZ]; have := hm.out.le p; omega
          have hp63 : p < 63 := by omega
          have cR : wy.cell? ⟨gs, p, none⟩ = some (.int .i64 (Z : Int)) := by rw [hs.out.cellAt p (by omega), ic_get l p (by rw [hm.out.len]; exact hp63), ← hZ]
          have fR : wy.frozen? ⟨gs, p, none⟩ = false := hs.out.frozenAt p
          obtain ⟨m, hmm⟩ : ∃ m, m = X * Y := ⟨_, rfl⟩
          have hml : m ≤ 65025 := by rw [hmm]; exact Nat.mul_le_mul hXl hYl
          obtain ⟨s, hsm⟩ : ∃ s, s = Z + m := ⟨_, rfl⟩
          have s0 : (i : Int) + (k : Int) = (p : Int) := by omega
          have s1 : (X : Int) * (Y : Int) = (m : Int) := by rw [hmm]; simp
          have s2 : (Z : Int) + (m : Int) = (s : Int) := by omega
          have q1 : (0 : Int) ≤ (p : Int) := by omega
          have q2 : (p : Int) < 63 := by omega
          have q3 : (p : Int).toNat = p := by omega
          have q4 : (0 : Int) ≤ (i : Int) := by omega
          have q5 : (i : Int) < 32 := by omega
          have q6 : (i : Int).toNat = i := by omega
          have q7 : (0 : Int) ≤ (k : Int) := by omega
          have q8 : (k : Int) < 32 := by omega
          have q9 : (k : Int).toNat = k := by omega
          have wp : IntKind.i64.wrap (p : Int) = (p : Int) := IntWalk.i64_in _ (by omega)
          have wm : IntKind.i64.wrap (m : Int) = (m : Int) := IntWalk.i64_in _ (by omega)
          have ws : IntKind.i64.wrap (s : Int) = (s : Int) := IntWalk.i64_in _ (by omega)
          have HNX : Hid (M.Mu x y i (k + 1) (l.set p s)) := by
            have := hm.out.step hlti hlt
            rwa [← hp, ← hZ, ← hX, ← hY, ← hmm, ← hsm] at this
          have HO : Hid (∀ n, ((wy.drewN n).setCell ⟨gs, p, none⟩ (.int .i64 (s : Int))).ownsRow gs 3 1 (.slice (some ⟨gs, 0, none⟩) 63 63) 63 (ic (l.set p s))) := fun n => by
            have h0 : (wy.drewN n).ownsRow gs 3 1 (.slice (some ⟨gs, 0, none⟩) 63 63) 63 (ic l) := hs.out
            have := (h0.stored p (.int .i64 (s : Int))).1
            rwa [show Value.int .i64 (s : Int) = ci s from rfl, ic_set] at this
          have HK : Hid (∀ n, Below gs W ((wy.drewN n).setCell ⟨gs, p, none⟩ (.int .i64 (s : Int)))) := fun n => (drewN_below ka.out n).setCell (Nat.le_refl gs) _
          clear hX hY hZ hmm hsm hgb hm hs ka hp
          go_upto_region 8 with fail
          refine wp_region_still 19 (by kernel_rfl) (by kernel_rfl) ?_
          simp only [List.take_succ_cons, List.take_zero, List.drop_succ_cons, List.drop_zero]
          repeat still_step
          refine wpStill_nil ?_
          go_wp2
          go_roundw
          case rel => exact ⟨k + 1, _, by omega, by go_num, HNX, HO.out 1, HK.out 1⟩
          case measure => simp [intOf]; omega
        · obtain rfl : k = 32 := by omega
          have HNX : Hid (M.Mu x y (i + 1) 0 l) := hm.out.next HY.out.2 hlti
          clear hm
          go_wp2
          go_roundw
          case rel => exact ⟨i + 1, l, by omega, by go_num, HNX, hs, ka⟩
          case measure => simp [intOf]; omega
    · obtain rfl : i = 32 := by omega
      have E2 : Hid (Blk wA (g + 1 + 1) 49 z32) := B2.out.below ka.out HWS.out
      have EK : Hid (Below w.heap.size w wA) := KK.out.trans (ka.out.mono (by have := KK.out.size; have := HGS.out; omega))
      have hI : IsI wA (.slice (some ⟨gs, 0, none⟩) 63 63) l := by
        have h0 : OwnI wA gs (.slice (some ⟨gs, 0, none⟩) 63 63) l := by
          rw [OwnI, hm.out.len]
          exact hs.out
        exact h0.isI
      have C := Lib.hid (CF.out wA _ l hI hm.out)
      clear hI hm hs ka B0 B1 B2 KK
      go_wp2_with fail
      refine C.out.mono ?_
      rintro e w3 ⟨R, f, rfl, hR, hf, k3⟩
      have C2 := Lib.hid (CR.out w3 R f hR hf)
      have F2 : Hid (Blk w3 (g + 1 + 1) 49 z32) := E2.out.below k3 E2.out.lt
      have FK : Hid (Below w.heap.size w w3) := EK.out.trans (k3.mono EK.out.size)
      clear hR hf k3 C E2 EK
      go_wp2_with fail
      refine C2.out.mono ?_
      rintro e w4 ⟨S, rfl, hS, k4⟩
      have HS := Lib.hid hS
      have G2 := F2.out.below k4 F2.out.lt
      have GK : Hid (Below w.heap.size w w4) := FK.out.trans (k4.mono FK.out.size)
      clear hS k4 C2 F2 FK
      go_wp2_with (refine wpList_store_num rfl rfl (.tmp 4) (.tmp 38) rfl (g + 1 + 1) rfl S z32 rfl G2 z32_len HS.out.len HS.out.one ?_; intro w9 hb9 ho9)
      exact bodyPost_ret (results_cell_row rfl _ _ (g + 1 + 1) _ _ _ _ rfl hb9 Try.underlying49 rfl (by rw [List.size_toArray, HS.out.len]; kernel_rfl)) rfl ⟨S, rfl, HS.out, GK.out.trans (ho9.below GK.out.size (by have := HG.out; omega))⟩

end Go.Proofs.Yteombilmndlhjaa
