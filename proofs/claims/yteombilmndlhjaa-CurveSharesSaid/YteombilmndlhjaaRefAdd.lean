/-
  CONTRACTS OF orlopref07.Add AND Sub. Conditions: the numbers are below 2^256; what is taken away is at most 2^255 - 19.
-/
import Derived.Test.YteombilmndlhjaaRefFold
import Derived.Test.YteombilmndlhjaaHeldA
import Derived.RegionTactic
import Derived.StillTailTactics
namespace Go.Proofs.Yteombilmndlhjaa
open Go.RowKit
set_option linter.unusedVariables false

namespace M

/-- The digits' sums. -/
def ads (a b k : Nat) : List Nat := (List.range k).map fun i => a / 256 ^ i % 256 + b / 256 ^ i % 256

theorem ads_length (a b k : Nat) : (ads a b k).length = k := by simp [ads]

theorem ads_next (a b k : Nat) : ads a b (k + 1) = ads a b k ++ [a / 256 ^ k % 256 + b / 256 ^ k % 256] := by simp [ads, List.range_succ]

theorem ads_get (a b k i : Nat) (h : i < k) : (ads a b k).getD i 0 = a / 256 ^ i % 256 + b / 256 ^ i % 256 := by
  simp [ads, List.getD_eq_getElem?_getD, h]

theorem ads_sum (a b k n : Nat) (h : n ≤ k) : gi (ads a b k) n = a % 256 ^ n + b % 256 ^ n := by
  induction n with
  | zero => simp [gi, Nat.mod_one]
  | succ n ih =>
    rw [gi, ih (by omega), ads_get a b k n (by omega), mod_next, mod_next b, Nat.add_mul]
    omega

theorem ads_FB (a b : Nat) : FB (ads a b 32) := by
  refine .inr ⟨by rw [ads_length]; exact Nat.le_refl _, fun i => ?_⟩
  by_cases h : i < 32
  · rw [ads_get a b 32 i h]
    have h1 : a / 256 ^ i % 256 < 256 := Nat.mod_lt _ (by decide)
    have h2 : b / 256 ^ i % 256 < 256 := Nat.mod_lt _ (by decide)
    omega
  · rw [List.getD_eq_getElem?_getD, List.getElem?_eq_none (by rw [ads_length]; omega)]
    decide

theorem ads_all (a b : Nat) (ha : a < 256 ^ 32) (hb : b < 256 ^ 32) : gi (ads a b 32) (ads a b 32).length = a + b := by
  rw [ads_length, ads_sum a b 32 32 (Nat.le_refl _), Nat.mod_eq_of_lt ha, Nat.mod_eq_of_lt hb]

end M

set_option maxRecDepth 100000 in
set_option maxHeartbeats 4000000 in
theorem radd_n {K L : List Value} {x y : Nat} (w : World) (hx : IsN K x) (hy : IsN L y) : Calls Try.prog 35 #[.agg K.toArray, .agg L.toArray] w (GivesN w ((x + y) % M.Q)) := by
  have HX := Lib.hid hx
  have HY := Lib.hid hy
  obtain ⟨r, hr⟩ : ∃ r, Hid (r = (x + y) % M.Q) := ⟨(x + y) % M.Q, rfl⟩
  rw [← hr.out]
  have CF := Lib.hid (show ∀ W v, IsI W v (M.ads x y 32) → Calls Try.prog 53 #[v] W fun e w' => ∃ (R : List Value) (f : Nat), e = .returned (.agg R.toArray) ∧ IsN R f ∧ f % M.Q = r ∧ Below W.heap.size W w' from fun W v h => by
    have := fold_n v _ W h (M.ads_FB x y)
    rw [M.ads_all x y hx.2 hy.2, ← hr.out] at this
    exact this)
  have CR := Lib.hid (show ∀ W R f, IsN R f → f % M.Q = r → Calls Try.prog 39 #[.agg R.toArray] W (GivesN W r) from fun W R f h e => by
    have := rest_n R f W h
    rwa [e] at this)
  obtain ⟨W, hW⟩ : ∃ W, Hid (W = ((w.alloc (.cells K.toArray 49)).alloc (.cells L.toArray 49)).alloc (.cells z32.toArray 49)) := ⟨_, rfl⟩
  obtain ⟨g, hg⟩ : ∃ g, g = w.heap.size := ⟨_, rfl⟩
  have HG : Hid (g = w.heap.size) := hg
  have B0 : Hid (Blk W g 49 K) := by rw [hW.out, hg]; exact ((Blk.newAt _ _ _ _ _ rfl rfl).alloc _).alloc _
  have B1 : Hid (Blk W (g + 1) 49 L) := by rw [hW.out, hg]; exact (Blk.newAt _ _ _ _ _ (by simp) rfl).alloc _
  have B2 : Hid (Blk W (g + 1 + 1) 49 z32) := by rw [hW.out, hg]; exact Blk.newAt _ _ _ _ _ (by simp) rfl
  have KK : Hid (Below w.heap.size w W) := by rw [hW.out]; exact (((Below.refl _ _).alloc (Nat.le_refl _) _).alloc (by simp) _).alloc (by simp; omega) _
  clear hx hy hr
  go_enter Try.func35, Try.ntmps35
  go_wp2
  rw [← z32_arr, ← hW.out, ← hg]
  clear hW hg
  obtain ⟨W0, hW0⟩ : ∃ x, x = W := ⟨_, rfl⟩
  have HWS : Hid (g + 1 + 1 < W.heap.size) := B2.out.lt
  go_loopw [5, 6] (fun x' i wr => ∃ k : Nat, k ≤ 32 ∧ i = .int .i64 (k : Int) ∧ Hid (OwnI wr W.heap.size x' (M.ads x y k)) ∧ Hid (Below W.heap.size W wr))
    (fun _ i _ => 32 - (intOf i).toNat)
  case atStart => exact ⟨0, by omega, rfl, ownI_nil _ _, Below.refl _ _⟩
  case round =>
    obtain ⟨wz, rfl⟩ : ∃ x, x = wr := ⟨_, rfl⟩
    obtain ⟨k, hk, rfl, oo, kx⟩ := hrel
    obtain ⟨vx, rfl⟩ : ∃ z, z = u5 := ⟨_, rfl⟩
    by_cases hlt : k < 32
    · obtain ⟨X, hX⟩ : ∃ X, X = x / 256 ^ k % 256 := ⟨x / 256 ^ k % 256, rfl⟩
      obtain ⟨Y, hY⟩ : ∃ Y, Y = y / 256 ^ k % 256 := ⟨y / 256 ^ k % 256, rfl⟩
      have hXl : X < 256 := by rw [hX]; exact Nat.mod_lt _ (by decide)
      have hYl : Y < 256 := by rw [hY]; exact Nat.mod_lt _ (by decide)
      have c0 : wz.cell? ⟨g, k, none⟩ = some (.int .i64 (X : Int)) := by rw [(B0.out.below kx.out B0.out.lt).cell, HX.out.1, nm_get x k hlt, ← hX]
      have c1 : wz.cell? ⟨g + 1, k, none⟩ = some (.int .i64 (Y : Int)) := by rw [(B1.out.below kx.out B1.out.lt).cell, HY.out.1, nm_get y k hlt, ← hY]
      obtain ⟨z, hz⟩ : ∃ z, z = X + Y := ⟨_, rfl⟩
      have s1 : (X : Int) + (Y : Int) = (z : Int) := by omega
      have wZ : IntKind.i64.wrap (z : Int) = (z : Int) := IntWalk.i64_in _ (by omega)
      have HNX : Hid (M.ads x y (k + 1) = M.ads x y k ++ [z]) := by rw [hz, hX, hY]; exact M.ads_next x y k
      have OA : Hid (OwnI (wz.alloc (.cells #[.int .i64 (z : Int)] 3)).drew W.heap.size vx (M.ads x y k)) := oo.out.below (drewN_below ((Below.refl wz.heap.size wz).alloc (Nat.le_refl _) _) 1)
      have KA : Hid (Below W.heap.size W (wz.alloc (.cells #[.int .i64 (z : Int)] 3)).drew) := drewN_below (kx.out.alloc kx.out.size _) 1
      have CA : Hid ((wz.alloc (.cells #[.int .i64 (z : Int)] 3)).drew.cell? ⟨wz.heap.size, 0, none⟩ = some (.int .i64 (z : Int))) := by
        have := (Blk.new wz 3 #[.int .i64 (z : Int)]).cell 0
        exact this
      have CX : Hid (some (Value.int .i64 ((x / 256 ^ k % 256 : Nat) : Int)) = some (.int .i64 (X : Int))) := by rw [← hX]; exact rfl
      have CY : Hid (some (Value.int .i64 ((y / 256 ^ k % 256 : Nat) : Int)) = some (.int .i64 (Y : Int))) := by rw [← hY]; exact rfl
      have SA : Hid ((wz.alloc (.cells #[.int .i64 (z : Int)] 3)).drew.cell? ⟨g, k, none⟩ = some (.int .i64 (X : Int)) ∧ (wz.alloc (.cells #[.int .i64 (z : Int)] 3)).drew.cell? ⟨g + 1, k, none⟩ = some (.int .i64 (Y : Int))) := ⟨by rw [(B0.out.below KA.out B0.out.lt).cell, HX.out.1, nm_get x k hlt]; exact CX.out, by rw [(B1.out.below KA.out B1.out.lt).cell, HY.out.1, nm_get y k hlt]; exact CY.out⟩
      clear hX hY hz oo
      go_upto_region 5 with fail
      refine wp_region_any (by kernel_rfl) ?_
      change wpAny _ _ _ _ _ _ _ (World.drew _)
      refine wpAny_of_held (S := fun w' => w'.cell? ⟨g, k, none⟩ = some (.int .i64 (X : Int)) ∧ w'.cell? ⟨g + 1, k, none⟩ = some (.int .i64 (Y : Int))) _ _ _ _ ?_
      have S0 : wz.drew.cell? ⟨g, k, none⟩ = some (.int .i64 (X : Int)) ∧ wz.drew.cell? ⟨g + 1, k, none⟩ = some (.int .i64 (Y : Int)) := ⟨c0, c1⟩
      refine wpAnyH_take_at (i := 0) (v := vx) rfl rfl (by kernel_rfl) (by kernel_rfl) (by kernel_rfl) (fun _ _ _ h => h) (Or.inl ⟨by rfl, fun w hS => by go_simp⟩) S0 ?_
      simp only [List.setIfInBounds_toArray, List.set_cons_zero, List.set_cons_succ]
      refine wpAnyH_take_at (i := 1) (v := .int .i64 (k : Int)) rfl rfl (by kernel_rfl) (by kernel_rfl) (by kernel_rfl) (fun _ _ _ h => h) (Or.inl ⟨by rfl, fun w hS => by go_simp⟩) S0 ?_
      simp only [List.setIfInBounds_toArray, List.set_cons_zero, List.set_cons_succ]
      refine wpAnyH_take_at (i := 2) (v := .pointer (some ⟨g, k, none⟩)) rfl rfl (by kernel_rfl) (by kernel_rfl) (by kernel_rfl) (fun _ _ _ h => h) (Or.inl ⟨by rfl, fun w hS => by go_simp⟩) S0 ?_
      simp only [List.setIfInBounds_toArray, List.set_cons_zero, List.set_cons_succ]
      refine wpAnyH_take_at (i := 3) (v := .int .i64 (X : Int)) rfl rfl (by kernel_rfl) (by kernel_rfl) (by kernel_rfl) (fun _ _ _ h => h) (Or.inl ⟨by rfl, fun w hS => by have h0 := hS.1; go_simp⟩) S0 ?_
      simp only [List.setIfInBounds_toArray, List.set_cons_zero, List.set_cons_succ]
      refine wpAnyH_take_at (i := 4) (v := .int .i64 (k : Int)) rfl rfl (by kernel_rfl) (by kernel_rfl) (by kernel_rfl) (fun _ _ _ h => h) (Or.inl ⟨by rfl, fun w hS => by go_simp⟩) S0 ?_
      simp only [List.setIfInBounds_toArray, List.set_cons_zero, List.set_cons_succ]
      refine wpAnyH_take_at (i := 5) (v := .pointer (some ⟨g + 1, k, none⟩)) rfl rfl (by kernel_rfl) (by kernel_rfl) (by kernel_rfl) (fun _ _ _ h => h) (Or.inl ⟨by rfl, fun w hS => by go_simp⟩) S0 ?_
      simp only [List.setIfInBounds_toArray, List.set_cons_zero, List.set_cons_succ]
      refine wpAnyH_take_at (i := 6) (v := .int .i64 (Y : Int)) rfl rfl (by kernel_rfl) (by kernel_rfl) (by kernel_rfl) (fun _ _ _ h => h) (Or.inl ⟨by rfl, fun w hS => by have h0 := hS.2; go_simp⟩) S0 ?_
      simp only [List.setIfInBounds_toArray, List.set_cons_zero, List.set_cons_succ]
      refine wpAnyH_take_at (i := 7) (v := .int .i64 (z : Int)) rfl rfl (by kernel_rfl) (by kernel_rfl) (by kernel_rfl) (fun _ _ _ h => h) (Or.inl ⟨by rfl, fun w hS => by go_simp⟩) S0 ?_
      simp only [List.setIfInBounds_toArray, List.set_cons_zero, List.set_cons_succ]
      refine wpAnyH_ready (rs := [8]) (by kernel_rfl) (by simp) ?_
      refine AllReadyH.cons rfl (fun K hK => ?_) AllReadyH.nil
      go_simp
      refine hK.out _ _ SA.out (fun _ => ?_)
      clear hK K
      refine wpAnyH_ready (rs := [9]) (by kernel_rfl) (by simp) ?_
      refine AllReadyH.cons rfl (fun K hK => ?_) AllReadyH.nil
      refine step_appI rfl (.tmp 11) (.tmp 19) rfl W.heap.size vx (M.ads x y k) rfl OA.out wz.heap.size z rfl CA.out (by rw [M.ads_length]; omega) KA.out.size ?_
      intro v2 w2 o2 k2
      rw [← HNX.out] at o2
      have O2 := Lib.hid o2
      have K2 : Hid (Below W.heap.size W w2) := KA.out.trans k2
      refine hK.out _ _ ⟨?_, ?_⟩ (fun _ => ?_)
      · rw [(B0.out.below K2.out B0.out.lt).cell, HX.out.1, nm_get x k hlt]; exact CX.out
      · rw [(B1.out.below K2.out B1.out.lt).cell, HY.out.1, nm_get y k hlt]; exact CY.out
      clear hK K o2 k2 OA KA CA
      refine wpAnyH_take_at (i := 10) (v := v2) rfl rfl (by kernel_rfl) (by kernel_rfl) (by kernel_rfl) (fun _ _ _ h => h) (Or.inl ⟨by rfl, fun w hS => by go_simp⟩) ⟨by rw [(B0.out.below K2.out B0.out.lt).cell, HX.out.1, nm_get x k hlt]; exact CX.out, by rw [(B1.out.below K2.out B1.out.lt).cell, HY.out.1, nm_get y k hlt]; exact CY.out⟩ ?_
      simp only [List.setIfInBounds_toArray, List.set_cons_zero, List.set_cons_succ]
      refine wpAnyH_done (by kernel_rfl) ?_ _
      go_wp2
      go_roundw
      case rel => exact ⟨k + 1, by omega, by go_num, O2, K2⟩
      case measure => simp [intOf]; omega
    · obtain rfl : k = 32 := by omega
      have E2 : Hid (Blk wz (g + 1 + 1) 49 z32) := B2.out.below kx.out HWS.out
      have EK : Hid (Below w.heap.size w wz) := KK.out.trans (kx.out.mono KK.out.size)
      have C := Lib.hid (CF.out wz vx oo.out.isI)
      clear oo kx B0 B1 B2 KK
      go_wp2_with fail
      refine C.out.mono ?_
      rintro e w3 ⟨R, f, rfl, hR, hf, k3⟩
      have C2 := Lib.hid (CR.out w3 R f hR hf)
      have F2 : Hid (Blk w3 (g + 1 + 1) 49 z32) := E2.out.below k3 E2.out.lt
      have FK : Hid (Below w.heap.size w w3) := EK.out.trans (k3.mono EK.out.size)
      clear hR hf k3 C E2 EK
      go_wp2_with fail
      refine C2.out.mono ?_
      rintro e w4 ⟨S, rfl, hS, k4⟩
      have HS := Lib.hid hS
      have G2 := F2.out.below k4 F2.out.lt
      have GK : Hid (Below w.heap.size w w4) := FK.out.trans (k4.mono FK.out.size)
      clear hS k4 C2 F2 FK
      go_wp2_with (refine wpList_store_num rfl rfl (.tmp 4) (.tmp 23) rfl (g + 1 + 1) rfl S z32 rfl G2 z32_len HS.out.len HS.out.one ?_; intro w9 hb9 ho9)
      exact bodyPost_ret (results_cell_row rfl _ _ (g + 1 + 1) _ _ _ _ rfl hb9 Try.underlying49 rfl (by rw [List.size_toArray, HS.out.len]; kernel_rfl)) rfl ⟨S, rfl, HS.out, GK.out.trans (ho9.below GK.out.size (by have := HG.out; omega))⟩

set_option maxRecDepth 100000 in
set_option maxHeartbeats 4000000 in
theorem rsub_n {K L : List Value} {x y : Nat} (w : World) (hx : IsN K x) (hy : IsN L y) (hle : y ≤ M.Q) : Calls Try.prog 36 #[.agg K.toArray, .agg L.toArray] w (GivesN w ((x + (M.Q - y)) % M.Q)) := by
  have HX := Lib.hid hx
  have HY := Lib.hid hy
  obtain ⟨q, hq⟩ : ∃ q, Hid (q = M.Q) := ⟨_, rfl⟩
  have CP : Hid (∀ w, Calls Try.prog 55 #[] w (GivesN w q)) := by rw [hq.out]; exact prime_n
  obtain ⟨r, hr⟩ : ∃ r, Hid (r = (x + (q - y)) % q) := ⟨(x + (q - y)) % q, rfl⟩
  have CA := Lib.hid (show ∀ W J, IsN J (q - y) → Calls Try.prog 35 #[.agg K.toArray, .agg J.toArray] W (GivesN W r) from fun W J h => by
    have := radd_n W HX.out h
    rw [← hq.out, ← hr.out] at this
    exact this)
  rw [← hq.out] at hle ⊢
  rw [← hr.out]
  have HLE := Lib.hid hle
  obtain ⟨W, hW⟩ : ∃ W, Hid (W = ((w.alloc (.cells K.toArray 49)).alloc (.cells L.toArray 49)).alloc (.cells z32.toArray 49)) := ⟨_, rfl⟩
  obtain ⟨g, hg⟩ : ∃ g, g = w.heap.size := ⟨_, rfl⟩
  have HG : Hid (g = w.heap.size) := hg
  have B0 : Hid (Blk W g 49 K) := by rw [hW.out, hg]; exact ((Blk.newAt _ _ _ _ _ rfl rfl).alloc _).alloc _
  have B1 : Hid (Blk W (g + 1) 49 L) := by rw [hW.out, hg]; exact (Blk.newAt _ _ _ _ _ (by simp) rfl).alloc _
  have B2 : Hid (Blk W (g + 1 + 1) 49 z32) := by rw [hW.out, hg]; exact Blk.newAt _ _ _ _ _ (by simp) rfl
  have KK : Hid (Below w.heap.size w W) := by rw [hW.out]; exact (((Below.refl _ _).alloc (Nat.le_refl _) _).alloc (by simp) _).alloc (by simp; omega) _
  clear hx hy hr hq hle
  go_enter Try.func36, Try.ntmps36
  go_upto_region 1 with fail
  rw [← z32_arr, ← hW.out, ← hg]
  clear hW hg
  refine wp_region_any (by kernel_rfl) ?_
  change wpAny _ _ _ _ _ _ _ (World.drew _)
  refine wpAny_of_held (S := fun w' => w'.rangeAt g 0 K ∧ w'.rangeAt (g + 1) 0 L) _ _ _ _ ?_
  have S0 : W.drew.rangeAt g 0 K ∧ W.drew.rangeAt (g + 1) 0 L := ⟨B0.out.drew.range 0 _ [] (by simp), B1.out.drew.range 0 _ [] (by simp)⟩
  refine wpAnyH_take_at (i := 0) (v := .agg K.toArray) rfl rfl (by kernel_rfl) (by kernel_rfl) (by kernel_rfl) (fun _ _ _ h => h) (yieldsIf_load_mid (by rfl) 49 (.tmp 2) rfl g 0 rfl K _ (fun w h => h.1) Try.underlying49 rfl (by rw [HX.out.len]; kernel_rfl)) S0 ?_
  simp only [List.setIfInBounds_toArray, List.set_cons_zero, List.set_cons_succ]
  refine wpAnyH_take_at (i := 2) (v := .agg L.toArray) rfl rfl (by kernel_rfl) (by kernel_rfl) (by kernel_rfl) (fun _ _ _ h => h) (yieldsIf_load_mid (by rfl) 49 (.tmp 3) rfl (g + 1) 0 rfl L _ (fun w h => h.2) Try.underlying49 rfl (by rw [HY.out.len]; kernel_rfl)) S0 ?_
  simp only [List.setIfInBounds_toArray, List.set_cons_zero, List.set_cons_succ]
  refine wpAnyH_ready (rs := [1]) (by kernel_rfl) (by simp) ?_
  refine AllReadyH.cons rfl (fun KC hK => ?_) AllReadyH.nil
  go_simp
  refine (CP.out W.drew).mono ?_
  rintro e w1 ⟨P, rfl, hP, k1⟩
  have HP := Lib.hid hP
  have K1 : Hid (Below W.heap.size W w1) := (below_draws W 1).trans k1
  refine hK.out _ _ ⟨(B0.out.below K1.out B0.out.lt).range 0 _ [] (by simp), (B1.out.below K1.out B1.out.lt).range 0 _ [] (by simp)⟩ (fun _ => ?_)
  clear hK KC
  refine wpAnyH_ready (rs := [3]) (by kernel_rfl) (by simp) ?_
  refine AllReadyH.cons rfl (fun KC hK => ?_) AllReadyH.nil
  go_simp
  refine (minus_n w1 HP.out HY.out HLE.out).mono ?_
  rintro e w2 ⟨J, rfl, hJ, k2⟩
  have HJ := Lib.hid hJ
  have K2 : Hid (Below W.heap.size W w2) := K1.out.trans (k2.mono K1.out.size)
  refine hK.out _ _ ⟨(B0.out.below K2.out B0.out.lt).range 0 _ [] (by simp), (B1.out.below K2.out B1.out.lt).range 0 _ [] (by simp)⟩ (fun _ => ?_)
  clear hK KC
  refine wpAnyH_ready (rs := [4]) (by kernel_rfl) (by simp) ?_
  refine AllReadyH.cons rfl (fun KC hK => ?_) AllReadyH.nil
  go_simp
  refine (CA.out w2 J HJ.out).mono ?_
  rintro e w3 ⟨R, rfl, hR, k3⟩
  have HR := Lib.hid hR
  have K3 : Hid (Below W.heap.size W w3) := K2.out.trans (k3.mono K2.out.size)
  refine hK.out _ _ ⟨(B0.out.below K3.out B0.out.lt).range 0 _ [] (by simp), (B1.out.below K3.out B1.out.lt).range 0 _ [] (by simp)⟩ (fun _ => ?_)
  clear hK KC
  have E2 := B2.out.below K3.out B2.out.lt
  refine wpAnyH_ready (rs := [5]) (by kernel_rfl) (by simp) ?_
  refine AllReadyH.cons rfl (fun KC hK => ?_) AllReadyH.nil
  refine step_store_blk rfl 49 (.tmp 4) (.tmp 9) rfl (g + 1 + 1) R.toArray rfl rfl 49 z32 E2 (by rw [List.size_toArray, HR.out.len]; kernel_rfl) (by rw [List.size_toArray, HR.out.len, z32_len]) HR.out.one ?_
  intro w9 hb9 ho9
  have n1 : some g ≠ some (g + 1 + 1) := by intro e; injection e with e; omega
  have n2 : some (g + 1) ≠ some (g + 1 + 1) := by intro e; injection e with e; omega
  refine hK.out _ _ ⟨((B0.out.below K3.out B0.out.lt).grown ho9 n1).range 0 _ [] (by simp), ((B1.out.below K3.out B1.out.lt).grown ho9 n2).range 0 _ [] (by simp)⟩ (fun _ => ?_)
  clear hK KC
  refine wpAnyH_done (by kernel_rfl) ?_ _
  have KE : Below w.heap.size w w3 := KK.out.trans (K3.out.mono KK.out.size)
  go_wp2
  exact bodyPost_ret (results_cell_row rfl _ _ (g + 1 + 1) _ _ _ _ rfl hb9 Try.underlying49 rfl (by rw [List.size_toArray, HR.out.len]; kernel_rfl)) rfl ⟨R, rfl, HR.out, KE.trans (ho9.below KE.size (by have := HG.out; omega))⟩

end Go.Proofs.Yteombilmndlhjaa
