/-
  THE WALK OF orloplaw07.FieldTells, under FieldOk: it returns true, and writes nothing that was there. Conditions: FieldOk (proved of the code elsewhere).
-/
import Derived.Test.YtmgbcollcfeolaaFieldFace
namespace Go.Proofs.Ytmgbcollcfeolaa
open Go.RowKit
set_option linter.unusedVariables false

namespace M
theorem told_lt (b : List UInt8) : told b < 2 ^ 255 := Nat.mod_lt _ (Nat.pow_pos (by decide))

/-- The bytes of a number below the prime tell it. -/
theorem told_le (n : Nat) (h : n < Q) : told (le n 32) % Q = n := by
  have h1 : Q < 2 ^ 255 := by decide +kernel
  have h2 : Q < 256 ^ 32 := by decide +kernel
  have e : gl (le n 32) 32 = n % 256 ^ 32 := gl_le n 32 32 (Nat.le_refl _)
  rw [told, e, Nat.mod_eq_of_lt (show n < 256 ^ 32 by omega), Nat.mod_eq_of_lt (show n < 2 ^ 255 by omega), Nat.mod_eq_of_lt h]
end M

set_option maxRecDepth 100000 in
set_option maxHeartbeats 4000000 in
theorem fieldTells_walk_of {Fe : List Value → Nat → Prop} (F : FieldOk Fe) (w : World) (bv : Value) (b : List UInt8) (hb : IsB w bv b) : Calls Try.prog 3 #[bv] w fun e w' => e = .returned (.bool true) ∧ Below w.heap.size w w' := by
  have HB := Lib.hid hb
  obtain ⟨ao, cap, rfl⟩ := hb.shape
  obtain ⟨nn, hnn⟩ : ∃ n, n = b.length := ⟨_, rfl⟩
  rw [← hnn] at HB ⊢
  clear hb hnn
  obtain ⟨n, hn⟩ : ∃ n, Hid (n = M.told b % M.Q) := ⟨M.told b % M.Q, rfl⟩
  have HNQ : Hid (n < M.Q) := by rw [hn.out]; exact Nat.mod_lt _ M.Q_pos
  have CR := Lib.hid (show ∀ W v, IsB W v b → Calls Try.prog 12 #[v] W (GivesN W n) from fun W v h => by rw [hn.out]; exact rfrom_n v b W h)
  have CF := Lib.hid (show ∀ W v, IsB W v b → Calls Try.prog 10 #[v] W (GivesE Fe W n) from fun W v h => by rw [hn.out]; exact F.from_ v b W h)
  have CG := Lib.hid (show ∀ W v, IsB W v (M.le n 32) → Calls Try.prog 10 #[v] W (GivesE Fe W n) from fun W v h => by have := F.from_ v _ W h; rwa [M.told_le n HNQ.out] at this)
  clear hn HNQ
  go_enter Try.func3, Try.ntmps3
  go_wp2_with fail
  refine (fieldAwake_any F w).mono ?_
  rintro e w1 ⟨rfl, k1⟩
  have K1 := Lib.hid k1
  have C1 := Lib.hid (CF.out w1 _ (HB.out.below k1))
  clear k1 CF
  go_wp2_with fail
  refine C1.out.mono ?_
  rintro e w2 ⟨L, rfl, hL, k2⟩
  have HL := Lib.hid hL
  have K2 : Hid (Below w.heap.size w w2) := K1.out.trans (k2.mono K1.out.size)
  obtain ⟨g3, hg3⟩ : ∃ g, g = w2.heap.size := ⟨_, rfl⟩
  have E3 : Blk (w2.alloc (.cells z5.toArray 27)) g3 27 z5 := Blk.newAt _ _ _ _ _ hg3 rfl
  clear hL k2 C1 K1
  go_wp2_with (rw [← z5_arr, ← hg3]; refine wpList_store_el rfl rfl (.tmp 3) (.tmp 7) rfl g3 rfl L z5 rfl E3 z5_len (F.len HL.out) (F.one HL.out) ?_; intro w3 hb3 ho3)
  have B3 : Hid (Blk w3 g3 27 L) := hb3
  have K3 : Hid (Below w.heap.size w w3) := (K2.out.alloc K2.out.size _).trans (ho3.below (by have := K2.out.size; simp; omega) (by have := K2.out.size; omega))
  have HB3 : Hid (IsB w3 (.slice ao nn cap) b) := HB.out.below K3.out
  clear E3 hb3 ho3 hg3 K2 HB
  go_upto_region 4 with fail
  refine wp_region_any (by kernel_rfl) ?_
  change wpAny _ _ _ _ _ _ _ (World.drew _)
  refine wpAny_of_held (S := fun w' => w'.rangeAt g3 0 L) _ _ _ _ ?_
  have S0 : w3.drew.rangeAt g3 0 L := B3.out.drew.range 0 _ [] (by simp)
  refine wpAnyH_take_at (i := 0) (v := .agg L.toArray) rfl rfl (by kernel_rfl) (by kernel_rfl) (by kernel_rfl) (fun _ _ _ h => h) (yieldsIf_load_mid (by rfl) 27 (.tmp 3) rfl g3 0 rfl L _ (fun w h => h) Try.underlying27 rfl (by rw [F.len HL.out]; kernel_rfl)) S0 ?_
  simp only [List.setIfInBounds_toArray, List.set_cons_zero, List.set_cons_succ]
  refine wpAnyH_take_at (i := 1) (v := .slice ao nn cap) rfl rfl (by kernel_rfl) (by kernel_rfl) (by kernel_rfl) (fun _ _ _ h => h) (Or.inl ⟨by rfl, fun w hS => by go_simp⟩) S0 ?_
  simp only [List.setIfInBounds_toArray, List.set_cons_zero, List.set_cons_succ]
  refine wpAnyH_ready (rs := [2]) (by kernel_rfl) (by simp) ?_
  refine AllReadyH.cons rfl (fun KC hK => ?_) AllReadyH.nil
  go_simp
  refine (CR.out w3.drew _ (HB3.out.below (below_draws w3 1))).mono ?_
  rintro e w4 ⟨R, rfl, hR, k4⟩
  have HR := Lib.hid hR
  have K4 : Hid (Below w3.heap.size w3 w4) := (below_draws w3 1).trans k4
  refine hK.out _ _ ((B3.out.below K4.out B3.out.lt).range 0 _ [] (by simp)) (fun _ => ?_)
  clear hK KC
  refine wpAnyH_ready (rs := [3]) (by kernel_rfl) (by simp) ?_
  refine AllReadyH.cons rfl (fun KC hK => ?_) AllReadyH.nil
  go_simp
  refine (same_yes F L R n w4 HL.out HR.out).mono ?_
  rintro e w5 ⟨rfl, k5⟩
  have K5 : Hid (Below w3.heap.size w3 w5) := K4.out.trans (k5.mono K4.out.size)
  refine hK.out _ _ ((B3.out.below K5.out B3.out.lt).range 0 _ [] (by simp)) (fun _ => ?_)
  clear hK KC
  have S5 : w5.rangeAt g3 0 L := (B3.out.below K5.out B3.out.lt).range 0 _ [] (by simp)
  refine wpAnyH_take_at (i := 4) (v := .bool true) rfl rfl (by kernel_rfl) (by kernel_rfl) (by kernel_rfl) (fun _ _ _ h => h) (Or.inl ⟨by rfl, fun w hS => by go_simp⟩) S5 ?_
  simp only [List.setIfInBounds_toArray, List.set_cons_zero, List.set_cons_succ]
  refine wpAnyH_take_at (i := 5) (v := .agg L.toArray) rfl rfl (by kernel_rfl) (by kernel_rfl) (by kernel_rfl) (fun _ _ _ h => h) (yieldsIf_load_mid (by rfl) 27 (.tmp 3) rfl g3 0 rfl L _ (fun w h => h) Try.underlying27 rfl (by rw [F.len HL.out]; kernel_rfl)) S5 ?_
  simp only [List.setIfInBounds_toArray, List.set_cons_zero, List.set_cons_succ]
  refine wpAnyH_take_at (i := 8) (v := .slice ao nn cap) rfl rfl (by kernel_rfl) (by kernel_rfl) (by kernel_rfl) (fun _ _ _ h => h) (Or.inl ⟨by rfl, fun w hS => by go_simp⟩) S5 ?_
  simp only [List.setIfInBounds_toArray, List.set_cons_zero, List.set_cons_succ]
  refine wpAnyH_ready (rs := [6]) (by kernel_rfl) (by simp) ?_
  refine AllReadyH.cons rfl (fun KC hK => ?_) AllReadyH.nil
  go_simp
  refine (F.bytes_ L n w5 HL.out).mono ?_
  rintro e w6 ⟨r6, rfl, o6, k6⟩
  have I6 := Lib.hid o6.isB
  have K6 : Hid (Below w3.heap.size w3 w6) := K5.out.trans (k6.mono K5.out.size)
  refine hK.out _ _ ((B3.out.below K6.out B3.out.lt).range 0 _ [] (by simp)) (fun _ => ?_)
  clear hK KC
  refine wpAnyH_ready (rs := [7]) (by kernel_rfl) (by simp) ?_
  refine AllReadyH.cons rfl (fun KC hK => ?_) AllReadyH.nil
  go_simp
  refine (CG.out w6 r6 I6.out).mono ?_
  rintro e w7 ⟨L7, rfl, hL7, k7⟩
  have HL7 := Lib.hid hL7
  have K7 : Hid (Below w3.heap.size w3 w7) := K6.out.trans (k7.mono K6.out.size)
  refine hK.out _ _ ((B3.out.below K7.out B3.out.lt).range 0 _ [] (by simp)) (fun _ => ?_)
  clear hK KC
  refine wpAnyH_ready (rs := [9]) (by kernel_rfl) (by simp) ?_
  refine AllReadyH.cons rfl (fun KC hK => ?_) AllReadyH.nil
  go_simp
  refine (CR.out w7 _ (HB3.out.below K7.out)).mono ?_
  rintro e w8 ⟨R8, rfl, hR8, k8⟩
  have HR8 := Lib.hid hR8
  have K8 : Hid (Below w3.heap.size w3 w8) := K7.out.trans (k8.mono K7.out.size)
  refine hK.out _ _ ((B3.out.below K8.out B3.out.lt).range 0 _ [] (by simp)) (fun _ => ?_)
  clear hK KC
  refine wpAnyH_ready (rs := [10]) (by kernel_rfl) (by simp) ?_
  refine AllReadyH.cons rfl (fun KC hK => ?_) AllReadyH.nil
  go_simp
  refine (same_yes F L7 R8 n w8 HL7.out HR8.out).mono ?_
  rintro e w9 ⟨rfl, k9⟩
  have K9 : Hid (Below w3.heap.size w3 w9) := K8.out.trans (k9.mono K8.out.size)
  refine hK.out _ _ ((B3.out.below K9.out B3.out.lt).range 0 _ [] (by simp)) (fun _ => ?_)
  clear hK KC
  have S9 : w9.rangeAt g3 0 L := (B3.out.below K9.out B3.out.lt).range 0 _ [] (by simp)
  refine wpAnyH_take_at (i := 11) (v := .bool true) rfl rfl (by kernel_rfl) (by kernel_rfl) (by kernel_rfl) (fun _ _ _ h => h) (Or.inl ⟨by rfl, fun w hS => by go_simp⟩) S9 ?_
  simp only [List.setIfInBounds_toArray, List.set_cons_zero, List.set_cons_succ]
  refine wpAnyH_take_at (i := 12) (v := .bool true) rfl rfl (by kernel_rfl) (by kernel_rfl) (by kernel_rfl) (fun _ _ _ h => h) (Or.inl ⟨by rfl, fun w hS => by go_simp⟩) S9 ?_
  simp only [List.setIfInBounds_toArray, List.set_cons_zero, List.set_cons_succ]
  refine wpAnyH_done (by kernel_rfl) ?_ _
  have KE : Hid (Below w.heap.size w w9) := K3.out.trans (K9.out.mono K3.out.size)
  go_wp2
  go_ret
  exact ⟨rfl, KE.out⟩

end Go.Proofs.Ytmgbcollcfeolaa
