/-
  CONTRACT OF curve.step: a step of the ladder. Conditions: FieldOk; the ladder lies in its block. (Written by gen_curve.py.)
-/
import Derived.Test.YtdojalhaklkegaaDoorPn21
import Derived.Test.YtdojalhaklkegaaDoorLadMath
import Derived.Deep.CutRange
namespace Go.Proofs.YtdojalhaklkegaaDoor
open Go.RowKit
set_option linter.unusedVariables false

set_option maxRecDepth 100000 in
set_option maxHeartbeats 16000000 in
theorem step_any {Fe : List Value → Nat → Prop} (F : FieldOk Fe) (g : Nat) (A B C D E : List Value) (u x2 z2 x3 z3 : Nat) (w : World) (hL : LadB w g A B C D E) (hA : Fe A u) (hB : Fe B x2) (hC : Fe C z2) (hD : Fe D x3) (hE : Fe E z3) :
    Calls Tryd.prog 60 #[.pointer (some ⟨g, 0, none⟩)] w fun e w' => e = .returned (.tuple #[]) ∧ Only g w w' ∧ ∃ B' C' D' E' : List Value, LadB w' g A B' C' D' E' ∧
      Fe B' (M.lstep M.Q u x2 z2 x3 z3).1 ∧ Fe C' (M.lstep M.Q u x2 z2 x3 z3).2.1 ∧ Fe D' (M.lstep M.Q u x2 z2 x3 z3).2.2.1 ∧ Fe E' (M.lstep M.Q u x2 z2 x3 z3).2.2.2 := by
  have FL : Hid (∀ {L n}, Fe L n → L.length = 5 ∧ ∀ u ∈ L, u.oneCell' = true) := fun h => ⟨F.len h, F.one h⟩
  have hA' := Lib.hid hA
  have hB' := Lib.hid hB
  have hC' := Lib.hid hC
  have hD' := Lib.hid hD
  have hE' := Lib.hid hE
  obtain ⟨ra, hra⟩ : ∃ r, Hid ((x2 + z2) % M.Q = r) := ⟨_, rfl⟩
  obtain ⟨rb, hrb⟩ : ∃ r, Hid ((x2 + (M.Q - z2)) % M.Q = r) := ⟨_, rfl⟩
  obtain ⟨raa, hraa⟩ : ∃ r, Hid (ra * ra % M.Q = r) := ⟨_, rfl⟩
  obtain ⟨rbb, hrbb⟩ : ∃ r, Hid (rb * rb % M.Q = r) := ⟨_, rfl⟩
  obtain ⟨re, hre⟩ : ∃ r, Hid ((raa + (M.Q - rbb)) % M.Q = r) := ⟨_, rfl⟩
  obtain ⟨rs, hrs⟩ : ∃ r, Hid ((x3 + (M.Q - z3)) % M.Q = r) := ⟨_, rfl⟩
  obtain ⟨rd, hrd⟩ : ∃ r, Hid (rs * ra % M.Q = r) := ⟨_, rfl⟩
  obtain ⟨rp, hrp⟩ : ∃ r, Hid ((x3 + z3) % M.Q = r) := ⟨_, rfl⟩
  obtain ⟨rc, hrc⟩ : ∃ r, Hid (rp * rb % M.Q = r) := ⟨_, rfl⟩
  obtain ⟨rq, hrq⟩ : ∃ r, Hid ((rd + rc) % M.Q = r) := ⟨_, rfl⟩
  obtain ⟨rx3, hrx3⟩ : ∃ r, Hid (rq * rq % M.Q = r) := ⟨_, rfl⟩
  obtain ⟨rm, hrm⟩ : ∃ r, Hid ((rd + (M.Q - rc)) % M.Q = r) := ⟨_, rfl⟩
  obtain ⟨rmm, hrmm⟩ : ∃ r, Hid (rm * rm % M.Q = r) := ⟨_, rfl⟩
  obtain ⟨rz3, hrz3⟩ : ∃ r, Hid (rmm * u % M.Q = r) := ⟨_, rfl⟩
  obtain ⟨rx2, hrx2⟩ : ∃ r, Hid (raa * rbb % M.Q = r) := ⟨_, rfl⟩
  obtain ⟨rt, hrt⟩ : ∃ r, Hid (re * 121665 % M.Q = r) := ⟨_, rfl⟩
  obtain ⟨rv, hrv⟩ : ∃ r, Hid ((raa + rt) % M.Q = r) := ⟨_, rfl⟩
  obtain ⟨rz2, hrz2⟩ : ∃ r, Hid (rv * re % M.Q = r) := ⟨_, rfl⟩
  have c17 : Hid (∀ w K L, Hid (Fe K x2) → Hid (Fe L z2) → Calls Tryd.prog 85 #[.agg K.toArray, .agg L.toArray] w (GivesE Fe w ra)) := fun w K L h1 h2 => F.add_at w h1 h2 hra
  have c26 : Hid (∀ w K L, Hid (Fe K x2) → Hid (Fe L z2) → Calls Tryd.prog 86 #[.agg K.toArray, .agg L.toArray] w (GivesE Fe w rb)) := fun w K L h1 h2 => F.sub_at w h1 h2 hrb
  have c28 : Hid (∀ w K, Hid (Fe K ra) → Calls Tryd.prog 87 #[.agg K.toArray] w (GivesE Fe w raa)) := fun w K h1 => F.square_at w h1 hraa
  have c30 : Hid (∀ w K, Hid (Fe K rb) → Calls Tryd.prog 87 #[.agg K.toArray] w (GivesE Fe w rbb)) := fun w K h1 => F.square_at w h1 hrbb
  have c33 : Hid (∀ w K L, Hid (Fe K raa) → Hid (Fe L rbb) → Calls Tryd.prog 86 #[.agg K.toArray, .agg L.toArray] w (GivesE Fe w re)) := fun w K L h1 h2 => F.sub_at w h1 h2 hre
  have c42 : Hid (∀ w K L, Hid (Fe K x3) → Hid (Fe L z3) → Calls Tryd.prog 86 #[.agg K.toArray, .agg L.toArray] w (GivesE Fe w rs)) := fun w K L h1 h2 => F.sub_at w h1 h2 hrs
  have c44 : Hid (∀ w K L, Hid (Fe K rs) → Hid (Fe L ra) → Calls Tryd.prog 61 #[.agg K.toArray, .agg L.toArray] w (GivesE Fe w rd)) := fun w K L h1 h2 => F.mul_at w h1 h2 hrd
  have c53 : Hid (∀ w K L, Hid (Fe K x3) → Hid (Fe L z3) → Calls Tryd.prog 85 #[.agg K.toArray, .agg L.toArray] w (GivesE Fe w rp)) := fun w K L h1 h2 => F.add_at w h1 h2 hrp
  have c55 : Hid (∀ w K L, Hid (Fe K rp) → Hid (Fe L rb) → Calls Tryd.prog 61 #[.agg K.toArray, .agg L.toArray] w (GivesE Fe w rc)) := fun w K L h1 h2 => F.mul_at w h1 h2 hrc
  have c59 : Hid (∀ w K L, Hid (Fe K rd) → Hid (Fe L rc) → Calls Tryd.prog 85 #[.agg K.toArray, .agg L.toArray] w (GivesE Fe w rq)) := fun w K L h1 h2 => F.add_at w h1 h2 hrq
  have c60 : Hid (∀ w K, Hid (Fe K rq) → Calls Tryd.prog 87 #[.agg K.toArray] w (GivesE Fe w rx3)) := fun w K h1 => F.square_at w h1 hrx3
  have c66 : Hid (∀ w K L, Hid (Fe K rd) → Hid (Fe L rc) → Calls Tryd.prog 86 #[.agg K.toArray, .agg L.toArray] w (GivesE Fe w rm)) := fun w K L h1 h2 => F.sub_at w h1 h2 hrm
  have c67 : Hid (∀ w K, Hid (Fe K rm) → Calls Tryd.prog 87 #[.agg K.toArray] w (GivesE Fe w rmm)) := fun w K h1 => F.square_at w h1 hrmm
  have c72 : Hid (∀ w K L, Hid (Fe K rmm) → Hid (Fe L u) → Calls Tryd.prog 61 #[.agg K.toArray, .agg L.toArray] w (GivesE Fe w rz3)) := fun w K L h1 h2 => F.mul_at w h1 h2 hrz3
  have c78 : Hid (∀ w K L, Hid (Fe K raa) → Hid (Fe L rbb) → Calls Tryd.prog 61 #[.agg K.toArray, .agg L.toArray] w (GivesE Fe w rx2)) := fun w K L h1 h2 => F.mul_at w h1 h2 hrx2
  have c84 : Hid (∀ w K, Hid (Fe K re) → Calls Tryd.prog 88 #[.agg K.toArray, .int .u32 121665] w (GivesE Fe w rt)) := fun w K h1 => F.times_at (n := 121665) w h1 (by rw [Hid]; decide) hrt
  have c85 : Hid (∀ w K L, Hid (Fe K raa) → Hid (Fe L rt) → Calls Tryd.prog 85 #[.agg K.toArray, .agg L.toArray] w (GivesE Fe w rv)) := fun w K L h1 h2 => F.add_at w h1 h2 hrv
  have c87 : Hid (∀ w K L, Hid (Fe K rv) → Hid (Fe L re) → Calls Tryd.prog 61 #[.agg K.toArray, .agg L.toArray] w (GivesE Fe w rz2)) := fun w K L h1 h2 => F.mul_at w h1 h2 hrz2
  have HR : Hid (M.lstep M.Q u x2 z2 x3 z3 = (rx2, rz2, rx3, rz3)) := by
    rw [Hid, M.lstep]
    simp only [hra.out, hrb.out, hraa.out, hrbb.out, hre.out, hrs.out, hrd.out, hrp.out, hrc.out, hrq.out, hrx3.out, hrm.out, hrmm.out]
    rw [hrx2.out, Nat.mul_comm u rmm, hrz3.out, Nat.mul_comm 121665 re, hrt.out, hrv.out, Nat.mul_comm re rv, hrz2.out]
  rw [HR.out]
  have l0 := Lib.hid hL
  obtain ⟨n0, hn0⟩ : ∃ v, v = w.heap.size := ⟨_, rfl⟩
  have HG : Hid (g < n0) := by have := hL.lt; rw [Hid]; omega
  have HN : Hid (n0 ≤ w.heap.size) := Nat.le_of_eq hn0
  have KO0 : Hid (Only g w w) := Only.refl g w
  clear hL hA hB hC hD hE F HR hn0 hra hrb hraa hrbb hre hrs hrd hrp hrc hrq hrx3 hrm hrmm hrz3 hrx2 hrt hrv hrz2
  go_enter Tryd.func60, Tryd.ntmps60
  go_upto_region 0 with fail
  go_cut [2, 3] from 9 to 26 (fun z0 z1 wx => ∃ (p0 p1 : Nat) (S0 S1 : List Value), z0 = .pointer (some ⟨p0, 0, none⟩) ∧ z1 = .pointer (some ⟨p1, 0, none⟩) ∧ Hid (Fe S0 ra) ∧ Hid (Fe S1 rb) ∧ Hid (Blk wx p0 62 S0) ∧ Hid (Blk wx p1 62 S1) ∧ Hid (w.heap.size ≤ p0) ∧ Hid (w.heap.size ≤ p1) ∧ Hid (p0 ≠ p1) ∧ Hid (Below w.heap.size w wx))
  case first =>
    refine wp_region_any (by kernel_rfl) ?_
    change wpAny _ _ _ _ _ _ _ (World.drew _)
    refine wpAny_of_held (S := fun w' => Below w.heap.size w w') _ _ _ _ ?_
    have y0 : Below w.heap.size w w.drew := below_draws w 1
    refine wpAnyH_take_at (i := 0) (v := .pointer (some ⟨g, 0, none⟩)) rfl rfl (by kernel_rfl) (by kernel_rfl) (by kernel_rfl) (fun _ _ _ h => h) (Or.inl ⟨by rfl, fun w hS => by go_simp⟩) y0 ?_
    simp only [List.setIfInBounds_toArray, List.set_cons_zero, List.set_cons_succ]
    refine wpAnyH_take_at (i := 1) (v := .pointer (some ⟨g, 0, none⟩)) rfl rfl (by kernel_rfl) (by kernel_rfl) (by kernel_rfl) (fun _ _ _ h => h) (Or.inl ⟨by rfl, fun w hS => by go_simp⟩) y0 ?_
    simp only [List.setIfInBounds_toArray, List.set_cons_zero, List.set_cons_succ]
    refine wpAnyH_take_at (i := 2) (v := .pointer (some ⟨g, 5, none⟩)) rfl rfl (by kernel_rfl) (by kernel_rfl) (by kernel_rfl) (fun _ _ _ h => h) (Or.inl ⟨by rfl, fun w hS => by go_simp⟩) y0 ?_
    simp only [List.setIfInBounds_toArray, List.set_cons_zero, List.set_cons_succ]
    refine wpAnyH_take_at (i := 3) (v := .agg B.toArray) rfl rfl (by kernel_rfl) (by kernel_rfl) (by kernel_rfl) (fun _ _ _ h => h) (yieldsIf_load_mid (by rfl) 62 (.tmp 11) rfl g 5 rfl B _ (fun w h => (l0.out.below h l0.out.lt).at1) Tryd.underlying62 rfl (by rw [(FL.out hB'.out).1]; kernel_rfl)) y0 ?_
    simp only [List.setIfInBounds_toArray, List.set_cons_zero, List.set_cons_succ]
    refine wpAnyH_take_at (i := 4) (v := .pointer (some ⟨g, 0, none⟩)) rfl rfl (by kernel_rfl) (by kernel_rfl) (by kernel_rfl) (fun _ _ _ h => h) (Or.inl ⟨by rfl, fun w hS => by go_simp⟩) y0 ?_
    simp only [List.setIfInBounds_toArray, List.set_cons_zero, List.set_cons_succ]
    refine wpAnyH_take_at (i := 5) (v := .pointer (some ⟨g, 0, none⟩)) rfl rfl (by kernel_rfl) (by kernel_rfl) (by kernel_rfl) (fun _ _ _ h => h) (Or.inl ⟨by rfl, fun w hS => by go_simp⟩) y0 ?_
    simp only [List.setIfInBounds_toArray, List.set_cons_zero, List.set_cons_succ]
    refine wpAnyH_take_at (i := 6) (v := .pointer (some ⟨g, 10, none⟩)) rfl rfl (by kernel_rfl) (by kernel_rfl) (by kernel_rfl) (fun _ _ _ h => h) (Or.inl ⟨by rfl, fun w hS => by go_simp⟩) y0 ?_
    simp only [List.setIfInBounds_toArray, List.set_cons_zero, List.set_cons_succ]
    refine wpAnyH_take_at (i := 7) (v := .agg C.toArray) rfl rfl (by kernel_rfl) (by kernel_rfl) (by kernel_rfl) (fun _ _ _ h => h) (yieldsIf_load_mid (by rfl) 62 (.tmp 15) rfl g 10 rfl C _ (fun w h => (l0.out.below h l0.out.lt).at2) Tryd.underlying62 rfl (by rw [(FL.out hC'.out).1]; kernel_rfl)) y0 ?_
    simp only [List.setIfInBounds_toArray, List.set_cons_zero, List.set_cons_succ]
    refine wpAnyH_take_at (i := 9) (v := .pointer (some ⟨g, 0, none⟩)) rfl rfl (by kernel_rfl) (by kernel_rfl) (by kernel_rfl) (fun _ _ _ h => h) (Or.inl ⟨by rfl, fun w hS => by go_simp⟩) y0 ?_
    simp only [List.setIfInBounds_toArray, List.set_cons_zero, List.set_cons_succ]
    refine wpAnyH_take_at (i := 10) (v := .pointer (some ⟨g, 0, none⟩)) rfl rfl (by kernel_rfl) (by kernel_rfl) (by kernel_rfl) (fun _ _ _ h => h) (Or.inl ⟨by rfl, fun w hS => by go_simp⟩) y0 ?_
    simp only [List.setIfInBounds_toArray, List.set_cons_zero, List.set_cons_succ]
    refine wpAnyH_take_at (i := 11) (v := .pointer (some ⟨g, 5, none⟩)) rfl rfl (by kernel_rfl) (by kernel_rfl) (by kernel_rfl) (fun _ _ _ h => h) (Or.inl ⟨by rfl, fun w hS => by go_simp⟩) y0 ?_
    simp only [List.setIfInBounds_toArray, List.set_cons_zero, List.set_cons_succ]
    refine wpAnyH_take_at (i := 12) (v := .agg B.toArray) rfl rfl (by kernel_rfl) (by kernel_rfl) (by kernel_rfl) (fun _ _ _ h => h) (yieldsIf_load_mid (by rfl) 62 (.tmp 20) rfl g 5 rfl B _ (fun w h => (l0.out.below h l0.out.lt).at1) Tryd.underlying62 rfl (by rw [(FL.out hB'.out).1]; kernel_rfl)) y0 ?_
    simp only [List.setIfInBounds_toArray, List.set_cons_zero, List.set_cons_succ]
    refine wpAnyH_take_at (i := 13) (v := .pointer (some ⟨g, 0, none⟩)) rfl rfl (by kernel_rfl) (by kernel_rfl) (by kernel_rfl) (fun _ _ _ h => h) (Or.inl ⟨by rfl, fun w hS => by go_simp⟩) y0 ?_
    simp only [List.setIfInBounds_toArray, List.set_cons_zero, List.set_cons_succ]
    refine wpAnyH_take_at (i := 14) (v := .pointer (some ⟨g, 0, none⟩)) rfl rfl (by kernel_rfl) (by kernel_rfl) (by kernel_rfl) (fun _ _ _ h => h) (Or.inl ⟨by rfl, fun w hS => by go_simp⟩) y0 ?_
    simp only [List.setIfInBounds_toArray, List.set_cons_zero, List.set_cons_succ]
    refine wpAnyH_take_at (i := 15) (v := .pointer (some ⟨g, 10, none⟩)) rfl rfl (by kernel_rfl) (by kernel_rfl) (by kernel_rfl) (fun _ _ _ h => h) (Or.inl ⟨by rfl, fun w hS => by go_simp⟩) y0 ?_
    simp only [List.setIfInBounds_toArray, List.set_cons_zero, List.set_cons_succ]
    refine wpAnyH_take_at (i := 16) (v := .agg C.toArray) rfl rfl (by kernel_rfl) (by kernel_rfl) (by kernel_rfl) (fun _ _ _ h => h) (yieldsIf_load_mid (by rfl) 62 (.tmp 24) rfl g 10 rfl C _ (fun w h => (l0.out.below h l0.out.lt).at2) Tryd.underlying62 rfl (by rw [(FL.out hC'.out).1]; kernel_rfl)) y0 ?_
    simp only [List.setIfInBounds_toArray, List.set_cons_zero, List.set_cons_succ]
    refine wpAnyH_ready (rs := [8, 18, 19]) (by kernel_rfl) (by simp) ?_
    refine AllReadyH.cons rfl (fun KC hK => ?_) (AllReadyH.cons rfl (fun KC hK => ?_) (AllReadyH.cons rfl (fun KC hK => ?_) AllReadyH.nil))
    · skip
      go_simp
      refine (c17.out _ _ _ hB' hC').mono ?_
      rintro e v1 ⟨T1, rfl, q1, k1⟩
      have hT1 := Lib.hid q1
      have y1 := y0.trans (k1.mono y0.size)
      refine hK.out _ _ y1 (fun _ => ?_)
      clear hK KC q1
      refine wpAnyH_ready (rs := [17, 18, 19]) (by kernel_rfl) (by simp) ?_
      refine AllReadyH.cons rfl (fun KC hK => ?_) (AllReadyH.cons rfl (fun KC hK => ?_) (AllReadyH.cons rfl (fun KC hK => ?_) AllReadyH.nil))
      · skip
        go_simp
        refine (c26.out _ _ _ hB' hC').mono ?_
        rintro e v2 ⟨T2, rfl, q2, k2⟩
        have hT2 := Lib.hid q2
        have y2 := y1.trans (k2.mono y1.size)
        refine hK.out _ _ y2 (fun _ => ?_)
        clear hK KC q2
        refine wpAnyH_ready (rs := [18, 19]) (by kernel_rfl) (by simp) ?_
        refine AllReadyH.cons rfl (fun KC hK => ?_) (AllReadyH.cons rfl (fun KC hK => ?_) AllReadyH.nil)
        · skip
          refine step_alloc_el rfl rfl ?_
          intro v3 gd2 hg3 hN3 k3
          have y3 := y2.trans (k3.mono y2.size)
          have G2 : Hid (w.heap.size ≤ gd2) := Nat.le_trans y2.size hg3
          have m3_2 := Lib.hid hN3
          refine hK.out _ _ y3 (fun _ => ?_)
          clear hK KC hN3 hg3
          refine wpAnyH_ready (rs := [19]) (by kernel_rfl) (by simp) ?_
          refine AllReadyH.cons rfl (fun KC hK => ?_) AllReadyH.nil
          refine step_alloc_el rfl rfl ?_
          intro v4 gd3 hg4 hN4 k4
          have y4 := y3.trans (k4.mono y3.size)
          have G3 : Hid (w.heap.size ≤ gd3) := Nat.le_trans y3.size hg4
          have ne : Hid (gd2 ≠ gd3) := by have := m3_2.out.lt; rw [Hid]; omega
          have m4_2 := Lib.hid (m3_2.out.below k4 m3_2.out.lt)
          have m4_3 := Lib.hid hN4
          refine hK.out _ _ y4 (fun _ => ?_)
          clear hK KC hN4 hg4
          refine wpAnyH_ready (rs := [20]) (by kernel_rfl) (by simp) ?_
          refine AllReadyH.cons rfl (fun KC hK => ?_) AllReadyH.nil
          refine step_store_blk rfl 62 (.tmp 2) (.tmp 17) rfl gd2 T1.toArray rfl rfl 62 z5 m4_2.out (by rw [List.size_toArray, (FL.out hT1.out).1]; kernel_rfl) (by rw [List.size_toArray, (FL.out hT1.out).1]; rfl) (FL.out hT1.out).2 ?_
          intro v5 hb5 ho5
          have y5 := y4.trans (ho5.below y4.size G2.out)
          have m5_3 := Lib.hid (m4_3.out.grown ho5 (by intro e; injection e with e; exact ne.out e.symm))
          have m5_2 : Hid (Blk v5 gd2 62 T1) := hb5
          refine hK.out _ _ y5 (fun _ => ?_)
          clear hK KC
          refine wpAnyH_ready (rs := [21]) (by kernel_rfl) (by simp) ?_
          refine AllReadyH.cons rfl (fun KC hK => ?_) AllReadyH.nil
          refine step_store_blk rfl 62 (.tmp 3) (.tmp 26) rfl gd3 T2.toArray rfl rfl 62 z5 m5_3.out (by rw [List.size_toArray, (FL.out hT2.out).1]; kernel_rfl) (by rw [List.size_toArray, (FL.out hT2.out).1]; rfl) (FL.out hT2.out).2 ?_
          intro v6 hb6 ho6
          have y6 := y5.trans (ho6.below y5.size G3.out)
          have m6_2 := Lib.hid (m5_2.out.grown ho6 (by intro e; injection e with e; exact ne.out e))
          have m6_3 : Hid (Blk v6 gd3 62 T2) := hb6
          refine hK.out _ _ y6 (fun _ => ?_)
          clear hK KC
          refine wpAnyH_done (by kernel_rfl) ?_ _
          go_wp2_with fail
          go_meet
          case rel => exact ⟨gd2, gd3, T1, T2, rfl, rfl, hT1, hT2, m6_2, m6_3, G2, G3, ne, y6⟩
        · skip
          refine step_alloc_el rfl rfl ?_
          intro v7 gd3 hg7 hN7 k7
          have y7 := y2.trans (k7.mono y2.size)
          have G3 : Hid (w.heap.size ≤ gd3) := Nat.le_trans y2.size hg7
          have m7_3 := Lib.hid hN7
          refine hK.out _ _ y7 (fun _ => ?_)
          clear hK KC hN7 hg7
          refine wpAnyH_ready (rs := [18]) (by kernel_rfl) (by simp) ?_
          refine AllReadyH.cons rfl (fun KC hK => ?_) AllReadyH.nil
          refine step_alloc_el rfl rfl ?_
          intro v8 gd2 hg8 hN8 k8
          have y8 := y7.trans (k8.mono y7.size)
          have G2 : Hid (w.heap.size ≤ gd2) := Nat.le_trans y7.size hg8
          have ne : Hid (gd2 ≠ gd3) := by have := m7_3.out.lt; rw [Hid]; omega
          have m8_3 := Lib.hid (m7_3.out.below k8 m7_3.out.lt)
          have m8_2 := Lib.hid hN8
          refine hK.out _ _ y8 (fun _ => ?_)
          clear hK KC hN8 hg8
          refine wpAnyH_ready (rs := [20]) (by kernel_rfl) (by simp) ?_
          refine AllReadyH.cons rfl (fun KC hK => ?_) AllReadyH.nil
          refine step_store_blk rfl 62 (.tmp 2) (.tmp 17) rfl gd2 T1.toArray rfl rfl 62 z5 m8_2.out (by rw [List.size_toArray, (FL.out hT1.out).1]; kernel_rfl) (by rw [List.size_toArray, (FL.out hT1.out).1]; rfl) (FL.out hT1.out).2 ?_
          intro v9 hb9 ho9
          have y9 := y8.trans (ho9.below y8.size G2.out)
          have m9_3 := Lib.hid (m8_3.out.grown ho9 (by intro e; injection e with e; exact ne.out e.symm))
          have m9_2 : Hid (Blk v9 gd2 62 T1) := hb9
          refine hK.out _ _ y9 (fun _ => ?_)
          clear hK KC
          refine wpAnyH_ready (rs := [21]) (by kernel_rfl) (by simp) ?_
          refine AllReadyH.cons rfl (fun KC hK => ?_) AllReadyH.nil
          refine step_store_blk rfl 62 (.tmp 3) (.tmp 26) rfl gd3 T2.toArray rfl rfl 62 z5 m9_3.out (by rw [List.size_toArray, (FL.out hT2.out).1]; kernel_rfl) (by rw [List.size_toArray, (FL.out hT2.out).1]; rfl) (FL.out hT2.out).2 ?_
          intro v10 hb10 ho10
          have y10 := y9.trans (ho10.below y9.size G3.out)
          have m10_2 := Lib.hid (m9_2.out.grown ho10 (by intro e; injection e with e; exact ne.out e))
          have m10_3 : Hid (Blk v10 gd3 62 T2) := hb10
          refine hK.out _ _ y10 (fun _ => ?_)
          clear hK KC
          refine wpAnyH_done (by kernel_rfl) ?_ _
          go_wp2_with fail
          go_meet
          case rel => exact ⟨gd2, gd3, T1, T2, rfl, rfl, hT1, hT2, m10_2, m10_3, G2, G3, ne, y10⟩
      · skip
        refine step_alloc_el rfl rfl ?_
        intro v11 gd2 hg11 hN11 k11
        have y11 := y1.trans (k11.mono y1.size)
        have G2 : Hid (w.heap.size ≤ gd2) := Nat.le_trans y1.size hg11
        have m11_2 := Lib.hid hN11
        refine hK.out _ _ y11 (fun _ => ?_)
        clear hK KC hN11 hg11
        refine wpAnyH_ready (rs := [17, 19]) (by kernel_rfl) (by simp) ?_
        refine AllReadyH.cons rfl (fun KC hK => ?_) (AllReadyH.cons rfl (fun KC hK => ?_) AllReadyH.nil)
        · skip
          go_simp
          refine (c26.out _ _ _ hB' hC').mono ?_
          rintro e v12 ⟨T12, rfl, q12, k12⟩
          have hT12 := Lib.hid q12
          have y12 := y11.trans (k12.mono y11.size)
          have m12_2 := Lib.hid (m11_2.out.below k12 m11_2.out.lt)
          refine hK.out _ _ y12 (fun _ => ?_)
          clear hK KC q12
          refine wpAnyH_ready (rs := [19]) (by kernel_rfl) (by simp) ?_
          refine AllReadyH.cons rfl (fun KC hK => ?_) AllReadyH.nil
          refine step_alloc_el rfl rfl ?_
          intro v13 gd3 hg13 hN13 k13
          have y13 := y12.trans (k13.mono y12.size)
          have G3 : Hid (w.heap.size ≤ gd3) := Nat.le_trans y12.size hg13
          have ne : Hid (gd2 ≠ gd3) := by have := m12_2.out.lt; rw [Hid]; omega
          have m13_2 := Lib.hid (m12_2.out.below k13 m12_2.out.lt)
          have m13_3 := Lib.hid hN13
          refine hK.out _ _ y13 (fun _ => ?_)
          clear hK KC hN13 hg13
          refine wpAnyH_ready (rs := [20]) (by kernel_rfl) (by simp) ?_
          refine AllReadyH.cons rfl (fun KC hK => ?_) AllReadyH.nil
          refine step_store_blk rfl 62 (.tmp 2) (.tmp 17) rfl gd2 T1.toArray rfl rfl 62 z5 m13_2.out (by rw [List.size_toArray, (FL.out hT1.out).1]; kernel_rfl) (by rw [List.size_toArray, (FL.out hT1.out).1]; rfl) (FL.out hT1.out).2 ?_
          intro v14 hb14 ho14
          have y14 := y13.trans (ho14.below y13.size G2.out)
          have m14_3 := Lib.hid (m13_3.out.grown ho14 (by intro e; injection e with e; exact ne.out e.symm))
          have m14_2 : Hid (Blk v14 gd2 62 T1) := hb14
          refine hK.out _ _ y14 (fun _ => ?_)
          clear hK KC
          refine wpAnyH_ready (rs := [21]) (by kernel_rfl) (by simp) ?_
          refine AllReadyH.cons rfl (fun KC hK => ?_) AllReadyH.nil
          refine step_store_blk rfl 62 (.tmp 3) (.tmp 26) rfl gd3 T12.toArray rfl rfl 62 z5 m14_3.out (by rw [List.size_toArray, (FL.out hT12.out).1]; kernel_rfl) (by rw [List.size_toArray, (FL.out hT12.out).1]; rfl) (FL.out hT12.out).2 ?_
          intro v15 hb15 ho15
          have y15 := y14.trans (ho15.below y14.size G3.out)
          have m15_2 := Lib.hid (m14_2.out.grown ho15 (by intro e; injection e with e; exact ne.out e))
          have m15_3 : Hid (Blk v15 gd3 62 T12) := hb15
          refine hK.out _ _ y15 (fun _ => ?_)
          clear hK KC
          refine wpAnyH_done (by kernel_rfl) ?_ _
          go_wp2_with fail
          go_meet
          case rel => exact ⟨gd2, gd3, T1, T12, rfl, rfl, hT1, hT12, m15_2, m15_3, G2, G3, ne, y15⟩
        · skip
          refine step_alloc_el rfl rfl ?_
          intro v16 gd3 hg16 hN16 k16
          have y16 := y11.trans (k16.mono y11.size)
          have G3 : Hid (w.heap.size ≤ gd3) := Nat.le_trans y11.size hg16
          have ne : Hid (gd2 ≠ gd3) := by have := m11_2.out.lt; rw [Hid]; omega
          have m16_2 := Lib.hid (m11_2.out.below k16 m11_2.out.lt)
          have m16_3 := Lib.hid hN16
          refine hK.out _ _ y16 (fun _ => ?_)
          clear hK KC hN16 hg16
          refine wpAnyH_ready (rs := [17]) (by kernel_rfl) (by simp) ?_
          refine AllReadyH.cons rfl (fun KC hK => ?_) AllReadyH.nil
          go_simp
          refine (c26.out _ _ _ hB' hC').mono ?_
          rintro e v17 ⟨T17, rfl, q17, k17⟩
          have hT17 := Lib.hid q17
          have y17 := y16.trans (k17.mono y16.size)
          have m17_2 := Lib.hid (m16_2.out.below k17 m16_2.out.lt)
          have m17_3 := Lib.hid (m16_3.out.below k17 m16_3.out.lt)
          refine hK.out _ _ y17 (fun _ => ?_)
          clear hK KC q17
          refine wpAnyH_ready (rs := [20]) (by kernel_rfl) (by simp) ?_
          refine AllReadyH.cons rfl (fun KC hK => ?_) AllReadyH.nil
          refine step_store_blk rfl 62 (.tmp 2) (.tmp 17) rfl gd2 T1.toArray rfl rfl 62 z5 m17_2.out (by rw [List.size_toArray, (FL.out hT1.out).1]; kernel_rfl) (by rw [List.size_toArray, (FL.out hT1.out).1]; rfl) (FL.out hT1.out).2 ?_
          intro v18 hb18 ho18
          have y18 := y17.trans (ho18.below y17.size G2.out)
          have m18_3 := Lib.hid (m17_3.out.grown ho18 (by intro e; injection e with e; exact ne.out e.symm))
          have m18_2 : Hid (Blk v18 gd2 62 T1) := hb18
          refine hK.out _ _ y18 (fun _ => ?_)
          clear hK KC
          refine wpAnyH_ready (rs := [21]) (by kernel_rfl) (by simp) ?_
          refine AllReadyH.cons rfl (fun KC hK => ?_) AllReadyH.nil
          refine step_store_blk rfl 62 (.tmp 3) (.tmp 26) rfl gd3 T17.toArray rfl rfl 62 z5 m18_3.out (by rw [List.size_toArray, (FL.out hT17.out).1]; kernel_rfl) (by rw [List.size_toArray, (FL.out hT17.out).1]; rfl) (FL.out hT17.out).2 ?_
          intro v19 hb19 ho19
          have y19 := y18.trans (ho19.below y18.size G3.out)
          have m19_2 := Lib.hid (m18_2.out.grown ho19 (by intro e; injection e with e; exact ne.out e))
          have m19_3 : Hid (Blk v19 gd3 62 T17) := hb19
          refine hK.out _ _ y19 (fun _ => ?_)
          clear hK KC
          refine wpAnyH_done (by kernel_rfl) ?_ _
          go_wp2_with fail
          go_meet
          case rel => exact ⟨gd2, gd3, T1, T17, rfl, rfl, hT1, hT17, m19_2, m19_3, G2, G3, ne, y19⟩
      · skip
        refine step_alloc_el rfl rfl ?_
        intro v20 gd3 hg20 hN20 k20
        have y20 := y1.trans (k20.mono y1.size)
        have G3 : Hid (w.heap.size ≤ gd3) := Nat.le_trans y1.size hg20
        have m20_3 := Lib.hid hN20
        refine hK.out _ _ y20 (fun _ => ?_)
        clear hK KC hN20 hg20
        refine wpAnyH_ready (rs := [17, 18]) (by kernel_rfl) (by simp) ?_
        refine AllReadyH.cons rfl (fun KC hK => ?_) (AllReadyH.cons rfl (fun KC hK => ?_) AllReadyH.nil)
        · skip
          go_simp
          refine (c26.out _ _ _ hB' hC').mono ?_
          rintro e v21 ⟨T21, rfl, q21, k21⟩
          have hT21 := Lib.hid q21
          have y21 := y20.trans (k21.mono y20.size)
          have m21_3 := Lib.hid (m20_3.out.below k21 m20_3.out.lt)
          refine hK.out _ _ y21 (fun _ => ?_)
          clear hK KC q21
          refine wpAnyH_ready (rs := [18]) (by kernel_rfl) (by simp) ?_
          refine AllReadyH.cons rfl (fun KC hK => ?_) AllReadyH.nil
          refine step_alloc_el rfl rfl ?_
          intro v22 gd2 hg22 hN22 k22
          have y22 := y21.trans (k22.mono y21.size)
          have G2 : Hid (w.heap.size ≤ gd2) := Nat.le_trans y21.size hg22
          have ne : Hid (gd2 ≠ gd3) := by have := m21_3.out.lt; rw [Hid]; omega
          have m22_3 := Lib.hid (m21_3.out.below k22 m21_3.out.lt)
          have m22_2 := Lib.hid hN22
          refine hK.out _ _ y22 (fun _ => ?_)
          clear hK KC hN22 hg22
          refine wpAnyH_ready (rs := [20]) (by kernel_rfl) (by simp) ?_
          refine AllReadyH.cons rfl (fun KC hK => ?_) AllReadyH.nil
          refine step_store_blk rfl 62 (.tmp 2) (.tmp 17) rfl gd2 T1.toArray rfl rfl 62 z5 m22_2.out (by rw [List.size_toArray, (FL.out hT1.out).1]; kernel_rfl) (by rw [List.size_toArray, (FL.out hT1.out).1]; rfl) (FL.out hT1.out).2 ?_
          intro v23 hb23 ho23
          have y23 := y22.trans (ho23.below y22.size G2.out)
          have m23_3 := Lib.hid (m22_3.out.grown ho23 (by intro e; injection e with e; exact ne.out e.symm))
          have m23_2 : Hid (Blk v23 gd2 62 T1) := hb23
          refine hK.out _ _ y23 (fun _ => ?_)
          clear hK KC
          refine wpAnyH_ready (rs := [21]) (by kernel_rfl) (by simp) ?_
          refine AllReadyH.cons rfl (fun KC hK => ?_) AllReadyH.nil
          refine step_store_blk rfl 62 (.tmp 3) (.tmp 26) rfl gd3 T21.toArray rfl rfl 62 z5 m23_3.out (by rw [List.size_toArray, (FL.out hT21.out).1]; kernel_rfl) (by rw [List.size_toArray, (FL.out hT21.out).1]; rfl) (FL.out hT21.out).2 ?_
          intro v24 hb24 ho24
          have y24 := y23.trans (ho24.below y23.size G3.out)
          have m24_2 := Lib.hid (m23_2.out.grown ho24 (by intro e; injection e with e; exact ne.out e))
          have m24_3 : Hid (Blk v24 gd3 62 T21) := hb24
          refine hK.out _ _ y24 (fun _ => ?_)
          clear hK KC
          refine wpAnyH_done (by kernel_rfl) ?_ _
          go_wp2_with fail
          go_meet
          case rel => exact ⟨gd2, gd3, T1, T21, rfl, rfl, hT1, hT21, m24_2, m24_3, G2, G3, ne, y24⟩
        · skip
          refine step_alloc_el rfl rfl ?_
          intro v25 gd2 hg25 hN25 k25
          have y25 := y20.trans (k25.mono y20.size)
          have G2 : Hid (w.heap.size ≤ gd2) := Nat.le_trans y20.size hg25
          have ne : Hid (gd2 ≠ gd3) := by have := m20_3.out.lt; rw [Hid]; omega
          have m25_3 := Lib.hid (m20_3.out.below k25 m20_3.out.lt)
          have m25_2 := Lib.hid hN25
          refine hK.out _ _ y25 (fun _ => ?_)
          clear hK KC hN25 hg25
          refine wpAnyH_ready (rs := [17]) (by kernel_rfl) (by simp) ?_
          refine AllReadyH.cons rfl (fun KC hK => ?_) AllReadyH.nil
          go_simp
          refine (c26.out _ _ _ hB' hC').mono ?_
          rintro e v26 ⟨T26, rfl, q26, k26⟩
          have hT26 := Lib.hid q26
          have y26 := y25.trans (k26.mono y25.size)
          have m26_3 := Lib.hid (m25_3.out.below k26 m25_3.out.lt)
          have m26_2 := Lib.hid (m25_2.out.below k26 m25_2.out.lt)
          refine hK.out _ _ y26 (fun _ => ?_)
          clear hK KC q26
          refine wpAnyH_ready (rs := [20]) (by kernel_rfl) (by simp) ?_
          refine AllReadyH.cons rfl (fun KC hK => ?_) AllReadyH.nil
          refine step_store_blk rfl 62 (.tmp 2) (.tmp 17) rfl gd2 T1.toArray rfl rfl 62 z5 m26_2.out (by rw [List.size_toArray, (FL.out hT1.out).1]; kernel_rfl) (by rw [List.size_toArray, (FL.out hT1.out).1]; rfl) (FL.out hT1.out).2 ?_
          intro v27 hb27 ho27
          have y27 := y26.trans (ho27.below y26.size G2.out)
          have m27_3 := Lib.hid (m26_3.out.grown ho27 (by intro e; injection e with e; exact ne.out e.symm))
          have m27_2 : Hid (Blk v27 gd2 62 T1) := hb27
          refine hK.out _ _ y27 (fun _ => ?_)
          clear hK KC
          refine wpAnyH_ready (rs := [21]) (by kernel_rfl) (by simp) ?_
          refine AllReadyH.cons rfl (fun KC hK => ?_) AllReadyH.nil
          refine step_store_blk rfl 62 (.tmp 3) (.tmp 26) rfl gd3 T26.toArray rfl rfl 62 z5 m27_3.out (by rw [List.size_toArray, (FL.out hT26.out).1]; kernel_rfl) (by rw [List.size_toArray, (FL.out hT26.out).1]; rfl) (FL.out hT26.out).2 ?_
          intro v28 hb28 ho28
          have y28 := y27.trans (ho28.below y27.size G3.out)
          have m28_2 := Lib.hid (m27_2.out.grown ho28 (by intro e; injection e with e; exact ne.out e))
          have m28_3 : Hid (Blk v28 gd3 62 T26) := hb28
          refine hK.out _ _ y28 (fun _ => ?_)
          clear hK KC
          refine wpAnyH_done (by kernel_rfl) ?_ _
          go_wp2_with fail
          go_meet
          case rel => exact ⟨gd2, gd3, T1, T26, rfl, rfl, hT1, hT26, m28_2, m28_3, G2, G3, ne, y28⟩
    · skip
      refine step_alloc_el rfl rfl ?_
      intro v29 gd2 hg29 hN29 k29
      have y29 := y0.trans (k29.mono y0.size)
      have G2 : Hid (w.heap.size ≤ gd2) := Nat.le_trans y0.size hg29
      have m29_2 := Lib.hid hN29
      refine hK.out _ _ y29 (fun _ => ?_)
      clear hK KC hN29 hg29
      refine wpAnyH_ready (rs := [8, 19]) (by kernel_rfl) (by simp) ?_
      refine AllReadyH.cons rfl (fun KC hK => ?_) (AllReadyH.cons rfl (fun KC hK => ?_) AllReadyH.nil)
      · skip
        go_simp
        refine (c17.out _ _ _ hB' hC').mono ?_
        rintro e v30 ⟨T30, rfl, q30, k30⟩
        have hT30 := Lib.hid q30
        have y30 := y29.trans (k30.mono y29.size)
        have m30_2 := Lib.hid (m29_2.out.below k30 m29_2.out.lt)
        refine hK.out _ _ y30 (fun _ => ?_)
        clear hK KC q30
        refine wpAnyH_ready (rs := [17, 19]) (by kernel_rfl) (by simp) ?_
        refine AllReadyH.cons rfl (fun KC hK => ?_) (AllReadyH.cons rfl (fun KC hK => ?_) AllReadyH.nil)
        · skip
          go_simp
          refine (c26.out _ _ _ hB' hC').mono ?_
          rintro e v31 ⟨T31, rfl, q31, k31⟩
          have hT31 := Lib.hid q31
          have y31 := y30.trans (k31.mono y30.size)
          have m31_2 := Lib.hid (m30_2.out.below k31 m30_2.out.lt)
          refine hK.out _ _ y31 (fun _ => ?_)
          clear hK KC q31
          refine wpAnyH_ready (rs := [19]) (by kernel_rfl) (by simp) ?_
          refine AllReadyH.cons rfl (fun KC hK => ?_) AllReadyH.nil
          refine step_alloc_el rfl rfl ?_
          intro v32 gd3 hg32 hN32 k32
          have y32 := y31.trans (k32.mono y31.size)
          have G3 : Hid (w.heap.size ≤ gd3) := Nat.le_trans y31.size hg32
          have ne : Hid (gd2 ≠ gd3) := by have := m31_2.out.lt; rw [Hid]; omega
          have m32_2 := Lib.hid (m31_2.out.below k32 m31_2.out.lt)
          have m32_3 := Lib.hid hN32
          refine hK.out _ _ y32 (fun _ => ?_)
          clear hK KC hN32 hg32
          refine wpAnyH_ready (rs := [20]) (by kernel_rfl) (by simp) ?_
          refine AllReadyH.cons rfl (fun KC hK => ?_) AllReadyH.nil
          refine step_store_blk rfl 62 (.tmp 2) (.tmp 17) rfl gd2 T30.toArray rfl rfl 62 z5 m32_2.out (by rw [List.size_toArray, (FL.out hT30.out).1]; kernel_rfl) (by rw [List.size_toArray, (FL.out hT30.out).1]; rfl) (FL.out hT30.out).2 ?_
          intro v33 hb33 ho33
          have y33 := y32.trans (ho33.below y32.size G2.out)
          have m33_3 := Lib.hid (m32_3.out.grown ho33 (by intro e; injection e with e; exact ne.out e.symm))
          have m33_2 : Hid (Blk v33 gd2 62 T30) := hb33
          refine hK.out _ _ y33 (fun _ => ?_)
          clear hK KC
          refine wpAnyH_ready (rs := [21]) (by kernel_rfl) (by simp) ?_
          refine AllReadyH.cons rfl (fun KC hK => ?_) AllReadyH.nil
          refine step_store_blk rfl 62 (.tmp 3) (.tmp 26) rfl gd3 T31.toArray rfl rfl 62 z5 m33_3.out (by rw [List.size_toArray, (FL.out hT31.out).1]; kernel_rfl) (by rw [List.size_toArray, (FL.out hT31.out).1]; rfl) (FL.out hT31.out).2 ?_
          intro v34 hb34 ho34
          have y34 := y33.trans (ho34.below y33.size G3.out)
          have m34_2 := Lib.hid (m33_2.out.grown ho34 (by intro e; injection e with e; exact ne.out e))
          have m34_3 : Hid (Blk v34 gd3 62 T31) := hb34
          refine hK.out _ _ y34 (fun _ => ?_)
          clear hK KC
          refine wpAnyH_done (by kernel_rfl) ?_ _
          go_wp2_with fail
          go_meet
          case rel => exact ⟨gd2, gd3, T30, T31, rfl, rfl, hT30, hT31, m34_2, m34_3, G2, G3, ne, y34⟩
        · skip
          refine step_alloc_el rfl rfl ?_
          intro v35 gd3 hg35 hN35 k35
          have y35 := y30.trans (k35.mono y30.size)
          have G3 : Hid (w.heap.size ≤ gd3) := Nat.le_trans y30.size hg35
          have ne : Hid (gd2 ≠ gd3) := by have := m30_2.out.lt; rw [Hid]; omega
          have m35_2 := Lib.hid (m30_2.out.below k35 m30_2.out.lt)
          have m35_3 := Lib.hid hN35
          refine hK.out _ _ y35 (fun _ => ?_)
          clear hK KC hN35 hg35
          refine wpAnyH_ready (rs := [17]) (by kernel_rfl) (by simp) ?_
          refine AllReadyH.cons rfl (fun KC hK => ?_) AllReadyH.nil
          go_simp
          refine (c26.out _ _ _ hB' hC').mono ?_
          rintro e v36 ⟨T36, rfl, q36, k36⟩
          have hT36 := Lib.hid q36
          have y36 := y35.trans (k36.mono y35.size)
          have m36_2 := Lib.hid (m35_2.out.below k36 m35_2.out.lt)
          have m36_3 := Lib.hid (m35_3.out.below k36 m35_3.out.lt)
          refine hK.out _ _ y36 (fun _ => ?_)
          clear hK KC q36
          refine wpAnyH_ready (rs := [20]) (by kernel_rfl) (by simp) ?_
          refine AllReadyH.cons rfl (fun KC hK => ?_) AllReadyH.nil
          refine step_store_blk rfl 62 (.tmp 2) (.tmp 17) rfl gd2 T30.toArray rfl rfl 62 z5 m36_2.out (by rw [List.size_toArray, (FL.out hT30.out).1]; kernel_rfl) (by rw [List.size_toArray, (FL.out hT30.out).1]; rfl) (FL.out hT30.out).2 ?_
          intro v37 hb37 ho37
          have y37 := y36.trans (ho37.below y36.size G2.out)
          have m37_3 := Lib.hid (m36_3.out.grown ho37 (by intro e; injection e with e; exact ne.out e.symm))
          have m37_2 : Hid (Blk v37 gd2 62 T30) := hb37
          refine hK.out _ _ y37 (fun _ => ?_)
          clear hK KC
          refine wpAnyH_ready (rs := [21]) (by kernel_rfl) (by simp) ?_
          refine AllReadyH.cons rfl (fun KC hK => ?_) AllReadyH.nil
          refine step_store_blk rfl 62 (.tmp 3) (.tmp 26) rfl gd3 T36.toArray rfl rfl 62 z5 m37_3.out (by rw [List.size_toArray, (FL.out hT36.out).1]; kernel_rfl) (by rw [List.size_toArray, (FL.out hT36.out).1]; rfl) (FL.out hT36.out).2 ?_
          intro v38 hb38 ho38
          have y38 := y37.trans (ho38.below y37.size G3.out)
          have m38_2 := Lib.hid (m37_2.out.grown ho38 (by intro e; injection e with e; exact ne.out e))
          have m38_3 : Hid (Blk v38 gd3 62 T36) := hb38
          refine hK.out _ _ y38 (fun _ => ?_)
          clear hK KC
          refine wpAnyH_done (by kernel_rfl) ?_ _
          go_wp2_with fail
          go_meet
          case rel => exact ⟨gd2, gd3, T30, T36, rfl, rfl, hT30, hT36, m38_2, m38_3, G2, G3, ne, y38⟩
      · skip
        refine step_alloc_el rfl rfl ?_
        intro v39 gd3 hg39 hN39 k39
        have y39 := y29.trans (k39.mono y29.size)
        have G3 : Hid (w.heap.size ≤ gd3) := Nat.le_trans y29.size hg39
        have ne : Hid (gd2 ≠ gd3) := by have := m29_2.out.lt; rw [Hid]; omega
        have m39_2 := Lib.hid (m29_2.out.below k39 m29_2.out.lt)
        have m39_3 := Lib.hid hN39
        refine hK.out _ _ y39 (fun _ => ?_)
        clear hK KC hN39 hg39
        refine wpAnyH_ready (rs := [8]) (by kernel_rfl) (by simp) ?_
        refine AllReadyH.cons rfl (fun KC hK => ?_) AllReadyH.nil
        go_simp
        refine (c17.out _ _ _ hB' hC').mono ?_
        rintro e v40 ⟨T40, rfl, q40, k40⟩
        have hT40 := Lib.hid q40
        have y40 := y39.trans (k40.mono y39.size)
        have m40_2 := Lib.hid (m39_2.out.below k40 m39_2.out.lt)
        have m40_3 := Lib.hid (m39_3.out.below k40 m39_3.out.lt)
        refine hK.out _ _ y40 (fun _ => ?_)
        clear hK KC q40
        refine wpAnyH_ready (rs := [17]) (by kernel_rfl) (by simp) ?_
        refine AllReadyH.cons rfl (fun KC hK => ?_) AllReadyH.nil
        go_simp
        refine (c26.out _ _ _ hB' hC').mono ?_
        rintro e v41 ⟨T41, rfl, q41, k41⟩
        have hT41 := Lib.hid q41
        have y41 := y40.trans (k41.mono y40.size)
        have m41_2 := Lib.hid (m40_2.out.below k41 m40_2.out.lt)
        have m41_3 := Lib.hid (m40_3.out.below k41 m40_3.out.lt)
        refine hK.out _ _ y41 (fun _ => ?_)
        clear hK KC q41
        refine wpAnyH_ready (rs := [20]) (by kernel_rfl) (by simp) ?_
        refine AllReadyH.cons rfl (fun KC hK => ?_) AllReadyH.nil
        refine step_store_blk rfl 62 (.tmp 2) (.tmp 17) rfl gd2 T40.toArray rfl rfl 62 z5 m41_2.out (by rw [List.size_toArray, (FL.out hT40.out).1]; kernel_rfl) (by rw [List.size_toArray, (FL.out hT40.out).1]; rfl) (FL.out hT40.out).2 ?_
        intro v42 hb42 ho42
        have y42 := y41.trans (ho42.below y41.size G2.out)
        have m42_3 := Lib.hid (m41_3.out.grown ho42 (by intro e; injection e with e; exact ne.out e.symm))
        have m42_2 : Hid (Blk v42 gd2 62 T40) := hb42
        refine hK.out _ _ y42 (fun _ => ?_)
        clear hK KC
        refine wpAnyH_ready (rs := [21]) (by kernel_rfl) (by simp) ?_
        refine AllReadyH.cons rfl (fun KC hK => ?_) AllReadyH.nil
        refine step_store_blk rfl 62 (.tmp 3) (.tmp 26) rfl gd3 T41.toArray rfl rfl 62 z5 m42_3.out (by rw [List.size_toArray, (FL.out hT41.out).1]; kernel_rfl) (by rw [List.size_toArray, (FL.out hT41.out).1]; rfl) (FL.out hT41.out).2 ?_
        intro v43 hb43 ho43
        have y43 := y42.trans (ho43.below y42.size G3.out)
        have m43_2 := Lib.hid (m42_2.out.grown ho43 (by intro e; injection e with e; exact ne.out e))
        have m43_3 : Hid (Blk v43 gd3 62 T41) := hb43
        refine hK.out _ _ y43 (fun _ => ?_)
        clear hK KC
        refine wpAnyH_done (by kernel_rfl) ?_ _
        go_wp2_with fail
        go_meet
        case rel => exact ⟨gd2, gd3, T40, T41, rfl, rfl, hT40, hT41, m43_2, m43_3, G2, G3, ne, y43⟩
    · skip
      refine step_alloc_el rfl rfl ?_
      intro v44 gd3 hg44 hN44 k44
      have y44 := y0.trans (k44.mono y0.size)
      have G3 : Hid (w.heap.size ≤ gd3) := Nat.le_trans y0.size hg44
      have m44_3 := Lib.hid hN44
      refine hK.out _ _ y44 (fun _ => ?_)
      clear hK KC hN44 hg44
      refine wpAnyH_ready (rs := [8, 18]) (by kernel_rfl) (by simp) ?_
      refine AllReadyH.cons rfl (fun KC hK => ?_) (AllReadyH.cons rfl (fun KC hK => ?_) AllReadyH.nil)
      · skip
        go_simp
        refine (c17.out _ _ _ hB' hC').mono ?_
        rintro e v45 ⟨T45, rfl, q45, k45⟩
        have hT45 := Lib.hid q45
        have y45 := y44.trans (k45.mono y44.size)
        have m45_3 := Lib.hid (m44_3.out.below k45 m44_3.out.lt)
        refine hK.out _ _ y45 (fun _ => ?_)
        clear hK KC q45
        refine wpAnyH_ready (rs := [17, 18]) (by kernel_rfl) (by simp) ?_
        refine AllReadyH.cons rfl (fun KC hK => ?_) (AllReadyH.cons rfl (fun KC hK => ?_) AllReadyH.nil)
        · skip
          go_simp
          refine (c26.out _ _ _ hB' hC').mono ?_
          rintro e v46 ⟨T46, rfl, q46, k46⟩
          have hT46 := Lib.hid q46
          have y46 := y45.trans (k46.mono y45.size)
          have m46_3 := Lib.hid (m45_3.out.below k46 m45_3.out.lt)
          refine hK.out _ _ y46 (fun _ => ?_)
          clear hK KC q46
          refine wpAnyH_ready (rs := [18]) (by kernel_rfl) (by simp) ?_
          refine AllReadyH.cons rfl (fun KC hK => ?_) AllReadyH.nil
          refine step_alloc_el rfl rfl ?_
          intro v47 gd2 hg47 hN47 k47
          have y47 := y46.trans (k47.mono y46.size)
          have G2 : Hid (w.heap.size ≤ gd2) := Nat.le_trans y46.size hg47
          have ne : Hid (gd2 ≠ gd3) := by have := m46_3.out.lt; rw [Hid]; omega
          have m47_3 := Lib.hid (m46_3.out.below k47 m46_3.out.lt)
          have m47_2 := Lib.hid hN47
          refine hK.out _ _ y47 (fun _ => ?_)
          clear hK KC hN47 hg47
          refine wpAnyH_ready (rs := [20]) (by kernel_rfl) (by simp) ?_
          refine AllReadyH.cons rfl (fun KC hK => ?_) AllReadyH.nil
          refine step_store_blk rfl 62 (.tmp 2) (.tmp 17) rfl gd2 T45.toArray rfl rfl 62 z5 m47_2.out (by rw [List.size_toArray, (FL.out hT45.out).1]; kernel_rfl) (by rw [List.size_toArray, (FL.out hT45.out).1]; rfl) (FL.out hT45.out).2 ?_
          intro v48 hb48 ho48
          have y48 := y47.trans (ho48.below y47.size G2.out)
          have m48_3 := Lib.hid (m47_3.out.grown ho48 (by intro e; injection e with e; exact ne.out e.symm))
          have m48_2 : Hid (Blk v48 gd2 62 T45) := hb48
          refine hK.out _ _ y48 (fun _ => ?_)
          clear hK KC
          refine wpAnyH_ready (rs := [21]) (by kernel_rfl) (by simp) ?_
          refine AllReadyH.cons rfl (fun KC hK => ?_) AllReadyH.nil
          refine step_store_blk rfl 62 (.tmp 3) (.tmp 26) rfl gd3 T46.toArray rfl rfl 62 z5 m48_3.out (by rw [List.size_toArray, (FL.out hT46.out).1]; kernel_rfl) (by rw [List.size_toArray, (FL.out hT46.out).1]; rfl) (FL.out hT46.out).2 ?_
          intro v49 hb49 ho49
          have y49 := y48.trans (ho49.below y48.size G3.out)
          have m49_2 := Lib.hid (m48_2.out.grown ho49 (by intro e; injection e with e; exact ne.out e))
          have m49_3 : Hid (Blk v49 gd3 62 T46) := hb49
          refine hK.out _ _ y49 (fun _ => ?_)
          clear hK KC
          refine wpAnyH_done (by kernel_rfl) ?_ _
          go_wp2_with fail
          go_meet
          case rel => exact ⟨gd2, gd3, T45, T46, rfl, rfl, hT45, hT46, m49_2, m49_3, G2, G3, ne, y49⟩
        · skip
          refine step_alloc_el rfl rfl ?_
          intro v50 gd2 hg50 hN50 k50
          have y50 := y45.trans (k50.mono y45.size)
          have G2 : Hid (w.heap.size ≤ gd2) := Nat.le_trans y45.size hg50
          have ne : Hid (gd2 ≠ gd3) := by have := m45_3.out.lt; rw [Hid]; omega
          have m50_3 := Lib.hid (m45_3.out.below k50 m45_3.out.lt)
          have m50_2 := Lib.hid hN50
          refine hK.out _ _ y50 (fun _ => ?_)
          clear hK KC hN50 hg50
          refine wpAnyH_ready (rs := [17]) (by kernel_rfl) (by simp) ?_
          refine AllReadyH.cons rfl (fun KC hK => ?_) AllReadyH.nil
          go_simp
          refine (c26.out _ _ _ hB' hC').mono ?_
          rintro e v51 ⟨T51, rfl, q51, k51⟩
          have hT51 := Lib.hid q51
          have y51 := y50.trans (k51.mono y50.size)
          have m51_3 := Lib.hid (m50_3.out.below k51 m50_3.out.lt)
          have m51_2 := Lib.hid (m50_2.out.below k51 m50_2.out.lt)
          refine hK.out _ _ y51 (fun _ => ?_)
          clear hK KC q51
          refine wpAnyH_ready (rs := [20]) (by kernel_rfl) (by simp) ?_
          refine AllReadyH.cons rfl (fun KC hK => ?_) AllReadyH.nil
          refine step_store_blk rfl 62 (.tmp 2) (.tmp 17) rfl gd2 T45.toArray rfl rfl 62 z5 m51_2.out (by rw [List.size_toArray, (FL.out hT45.out).1]; kernel_rfl) (by rw [List.size_toArray, (FL.out hT45.out).1]; rfl) (FL.out hT45.out).2 ?_
          intro v52 hb52 ho52
          have y52 := y51.trans (ho52.below y51.size G2.out)
          have m52_3 := Lib.hid (m51_3.out.grown ho52 (by intro e; injection e with e; exact ne.out e.symm))
          have m52_2 : Hid (Blk v52 gd2 62 T45) := hb52
          refine hK.out _ _ y52 (fun _ => ?_)
          clear hK KC
          refine wpAnyH_ready (rs := [21]) (by kernel_rfl) (by simp) ?_
          refine AllReadyH.cons rfl (fun KC hK => ?_) AllReadyH.nil
          refine step_store_blk rfl 62 (.tmp 3) (.tmp 26) rfl gd3 T51.toArray rfl rfl 62 z5 m52_3.out (by rw [List.size_toArray, (FL.out hT51.out).1]; kernel_rfl) (by rw [List.size_toArray, (FL.out hT51.out).1]; rfl) (FL.out hT51.out).2 ?_
          intro v53 hb53 ho53
          have y53 := y52.trans (ho53.below y52.size G3.out)
          have m53_2 := Lib.hid (m52_2.out.grown ho53 (by intro e; injection e with e; exact ne.out e))
          have m53_3 : Hid (Blk v53 gd3 62 T51) := hb53
          refine hK.out _ _ y53 (fun _ => ?_)
          clear hK KC
          refine wpAnyH_done (by kernel_rfl) ?_ _
          go_wp2_with fail
          go_meet
          case rel => exact ⟨gd2, gd3, T45, T51, rfl, rfl, hT45, hT51, m53_2, m53_3, G2, G3, ne, y53⟩
      · skip
        refine step_alloc_el rfl rfl ?_
        intro v54 gd2 hg54 hN54 k54
        have y54 := y44.trans (k54.mono y44.size)
        have G2 : Hid (w.heap.size ≤ gd2) := Nat.le_trans y44.size hg54
        have ne : Hid (gd2 ≠ gd3) := by have := m44_3.out.lt; rw [Hid]; omega
        have m54_3 := Lib.hid (m44_3.out.below k54 m44_3.out.lt)
        have m54_2 := Lib.hid hN54
        refine hK.out _ _ y54 (fun _ => ?_)
        clear hK KC hN54 hg54
        refine wpAnyH_ready (rs := [8]) (by kernel_rfl) (by simp) ?_
        refine AllReadyH.cons rfl (fun KC hK => ?_) AllReadyH.nil
        go_simp
        refine (c17.out _ _ _ hB' hC').mono ?_
        rintro e v55 ⟨T55, rfl, q55, k55⟩
        have hT55 := Lib.hid q55
        have y55 := y54.trans (k55.mono y54.size)
        have m55_3 := Lib.hid (m54_3.out.below k55 m54_3.out.lt)
        have m55_2 := Lib.hid (m54_2.out.below k55 m54_2.out.lt)
        refine hK.out _ _ y55 (fun _ => ?_)
        clear hK KC q55
        refine wpAnyH_ready (rs := [17]) (by kernel_rfl) (by simp) ?_
        refine AllReadyH.cons rfl (fun KC hK => ?_) AllReadyH.nil
        go_simp
        refine (c26.out _ _ _ hB' hC').mono ?_
        rintro e v56 ⟨T56, rfl, q56, k56⟩
        have hT56 := Lib.hid q56
        have y56 := y55.trans (k56.mono y55.size)
        have m56_3 := Lib.hid (m55_3.out.below k56 m55_3.out.lt)
        have m56_2 := Lib.hid (m55_2.out.below k56 m55_2.out.lt)
        refine hK.out _ _ y56 (fun _ => ?_)
        clear hK KC q56
        refine wpAnyH_ready (rs := [20]) (by kernel_rfl) (by simp) ?_
        refine AllReadyH.cons rfl (fun KC hK => ?_) AllReadyH.nil
        refine step_store_blk rfl 62 (.tmp 2) (.tmp 17) rfl gd2 T55.toArray rfl rfl 62 z5 m56_2.out (by rw [List.size_toArray, (FL.out hT55.out).1]; kernel_rfl) (by rw [List.size_toArray, (FL.out hT55.out).1]; rfl) (FL.out hT55.out).2 ?_
        intro v57 hb57 ho57
        have y57 := y56.trans (ho57.below y56.size G2.out)
        have m57_3 := Lib.hid (m56_3.out.grown ho57 (by intro e; injection e with e; exact ne.out e.symm))
        have m57_2 : Hid (Blk v57 gd2 62 T55) := hb57
        refine hK.out _ _ y57 (fun _ => ?_)
        clear hK KC
        refine wpAnyH_ready (rs := [21]) (by kernel_rfl) (by simp) ?_
        refine AllReadyH.cons rfl (fun KC hK => ?_) AllReadyH.nil
        refine step_store_blk rfl 62 (.tmp 3) (.tmp 26) rfl gd3 T56.toArray rfl rfl 62 z5 m57_3.out (by rw [List.size_toArray, (FL.out hT56.out).1]; kernel_rfl) (by rw [List.size_toArray, (FL.out hT56.out).1]; rfl) (FL.out hT56.out).2 ?_
        intro v58 hb58 ho58
        have y58 := y57.trans (ho58.below y57.size G3.out)
        have m58_2 := Lib.hid (m57_2.out.grown ho58 (by intro e; injection e with e; exact ne.out e))
        have m58_3 : Hid (Blk v58 gd3 62 T56) := hb58
        refine hK.out _ _ y58 (fun _ => ?_)
        clear hK KC
        refine wpAnyH_done (by kernel_rfl) ?_ _
        go_wp2_with fail
        go_meet
        case rel => exact ⟨gd2, gd3, T55, T56, rfl, rfl, hT55, hT56, m58_2, m58_3, G2, G3, ne, y58⟩
  case rest =>
  obtain ⟨g2, g3, L2, L3, rfl, rfl, h2, h3, b2, b3, G2, G3, ne59, Y59⟩ := hcut
  obtain ⟨X59, rfl⟩ : ∃ x, x = wc := ⟨_, rfl⟩
  have l60 := Lib.hid (l0.out.below Y59.out l0.out.lt)
  clear l0
  have G2' : Hid (n0 ≤ g2) := Nat.le_trans (Nat.le_trans HN.out KO0.out.size) G2.out
  clear G2
  have G3' : Hid (n0 ≤ g3) := Nat.le_trans (Nat.le_trans HN.out KO0.out.size) G3.out
  clear G3
  have KO59 : Hid (Only g w X59) := KO0.out.trans (Only.of_below Y59.out)
  clear KO0 Y59
  go_upto_region 1 with fail
  go_cut [4, 5] from 27 to 30 (fun z0 z1 wx => ∃ (p0 p1 : Nat) (S0 S1 : List Value), z0 = .pointer (some ⟨p0, 0, none⟩) ∧ z1 = .pointer (some ⟨p1, 0, none⟩) ∧ Hid (Fe S0 raa) ∧ Hid (Fe S1 rbb) ∧ Hid (Blk wx p0 62 S0) ∧ Hid (Blk wx p1 62 S1) ∧ Hid (X59.heap.size ≤ p0) ∧ Hid (X59.heap.size ≤ p1) ∧ Hid (p0 ≠ p1) ∧ Hid (Below X59.heap.size X59 wx))
  case first =>
    refine wp_region_any (by kernel_rfl) ?_
    change wpAny _ _ _ _ _ _ _ (World.drew _)
    refine wpAny_of_held (S := fun w' => Below X59.heap.size X59 w') _ _ _ _ ?_
    have y0 : Below X59.heap.size X59 X59.drew := below_draws X59 1
    refine wpAnyH_take_at (i := 0) (v := .agg L2.toArray) rfl rfl (by kernel_rfl) (by kernel_rfl) (by kernel_rfl) (fun _ _ _ h => h) (yieldsIf_load_mid (by rfl) 62 (.tmp 2) rfl g2 0 rfl L2 _ (fun w h => (b2.out.below h b2.out.lt).range 0 _ [] (by simp)) Tryd.underlying62 rfl (by rw [(FL.out h2.out).1]; kernel_rfl)) y0 ?_
    simp only [List.setIfInBounds_toArray, List.set_cons_zero, List.set_cons_succ]
    refine wpAnyH_take_at (i := 2) (v := .agg L3.toArray) rfl rfl (by kernel_rfl) (by kernel_rfl) (by kernel_rfl) (fun _ _ _ h => h) (yieldsIf_load_mid (by rfl) 62 (.tmp 3) rfl g3 0 rfl L3 _ (fun w h => (b3.out.below h b3.out.lt).range 0 _ [] (by simp)) Tryd.underlying62 rfl (by rw [(FL.out h3.out).1]; kernel_rfl)) y0 ?_
    simp only [List.setIfInBounds_toArray, List.set_cons_zero, List.set_cons_succ]
    refine wpAnyH_ready (rs := [1, 4, 5]) (by kernel_rfl) (by simp) ?_
    refine AllReadyH.cons rfl (fun KC hK => ?_) (AllReadyH.cons rfl (fun KC hK => ?_) (AllReadyH.cons rfl (fun KC hK => ?_) AllReadyH.nil))
    · skip
      go_simp
      refine (c28.out _ _ h2).mono ?_
      rintro e v61 ⟨T61, rfl, q61, k61⟩
      have hT61 := Lib.hid q61
      have y61 := y0.trans (k61.mono y0.size)
      refine hK.out _ _ y61 (fun _ => ?_)
      clear hK KC q61
      refine wpAnyH_ready (rs := [3, 4, 5]) (by kernel_rfl) (by simp) ?_
      refine AllReadyH.cons rfl (fun KC hK => ?_) (AllReadyH.cons rfl (fun KC hK => ?_) (AllReadyH.cons rfl (fun KC hK => ?_) AllReadyH.nil))
      · skip
        go_simp
        refine (c30.out _ _ h3).mono ?_
        rintro e v62 ⟨T62, rfl, q62, k62⟩
        have hT62 := Lib.hid q62
        have y62 := y61.trans (k62.mono y61.size)
        refine hK.out _ _ y62 (fun _ => ?_)
        clear hK KC q62
        refine wpAnyH_ready (rs := [4, 5]) (by kernel_rfl) (by simp) ?_
        refine AllReadyH.cons rfl (fun KC hK => ?_) (AllReadyH.cons rfl (fun KC hK => ?_) AllReadyH.nil)
        · skip
          refine step_alloc_el rfl rfl ?_
          intro v63 gd4 hg63 hN63 k63
          have y63 := y62.trans (k63.mono y62.size)
          have G4 : Hid (X59.heap.size ≤ gd4) := Nat.le_trans y62.size hg63
          have m63_4 := Lib.hid hN63
          refine hK.out _ _ y63 (fun _ => ?_)
          clear hK KC hN63 hg63
          refine wpAnyH_ready (rs := [5]) (by kernel_rfl) (by simp) ?_
          refine AllReadyH.cons rfl (fun KC hK => ?_) AllReadyH.nil
          refine step_alloc_el rfl rfl ?_
          intro v64 gd5 hg64 hN64 k64
          have y64 := y63.trans (k64.mono y63.size)
          have G5 : Hid (X59.heap.size ≤ gd5) := Nat.le_trans y63.size hg64
          have ne : Hid (gd4 ≠ gd5) := by have := m63_4.out.lt; rw [Hid]; omega
          have m64_4 := Lib.hid (m63_4.out.below k64 m63_4.out.lt)
          have m64_5 := Lib.hid hN64
          refine hK.out _ _ y64 (fun _ => ?_)
          clear hK KC hN64 hg64
          refine wpAnyH_ready (rs := [6]) (by kernel_rfl) (by simp) ?_
          refine AllReadyH.cons rfl (fun KC hK => ?_) AllReadyH.nil
          refine step_store_blk rfl 62 (.tmp 4) (.tmp 28) rfl gd4 T61.toArray rfl rfl 62 z5 m64_4.out (by rw [List.size_toArray, (FL.out hT61.out).1]; kernel_rfl) (by rw [List.size_toArray, (FL.out hT61.out).1]; rfl) (FL.out hT61.out).2 ?_
          intro v65 hb65 ho65
          have y65 := y64.trans (ho65.below y64.size G4.out)
          have m65_5 := Lib.hid (m64_5.out.grown ho65 (by intro e; injection e with e; exact ne.out e.symm))
          have m65_4 : Hid (Blk v65 gd4 62 T61) := hb65
          refine hK.out _ _ y65 (fun _ => ?_)
          clear hK KC
          refine wpAnyH_ready (rs := [7]) (by kernel_rfl) (by simp) ?_
          refine AllReadyH.cons rfl (fun KC hK => ?_) AllReadyH.nil
          refine step_store_blk rfl 62 (.tmp 5) (.tmp 30) rfl gd5 T62.toArray rfl rfl 62 z5 m65_5.out (by rw [List.size_toArray, (FL.out hT62.out).1]; kernel_rfl) (by rw [List.size_toArray, (FL.out hT62.out).1]; rfl) (FL.out hT62.out).2 ?_
          intro v66 hb66 ho66
          have y66 := y65.trans (ho66.below y65.size G5.out)
          have m66_4 := Lib.hid (m65_4.out.grown ho66 (by intro e; injection e with e; exact ne.out e))
          have m66_5 : Hid (Blk v66 gd5 62 T62) := hb66
          refine hK.out _ _ y66 (fun _ => ?_)
          clear hK KC
          refine wpAnyH_done (by kernel_rfl) ?_ _
          go_wp2_with fail
          go_meet
          case rel => exact ⟨gd4, gd5, T61, T62, rfl, rfl, hT61, hT62, m66_4, m66_5, G4, G5, ne, y66⟩
        · skip
          refine step_alloc_el rfl rfl ?_
          intro v67 gd5 hg67 hN67 k67
          have y67 := y62.trans (k67.mono y62.size)
          have G5 : Hid (X59.heap.size ≤ gd5) := Nat.le_trans y62.size hg67
          have m67_5 := Lib.hid hN67
          refine hK.out _ _ y67 (fun _ => ?_)
          clear hK KC hN67 hg67
          refine wpAnyH_ready (rs := [4]) (by kernel_rfl) (by simp) ?_
          refine AllReadyH.cons rfl (fun KC hK => ?_) AllReadyH.nil
          refine step_alloc_el rfl rfl ?_
          intro v68 gd4 hg68 hN68 k68
          have y68 := y67.trans (k68.mono y67.size)
          have G4 : Hid (X59.heap.size ≤ gd4) := Nat.le_trans y67.size hg68
          have ne : Hid (gd4 ≠ gd5) := by have := m67_5.out.lt; rw [Hid]; omega
          have m68_5 := Lib.hid (m67_5.out.below k68 m67_5.out.lt)
          have m68_4 := Lib.hid hN68
          refine hK.out _ _ y68 (fun _ => ?_)
          clear hK KC hN68 hg68
          refine wpAnyH_ready (rs := [6]) (by kernel_rfl) (by simp) ?_
          refine AllReadyH.cons rfl (fun KC hK => ?_) AllReadyH.nil
          refine step_store_blk rfl 62 (.tmp 4) (.tmp 28) rfl gd4 T61.toArray rfl rfl 62 z5 m68_4.out (by rw [List.size_toArray, (FL.out hT61.out).1]; kernel_rfl) (by rw [List.size_toArray, (FL.out hT61.out).1]; rfl) (FL.out hT61.out).2 ?_
          intro v69 hb69 ho69
          have y69 := y68.trans (ho69.below y68.size G4.out)
          have m69_5 := Lib.hid (m68_5.out.grown ho69 (by intro e; injection e with e; exact ne.out e.symm))
          have m69_4 : Hid (Blk v69 gd4 62 T61) := hb69
          refine hK.out _ _ y69 (fun _ => ?_)
          clear hK KC
          refine wpAnyH_ready (rs := [7]) (by kernel_rfl) (by simp) ?_
          refine AllReadyH.cons rfl (fun KC hK => ?_) AllReadyH.nil
          refine step_store_blk rfl 62 (.tmp 5) (.tmp 30) rfl gd5 T62.toArray rfl rfl 62 z5 m69_5.out (by rw [List.size_toArray, (FL.out hT62.out).1]; kernel_rfl) (by rw [List.size_toArray, (FL.out hT62.out).1]; rfl) (FL.out hT62.out).2 ?_
          intro v70 hb70 ho70
          have y70 := y69.trans (ho70.below y69.size G5.out)
          have m70_4 := Lib.hid (m69_4.out.grown ho70 (by intro e; injection e with e; exact ne.out e))
          have m70_5 : Hid (Blk v70 gd5 62 T62) := hb70
          refine hK.out _ _ y70 (fun _ => ?_)
          clear hK KC
          refine wpAnyH_done (by kernel_rfl) ?_ _
          go_wp2_with fail
          go_meet
          case rel => exact ⟨gd4, gd5, T61, T62, rfl, rfl, hT61, hT62, m70_4, m70_5, G4, G5, ne, y70⟩
      · skip
        refine step_alloc_el rfl rfl ?_
        intro v71 gd4 hg71 hN71 k71
        have y71 := y61.trans (k71.mono y61.size)
        have G4 : Hid (X59.heap.size ≤ gd4) := Nat.le_trans y61.size hg71
        have m71_4 := Lib.hid hN71
        refine hK.out _ _ y71 (fun _ => ?_)
        clear hK KC hN71 hg71
        refine wpAnyH_ready (rs := [3, 5]) (by kernel_rfl) (by simp) ?_
        refine AllReadyH.cons rfl (fun KC hK => ?_) (AllReadyH.cons rfl (fun KC hK => ?_) AllReadyH.nil)
        · skip
          go_simp
          refine (c30.out _ _ h3).mono ?_
          rintro e v72 ⟨T72, rfl, q72, k72⟩
          have hT72 := Lib.hid q72
          have y72 := y71.trans (k72.mono y71.size)
          have m72_4 := Lib.hid (m71_4.out.below k72 m71_4.out.lt)
          refine hK.out _ _ y72 (fun _ => ?_)
          clear hK KC q72
          refine wpAnyH_ready (rs := [5]) (by kernel_rfl) (by simp) ?_
          refine AllReadyH.cons rfl (fun KC hK => ?_) AllReadyH.nil
          refine step_alloc_el rfl rfl ?_
          intro v73 gd5 hg73 hN73 k73
          have y73 := y72.trans (k73.mono y72.size)
          have G5 : Hid (X59.heap.size ≤ gd5) := Nat.le_trans y72.size hg73
          have ne : Hid (gd4 ≠ gd5) := by have := m72_4.out.lt; rw [Hid]; omega
          have m73_4 := Lib.hid (m72_4.out.below k73 m72_4.out.lt)
          have m73_5 := Lib.hid hN73
          refine hK.out _ _ y73 (fun _ => ?_)
          clear hK KC hN73 hg73
          refine wpAnyH_ready (rs := [6]) (by kernel_rfl) (by simp) ?_
          refine AllReadyH.cons rfl (fun KC hK => ?_) AllReadyH.nil
          refine step_store_blk rfl 62 (.tmp 4) (.tmp 28) rfl gd4 T61.toArray rfl rfl 62 z5 m73_4.out (by rw [List.size_toArray, (FL.out hT61.out).1]; kernel_rfl) (by rw [List.size_toArray, (FL.out hT61.out).1]; rfl) (FL.out hT61.out).2 ?_
          intro v74 hb74 ho74
          have y74 := y73.trans (ho74.below y73.size G4.out)
          have m74_5 := Lib.hid (m73_5.out.grown ho74 (by intro e; injection e with e; exact ne.out e.symm))
          have m74_4 : Hid (Blk v74 gd4 62 T61) := hb74
          refine hK.out _ _ y74 (fun _ => ?_)
          clear hK KC
          refine wpAnyH_ready (rs := [7]) (by kernel_rfl) (by simp) ?_
          refine AllReadyH.cons rfl (fun KC hK => ?_) AllReadyH.nil
          refine step_store_blk rfl 62 (.tmp 5) (.tmp 30) rfl gd5 T72.toArray rfl rfl 62 z5 m74_5.out (by rw [List.size_toArray, (FL.out hT72.out).1]; kernel_rfl) (by rw [List.size_toArray, (FL.out hT72.out).1]; rfl) (FL.out hT72.out).2 ?_
          intro v75 hb75 ho75
          have y75 := y74.trans (ho75.below y74.size G5.out)
          have m75_4 := Lib.hid (m74_4.out.grown ho75 (by intro e; injection e with e; exact ne.out e))
          have m75_5 : Hid (Blk v75 gd5 62 T72) := hb75
          refine hK.out _ _ y75 (fun _ => ?_)
          clear hK KC
          refine wpAnyH_done (by kernel_rfl) ?_ _
          go_wp2_with fail
          go_meet
          case rel => exact ⟨gd4, gd5, T61, T72, rfl, rfl, hT61, hT72, m75_4, m75_5, G4, G5, ne, y75⟩
        · skip
          refine step_alloc_el rfl rfl ?_
          intro v76 gd5 hg76 hN76 k76
          have y76 := y71.trans (k76.mono y71.size)
          have G5 : Hid (X59.heap.size ≤ gd5) := Nat.le_trans y71.size hg76
          have ne : Hid (gd4 ≠ gd5) := by have := m71_4.out.lt; rw [Hid]; omega
          have m76_4 := Lib.hid (m71_4.out.below k76 m71_4.out.lt)
          have m76_5 := Lib.hid hN76
          refine hK.out _ _ y76 (fun _ => ?_)
          clear hK KC hN76 hg76
          refine wpAnyH_ready (rs := [3]) (by kernel_rfl) (by simp) ?_
          refine AllReadyH.cons rfl (fun KC hK => ?_) AllReadyH.nil
          go_simp
          refine (c30.out _ _ h3).mono ?_
          rintro e v77 ⟨T77, rfl, q77, k77⟩
          have hT77 := Lib.hid q77
          have y77 := y76.trans (k77.mono y76.size)
          have m77_4 := Lib.hid (m76_4.out.below k77 m76_4.out.lt)
          have m77_5 := Lib.hid (m76_5.out.below k77 m76_5.out.lt)
          refine hK.out _ _ y77 (fun _ => ?_)
          clear hK KC q77
          refine wpAnyH_ready (rs := [6]) (by kernel_rfl) (by simp) ?_
          refine AllReadyH.cons rfl (fun KC hK => ?_) AllReadyH.nil
          refine step_store_blk rfl 62 (.tmp 4) (.tmp 28) rfl gd4 T61.toArray rfl rfl 62 z5 m77_4.out (by rw [List.size_toArray, (FL.out hT61.out).1]; kernel_rfl) (by rw [List.size_toArray, (FL.out hT61.out).1]; rfl) (FL.out hT61.out).2 ?_
          intro v78 hb78 ho78
          have y78 := y77.trans (ho78.below y77.size G4.out)
          have m78_5 := Lib.hid (m77_5.out.grown ho78 (by intro e; injection e with e; exact ne.out e.symm))
          have m78_4 : Hid (Blk v78 gd4 62 T61) := hb78
          refine hK.out _ _ y78 (fun _ => ?_)
          clear hK KC
          refine wpAnyH_ready (rs := [7]) (by kernel_rfl) (by simp) ?_
          refine AllReadyH.cons rfl (fun KC hK => ?_) AllReadyH.nil
          refine step_store_blk rfl 62 (.tmp 5) (.tmp 30) rfl gd5 T77.toArray rfl rfl 62 z5 m78_5.out (by rw [List.size_toArray, (FL.out hT77.out).1]; kernel_rfl) (by rw [List.size_toArray, (FL.out hT77.out).1]; rfl) (FL.out hT77.out).2 ?_
          intro v79 hb79 ho79
          have y79 := y78.trans (ho79.below y78.size G5.out)
          have m79_4 := Lib.hid (m78_4.out.grown ho79 (by intro e; injection e with e; exact ne.out e))
          have m79_5 : Hid (Blk v79 gd5 62 T77) := hb79
          refine hK.out _ _ y79 (fun _ => ?_)
          clear hK KC
          refine wpAnyH_done (by kernel_rfl) ?_ _
          go_wp2_with fail
          go_meet
          case rel => exact ⟨gd4, gd5, T61, T77, rfl, rfl, hT61, hT77, m79_4, m79_5, G4, G5, ne, y79⟩
      · skip
        refine step_alloc_el rfl rfl ?_
        intro v80 gd5 hg80 hN80 k80
        have y80 := y61.trans (k80.mono y61.size)
        have G5 : Hid (X59.heap.size ≤ gd5) := Nat.le_trans y61.size hg80
        have m80_5 := Lib.hid hN80
        refine hK.out _ _ y80 (fun _ => ?_)
        clear hK KC hN80 hg80
        refine wpAnyH_ready (rs := [3, 4]) (by kernel_rfl) (by simp) ?_
        refine AllReadyH.cons rfl (fun KC hK => ?_) (AllReadyH.cons rfl (fun KC hK => ?_) AllReadyH.nil)
        · skip
          go_simp
          refine (c30.out _ _ h3).mono ?_
          rintro e v81 ⟨T81, rfl, q81, k81⟩
          have hT81 := Lib.hid q81
          have y81 := y80.trans (k81.mono y80.size)
          have m81_5 := Lib.hid (m80_5.out.below k81 m80_5.out.lt)
          refine hK.out _ _ y81 (fun _ => ?_)
          clear hK KC q81
          refine wpAnyH_ready (rs := [4]) (by kernel_rfl) (by simp) ?_
          refine AllReadyH.cons rfl (fun KC hK => ?_) AllReadyH.nil
          refine step_alloc_el rfl rfl ?_
          intro v82 gd4 hg82 hN82 k82
          have y82 := y81.trans (k82.mono y81.size)
          have G4 : Hid (X59.heap.size ≤ gd4) := Nat.le_trans y81.size hg82
          have ne : Hid (gd4 ≠ gd5) := by have := m81_5.out.lt; rw [Hid]; omega
          have m82_5 := Lib.hid (m81_5.out.below k82 m81_5.out.lt)
          have m82_4 := Lib.hid hN82
          refine hK.out _ _ y82 (fun _ => ?_)
          clear hK KC hN82 hg82
          refine wpAnyH_ready (rs := [6]) (by kernel_rfl) (by simp) ?_
          refine AllReadyH.cons rfl (fun KC hK => ?_) AllReadyH.nil
          refine step_store_blk rfl 62 (.tmp 4) (.tmp 28) rfl gd4 T61.toArray rfl rfl 62 z5 m82_4.out (by rw [List.size_toArray, (FL.out hT61.out).1]; kernel_rfl) (by rw [List.size_toArray, (FL.out hT61.out).1]; rfl) (FL.out hT61.out).2 ?_
          intro v83 hb83 ho83
          have y83 := y82.trans (ho83.below y82.size G4.out)
          have m83_5 := Lib.hid (m82_5.out.grown ho83 (by intro e; injection e with e; exact ne.out e.symm))
          have m83_4 : Hid (Blk v83 gd4 62 T61) := hb83
          refine hK.out _ _ y83 (fun _ => ?_)
          clear hK KC
          refine wpAnyH_ready (rs := [7]) (by kernel_rfl) (by simp) ?_
          refine AllReadyH.cons rfl (fun KC hK => ?_) AllReadyH.nil
          refine step_store_blk rfl 62 (.tmp 5) (.tmp 30) rfl gd5 T81.toArray rfl rfl 62 z5 m83_5.out (by rw [List.size_toArray, (FL.out hT81.out).1]; kernel_rfl) (by rw [List.size_toArray, (FL.out hT81.out).1]; rfl) (FL.out hT81.out).2 ?_
          intro v84 hb84 ho84
          have y84 := y83.trans (ho84.below y83.size G5.out)
          have m84_4 := Lib.hid (m83_4.out.grown ho84 (by intro e; injection e with e; exact ne.out e))
          have m84_5 : Hid (Blk v84 gd5 62 T81) := hb84
          refine hK.out _ _ y84 (fun _ => ?_)
          clear hK KC
          refine wpAnyH_done (by kernel_rfl) ?_ _
          go_wp2_with fail
          go_meet
          case rel => exact ⟨gd4, gd5, T61, T81, rfl, rfl, hT61, hT81, m84_4, m84_5, G4, G5, ne, y84⟩
        · skip
          refine step_alloc_el rfl rfl ?_
          intro v85 gd4 hg85 hN85 k85
          have y85 := y80.trans (k85.mono y80.size)
          have G4 : Hid (X59.heap.size ≤ gd4) := Nat.le_trans y80.size hg85
          have ne : Hid (gd4 ≠ gd5) := by have := m80_5.out.lt; rw [Hid]; omega
          have m85_5 := Lib.hid (m80_5.out.below k85 m80_5.out.lt)
          have m85_4 := Lib.hid hN85
          refine hK.out _ _ y85 (fun _ => ?_)
          clear hK KC hN85 hg85
          refine wpAnyH_ready (rs := [3]) (by kernel_rfl) (by simp) ?_
          refine AllReadyH.cons rfl (fun KC hK => ?_) AllReadyH.nil
          go_simp
          refine (c30.out _ _ h3).mono ?_
          rintro e v86 ⟨T86, rfl, q86, k86⟩
          have hT86 := Lib.hid q86
          have y86 := y85.trans (k86.mono y85.size)
          have m86_5 := Lib.hid (m85_5.out.below k86 m85_5.out.lt)
          have m86_4 := Lib.hid (m85_4.out.below k86 m85_4.out.lt)
          refine hK.out _ _ y86 (fun _ => ?_)
          clear hK KC q86
          refine wpAnyH_ready (rs := [6]) (by kernel_rfl) (by simp) ?_
          refine AllReadyH.cons rfl (fun KC hK => ?_) AllReadyH.nil
          refine step_store_blk rfl 62 (.tmp 4) (.tmp 28) rfl gd4 T61.toArray rfl rfl 62 z5 m86_4.out (by rw [List.size_toArray, (FL.out hT61.out).1]; kernel_rfl) (by rw [List.size_toArray, (FL.out hT61.out).1]; rfl) (FL.out hT61.out).2 ?_
          intro v87 hb87 ho87
          have y87 := y86.trans (ho87.below y86.size G4.out)
          have m87_5 := Lib.hid (m86_5.out.grown ho87 (by intro e; injection e with e; exact ne.out e.symm))
          have m87_4 : Hid (Blk v87 gd4 62 T61) := hb87
          refine hK.out _ _ y87 (fun _ => ?_)
          clear hK KC
          refine wpAnyH_ready (rs := [7]) (by kernel_rfl) (by simp) ?_
          refine AllReadyH.cons rfl (fun KC hK => ?_) AllReadyH.nil
          refine step_store_blk rfl 62 (.tmp 5) (.tmp 30) rfl gd5 T86.toArray rfl rfl 62 z5 m87_5.out (by rw [List.size_toArray, (FL.out hT86.out).1]; kernel_rfl) (by rw [List.size_toArray, (FL.out hT86.out).1]; rfl) (FL.out hT86.out).2 ?_
          intro v88 hb88 ho88
          have y88 := y87.trans (ho88.below y87.size G5.out)
          have m88_4 := Lib.hid (m87_4.out.grown ho88 (by intro e; injection e with e; exact ne.out e))
          have m88_5 : Hid (Blk v88 gd5 62 T86) := hb88
          refine hK.out _ _ y88 (fun _ => ?_)
          clear hK KC
          refine wpAnyH_done (by kernel_rfl) ?_ _
          go_wp2_with fail
          go_meet
          case rel => exact ⟨gd4, gd5, T61, T86, rfl, rfl, hT61, hT86, m88_4, m88_5, G4, G5, ne, y88⟩
    · skip
      refine step_alloc_el rfl rfl ?_
      intro v89 gd4 hg89 hN89 k89
      have y89 := y0.trans (k89.mono y0.size)
      have G4 : Hid (X59.heap.size ≤ gd4) := Nat.le_trans y0.size hg89
      have m89_4 := Lib.hid hN89
      refine hK.out _ _ y89 (fun _ => ?_)
      clear hK KC hN89 hg89
      refine wpAnyH_ready (rs := [1, 5]) (by kernel_rfl) (by simp) ?_
      refine AllReadyH.cons rfl (fun KC hK => ?_) (AllReadyH.cons rfl (fun KC hK => ?_) AllReadyH.nil)
      · skip
        go_simp
        refine (c28.out _ _ h2).mono ?_
        rintro e v90 ⟨T90, rfl, q90, k90⟩
        have hT90 := Lib.hid q90
        have y90 := y89.trans (k90.mono y89.size)
        have m90_4 := Lib.hid (m89_4.out.below k90 m89_4.out.lt)
        refine hK.out _ _ y90 (fun _ => ?_)
        clear hK KC q90
        refine wpAnyH_ready (rs := [3, 5]) (by kernel_rfl) (by simp) ?_
        refine AllReadyH.cons rfl (fun KC hK => ?_) (AllReadyH.cons rfl (fun KC hK => ?_) AllReadyH.nil)
        · skip
          go_simp
          refine (c30.out _ _ h3).mono ?_
          rintro e v91 ⟨T91, rfl, q91, k91⟩
          have hT91 := Lib.hid q91
          have y91 := y90.trans (k91.mono y90.size)
          have m91_4 := Lib.hid (m90_4.out.below k91 m90_4.out.lt)
          refine hK.out _ _ y91 (fun _ => ?_)
          clear hK KC q91
          refine wpAnyH_ready (rs := [5]) (by kernel_rfl) (by simp) ?_
          refine AllReadyH.cons rfl (fun KC hK => ?_) AllReadyH.nil
          refine step_alloc_el rfl rfl ?_
          intro v92 gd5 hg92 hN92 k92
          have y92 := y91.trans (k92.mono y91.size)
          have G5 : Hid (X59.heap.size ≤ gd5) := Nat.le_trans y91.size hg92
          have ne : Hid (gd4 ≠ gd5) := by have := m91_4.out.lt; rw [Hid]; omega
          have m92_4 := Lib.hid (m91_4.out.below k92 m91_4.out.lt)
          have m92_5 := Lib.hid hN92
          refine hK.out _ _ y92 (fun _ => ?_)
          clear hK KC hN92 hg92
          refine wpAnyH_ready (rs := [6]) (by kernel_rfl) (by simp) ?_
          refine AllReadyH.cons rfl (fun KC hK => ?_) AllReadyH.nil
          refine step_store_blk rfl 62 (.tmp 4) (.tmp 28) rfl gd4 T90.toArray rfl rfl 62 z5 m92_4.out (by rw [List.size_toArray, (FL.out hT90.out).1]; kernel_rfl) (by rw [List.size_toArray, (FL.out hT90.out).1]; rfl) (FL.out hT90.out).2 ?_
          intro v93 hb93 ho93
          have y93 := y92.trans (ho93.below y92.size G4.out)
          have m93_5 := Lib.hid (m92_5.out.grown ho93 (by intro e; injection e with e; exact ne.out e.symm))
          have m93_4 : Hid (Blk v93 gd4 62 T90) := hb93
          refine hK.out _ _ y93 (fun _ => ?_)
          clear hK KC
          refine wpAnyH_ready (rs := [7]) (by kernel_rfl) (by simp) ?_
          refine AllReadyH.cons rfl (fun KC hK => ?_) AllReadyH.nil
          refine step_store_blk rfl 62 (.tmp 5) (.tmp 30) rfl gd5 T91.toArray rfl rfl 62 z5 m93_5.out (by rw [List.size_toArray, (FL.out hT91.out).1]; kernel_rfl) (by rw [List.size_toArray, (FL.out hT91.out).1]; rfl) (FL.out hT91.out).2 ?_
          intro v94 hb94 ho94
          have y94 := y93.trans (ho94.below y93.size G5.out)
          have m94_4 := Lib.hid (m93_4.out.grown ho94 (by intro e; injection e with e; exact ne.out e))
          have m94_5 : Hid (Blk v94 gd5 62 T91) := hb94
          refine hK.out _ _ y94 (fun _ => ?_)
          clear hK KC
          refine wpAnyH_done (by kernel_rfl) ?_ _
          go_wp2_with fail
          go_meet
          case rel => exact ⟨gd4, gd5, T90, T91, rfl, rfl, hT90, hT91, m94_4, m94_5, G4, G5, ne, y94⟩
        · skip
          refine step_alloc_el rfl rfl ?_
          intro v95 gd5 hg95 hN95 k95
          have y95 := y90.trans (k95.mono y90.size)
          have G5 : Hid (X59.heap.size ≤ gd5) := Nat.le_trans y90.size hg95
          have ne : Hid (gd4 ≠ gd5) := by have := m90_4.out.lt; rw [Hid]; omega
          have m95_4 := Lib.hid (m90_4.out.below k95 m90_4.out.lt)
          have m95_5 := Lib.hid hN95
          refine hK.out _ _ y95 (fun _ => ?_)
          clear hK KC hN95 hg95
          refine wpAnyH_ready (rs := [3]) (by kernel_rfl) (by simp) ?_
          refine AllReadyH.cons rfl (fun KC hK => ?_) AllReadyH.nil
          go_simp
          refine (c30.out _ _ h3).mono ?_
          rintro e v96 ⟨T96, rfl, q96, k96⟩
          have hT96 := Lib.hid q96
          have y96 := y95.trans (k96.mono y95.size)
          have m96_4 := Lib.hid (m95_4.out.below k96 m95_4.out.lt)
          have m96_5 := Lib.hid (m95_5.out.below k96 m95_5.out.lt)
          refine hK.out _ _ y96 (fun _ => ?_)
          clear hK KC q96
          refine wpAnyH_ready (rs := [6]) (by kernel_rfl) (by simp) ?_
          refine AllReadyH.cons rfl (fun KC hK => ?_) AllReadyH.nil
          refine step_store_blk rfl 62 (.tmp 4) (.tmp 28) rfl gd4 T90.toArray rfl rfl 62 z5 m96_4.out (by rw [List.size_toArray, (FL.out hT90.out).1]; kernel_rfl) (by rw [List.size_toArray, (FL.out hT90.out).1]; rfl) (FL.out hT90.out).2 ?_
          intro v97 hb97 ho97
          have y97 := y96.trans (ho97.below y96.size G4.out)
          have m97_5 := Lib.hid (m96_5.out.grown ho97 (by intro e; injection e with e; exact ne.out e.symm))
          have m97_4 : Hid (Blk v97 gd4 62 T90) := hb97
          refine hK.out _ _ y97 (fun _ => ?_)
          clear hK KC
          refine wpAnyH_ready (rs := [7]) (by kernel_rfl) (by simp) ?_
          refine AllReadyH.cons rfl (fun KC hK => ?_) AllReadyH.nil
          refine step_store_blk rfl 62 (.tmp 5) (.tmp 30) rfl gd5 T96.toArray rfl rfl 62 z5 m97_5.out (by rw [List.size_toArray, (FL.out hT96.out).1]; kernel_rfl) (by rw [List.size_toArray, (FL.out hT96.out).1]; rfl) (FL.out hT96.out).2 ?_
          intro v98 hb98 ho98
          have y98 := y97.trans (ho98.below y97.size G5.out)
          have m98_4 := Lib.hid (m97_4.out.grown ho98 (by intro e; injection e with e; exact ne.out e))
          have m98_5 : Hid (Blk v98 gd5 62 T96) := hb98
          refine hK.out _ _ y98 (fun _ => ?_)
          clear hK KC
          refine wpAnyH_done (by kernel_rfl) ?_ _
          go_wp2_with fail
          go_meet
          case rel => exact ⟨gd4, gd5, T90, T96, rfl, rfl, hT90, hT96, m98_4, m98_5, G4, G5, ne, y98⟩
      · skip
        refine step_alloc_el rfl rfl ?_
        intro v99 gd5 hg99 hN99 k99
        have y99 := y89.trans (k99.mono y89.size)
        have G5 : Hid (X59.heap.size ≤ gd5) := Nat.le_trans y89.size hg99
        have ne : Hid (gd4 ≠ gd5) := by have := m89_4.out.lt; rw [Hid]; omega
        have m99_4 := Lib.hid (m89_4.out.below k99 m89_4.out.lt)
        have m99_5 := Lib.hid hN99
        refine hK.out _ _ y99 (fun _ => ?_)
        clear hK KC hN99 hg99
        refine wpAnyH_ready (rs := [1]) (by kernel_rfl) (by simp) ?_
        refine AllReadyH.cons rfl (fun KC hK => ?_) AllReadyH.nil
        go_simp
        refine (c28.out _ _ h2).mono ?_
        rintro e v100 ⟨T100, rfl, q100, k100⟩
        have hT100 := Lib.hid q100
        have y100 := y99.trans (k100.mono y99.size)
        have m100_4 := Lib.hid (m99_4.out.below k100 m99_4.out.lt)
        have m100_5 := Lib.hid (m99_5.out.below k100 m99_5.out.lt)
        refine hK.out _ _ y100 (fun _ => ?_)
        clear hK KC q100
        refine wpAnyH_ready (rs := [3]) (by kernel_rfl) (by simp) ?_
        refine AllReadyH.cons rfl (fun KC hK => ?_) AllReadyH.nil
        go_simp
        refine (c30.out _ _ h3).mono ?_
        rintro e v101 ⟨T101, rfl, q101, k101⟩
        have hT101 := Lib.hid q101
        have y101 := y100.trans (k101.mono y100.size)
        have m101_4 := Lib.hid (m100_4.out.below k101 m100_4.out.lt)
        have m101_5 := Lib.hid (m100_5.out.below k101 m100_5.out.lt)
        refine hK.out _ _ y101 (fun _ => ?_)
        clear hK KC q101
        refine wpAnyH_ready (rs := [6]) (by kernel_rfl) (by simp) ?_
        refine AllReadyH.cons rfl (fun KC hK => ?_) AllReadyH.nil
        refine step_store_blk rfl 62 (.tmp 4) (.tmp 28) rfl gd4 T100.toArray rfl rfl 62 z5 m101_4.out (by rw [List.size_toArray, (FL.out hT100.out).1]; kernel_rfl) (by rw [List.size_toArray, (FL.out hT100.out).1]; rfl) (FL.out hT100.out).2 ?_
        intro v102 hb102 ho102
        have y102 := y101.trans (ho102.below y101.size G4.out)
        have m102_5 := Lib.hid (m101_5.out.grown ho102 (by intro e; injection e with e; exact ne.out e.symm))
        have m102_4 : Hid (Blk v102 gd4 62 T100) := hb102
        refine hK.out _ _ y102 (fun _ => ?_)
        clear hK KC
        refine wpAnyH_ready (rs := [7]) (by kernel_rfl) (by simp) ?_
        refine AllReadyH.cons rfl (fun KC hK => ?_) AllReadyH.nil
        refine step_store_blk rfl 62 (.tmp 5) (.tmp 30) rfl gd5 T101.toArray rfl rfl 62 z5 m102_5.out (by rw [List.size_toArray, (FL.out hT101.out).1]; kernel_rfl) (by rw [List.size_toArray, (FL.out hT101.out).1]; rfl) (FL.out hT101.out).2 ?_
        intro v103 hb103 ho103
        have y103 := y102.trans (ho103.below y102.size G5.out)
        have m103_4 := Lib.hid (m102_4.out.grown ho103 (by intro e; injection e with e; exact ne.out e))
        have m103_5 : Hid (Blk v103 gd5 62 T101) := hb103
        refine hK.out _ _ y103 (fun _ => ?_)
        clear hK KC
        refine wpAnyH_done (by kernel_rfl) ?_ _
        go_wp2_with fail
        go_meet
        case rel => exact ⟨gd4, gd5, T100, T101, rfl, rfl, hT100, hT101, m103_4, m103_5, G4, G5, ne, y103⟩
    · skip
      refine step_alloc_el rfl rfl ?_
      intro v104 gd5 hg104 hN104 k104
      have y104 := y0.trans (k104.mono y0.size)
      have G5 : Hid (X59.heap.size ≤ gd5) := Nat.le_trans y0.size hg104
      have m104_5 := Lib.hid hN104
      refine hK.out _ _ y104 (fun _ => ?_)
      clear hK KC hN104 hg104
      refine wpAnyH_ready (rs := [1, 4]) (by kernel_rfl) (by simp) ?_
      refine AllReadyH.cons rfl (fun KC hK => ?_) (AllReadyH.cons rfl (fun KC hK => ?_) AllReadyH.nil)
      · skip
        go_simp
        refine (c28.out _ _ h2).mono ?_
        rintro e v105 ⟨T105, rfl, q105, k105⟩
        have hT105 := Lib.hid q105
        have y105 := y104.trans (k105.mono y104.size)
        have m105_5 := Lib.hid (m104_5.out.below k105 m104_5.out.lt)
        refine hK.out _ _ y105 (fun _ => ?_)
        clear hK KC q105
        refine wpAnyH_ready (rs := [3, 4]) (by kernel_rfl) (by simp) ?_
        refine AllReadyH.cons rfl (fun KC hK => ?_) (AllReadyH.cons rfl (fun KC hK => ?_) AllReadyH.nil)
        · skip
          go_simp
          refine (c30.out _ _ h3).mono ?_
          rintro e v106 ⟨T106, rfl, q106, k106⟩
          have hT106 := Lib.hid q106
          have y106 := y105.trans (k106.mono y105.size)
          have m106_5 := Lib.hid (m105_5.out.below k106 m105_5.out.lt)
          refine hK.out _ _ y106 (fun _ => ?_)
          clear hK KC q106
          refine wpAnyH_ready (rs := [4]) (by kernel_rfl) (by simp) ?_
          refine AllReadyH.cons rfl (fun KC hK => ?_) AllReadyH.nil
          refine step_alloc_el rfl rfl ?_
          intro v107 gd4 hg107 hN107 k107
          have y107 := y106.trans (k107.mono y106.size)
          have G4 : Hid (X59.heap.size ≤ gd4) := Nat.le_trans y106.size hg107
          have ne : Hid (gd4 ≠ gd5) := by have := m106_5.out.lt; rw [Hid]; omega
          have m107_5 := Lib.hid (m106_5.out.below k107 m106_5.out.lt)
          have m107_4 := Lib.hid hN107
          refine hK.out _ _ y107 (fun _ => ?_)
          clear hK KC hN107 hg107
          refine wpAnyH_ready (rs := [6]) (by kernel_rfl) (by simp) ?_
          refine AllReadyH.cons rfl (fun KC hK => ?_) AllReadyH.nil
          refine step_store_blk rfl 62 (.tmp 4) (.tmp 28) rfl gd4 T105.toArray rfl rfl 62 z5 m107_4.out (by rw [List.size_toArray, (FL.out hT105.out).1]; kernel_rfl) (by rw [List.size_toArray, (FL.out hT105.out).1]; rfl) (FL.out hT105.out).2 ?_
          intro v108 hb108 ho108
          have y108 := y107.trans (ho108.below y107.size G4.out)
          have m108_5 := Lib.hid (m107_5.out.grown ho108 (by intro e; injection e with e; exact ne.out e.symm))
          have m108_4 : Hid (Blk v108 gd4 62 T105) := hb108
          refine hK.out _ _ y108 (fun _ => ?_)
          clear hK KC
          refine wpAnyH_ready (rs := [7]) (by kernel_rfl) (by simp) ?_
          refine AllReadyH.cons rfl (fun KC hK => ?_) AllReadyH.nil
          refine step_store_blk rfl 62 (.tmp 5) (.tmp 30) rfl gd5 T106.toArray rfl rfl 62 z5 m108_5.out (by rw [List.size_toArray, (FL.out hT106.out).1]; kernel_rfl) (by rw [List.size_toArray, (FL.out hT106.out).1]; rfl) (FL.out hT106.out).2 ?_
          intro v109 hb109 ho109
          have y109 := y108.trans (ho109.below y108.size G5.out)
          have m109_4 := Lib.hid (m108_4.out.grown ho109 (by intro e; injection e with e; exact ne.out e))
          have m109_5 : Hid (Blk v109 gd5 62 T106) := hb109
          refine hK.out _ _ y109 (fun _ => ?_)
          clear hK KC
          refine wpAnyH_done (by kernel_rfl) ?_ _
          go_wp2_with fail
          go_meet
          case rel => exact ⟨gd4, gd5, T105, T106, rfl, rfl, hT105, hT106, m109_4, m109_5, G4, G5, ne, y109⟩
        · skip
          refine step_alloc_el rfl rfl ?_
          intro v110 gd4 hg110 hN110 k110
          have y110 := y105.trans (k110.mono y105.size)
          have G4 : Hid (X59.heap.size ≤ gd4) := Nat.le_trans y105.size hg110
          have ne : Hid (gd4 ≠ gd5) := by have := m105_5.out.lt; rw [Hid]; omega
          have m110_5 := Lib.hid (m105_5.out.below k110 m105_5.out.lt)
          have m110_4 := Lib.hid hN110
          refine hK.out _ _ y110 (fun _ => ?_)
          clear hK KC hN110 hg110
          refine wpAnyH_ready (rs := [3]) (by kernel_rfl) (by simp) ?_
          refine AllReadyH.cons rfl (fun KC hK => ?_) AllReadyH.nil
          go_simp
          refine (c30.out _ _ h3).mono ?_
          rintro e v111 ⟨T111, rfl, q111, k111⟩
          have hT111 := Lib.hid q111
          have y111 := y110.trans (k111.mono y110.size)
          have m111_5 := Lib.hid (m110_5.out.below k111 m110_5.out.lt)
          have m111_4 := Lib.hid (m110_4.out.below k111 m110_4.out.lt)
          refine hK.out _ _ y111 (fun _ => ?_)
          clear hK KC q111
          refine wpAnyH_ready (rs := [6]) (by kernel_rfl) (by simp) ?_
          refine AllReadyH.cons rfl (fun KC hK => ?_) AllReadyH.nil
          refine step_store_blk rfl 62 (.tmp 4) (.tmp 28) rfl gd4 T105.toArray rfl rfl 62 z5 m111_4.out (by rw [List.size_toArray, (FL.out hT105.out).1]; kernel_rfl) (by rw [List.size_toArray, (FL.out hT105.out).1]; rfl) (FL.out hT105.out).2 ?_
          intro v112 hb112 ho112
          have y112 := y111.trans (ho112.below y111.size G4.out)
          have m112_5 := Lib.hid (m111_5.out.grown ho112 (by intro e; injection e with e; exact ne.out e.symm))
          have m112_4 : Hid (Blk v112 gd4 62 T105) := hb112
          refine hK.out _ _ y112 (fun _ => ?_)
          clear hK KC
          refine wpAnyH_ready (rs := [7]) (by kernel_rfl) (by simp) ?_
          refine AllReadyH.cons rfl (fun KC hK => ?_) AllReadyH.nil
          refine step_store_blk rfl 62 (.tmp 5) (.tmp 30) rfl gd5 T111.toArray rfl rfl 62 z5 m112_5.out (by rw [List.size_toArray, (FL.out hT111.out).1]; kernel_rfl) (by rw [List.size_toArray, (FL.out hT111.out).1]; rfl) (FL.out hT111.out).2 ?_
          intro v113 hb113 ho113
          have y113 := y112.trans (ho113.below y112.size G5.out)
          have m113_4 := Lib.hid (m112_4.out.grown ho113 (by intro e; injection e with e; exact ne.out e))
          have m113_5 : Hid (Blk v113 gd5 62 T111) := hb113
          refine hK.out _ _ y113 (fun _ => ?_)
          clear hK KC
          refine wpAnyH_done (by kernel_rfl) ?_ _
          go_wp2_with fail
          go_meet
          case rel => exact ⟨gd4, gd5, T105, T111, rfl, rfl, hT105, hT111, m113_4, m113_5, G4, G5, ne, y113⟩
      · skip
        refine step_alloc_el rfl rfl ?_
        intro v114 gd4 hg114 hN114 k114
        have y114 := y104.trans (k114.mono y104.size)
        have G4 : Hid (X59.heap.size ≤ gd4) := Nat.le_trans y104.size hg114
        have ne : Hid (gd4 ≠ gd5) := by have := m104_5.out.lt; rw [Hid]; omega
        have m114_5 := Lib.hid (m104_5.out.below k114 m104_5.out.lt)
        have m114_4 := Lib.hid hN114
        refine hK.out _ _ y114 (fun _ => ?_)
        clear hK KC hN114 hg114
        refine wpAnyH_ready (rs := [1]) (by kernel_rfl) (by simp) ?_
        refine AllReadyH.cons rfl (fun KC hK => ?_) AllReadyH.nil
        go_simp
        refine (c28.out _ _ h2).mono ?_
        rintro e v115 ⟨T115, rfl, q115, k115⟩
        have hT115 := Lib.hid q115
        have y115 := y114.trans (k115.mono y114.size)
        have m115_5 := Lib.hid (m114_5.out.below k115 m114_5.out.lt)
        have m115_4 := Lib.hid (m114_4.out.below k115 m114_4.out.lt)
        refine hK.out _ _ y115 (fun _ => ?_)
        clear hK KC q115
        refine wpAnyH_ready (rs := [3]) (by kernel_rfl) (by simp) ?_
        refine AllReadyH.cons rfl (fun KC hK => ?_) AllReadyH.nil
        go_simp
        refine (c30.out _ _ h3).mono ?_
        rintro e v116 ⟨T116, rfl, q116, k116⟩
        have hT116 := Lib.hid q116
        have y116 := y115.trans (k116.mono y115.size)
        have m116_5 := Lib.hid (m115_5.out.below k116 m115_5.out.lt)
        have m116_4 := Lib.hid (m115_4.out.below k116 m115_4.out.lt)
        refine hK.out _ _ y116 (fun _ => ?_)
        clear hK KC q116
        refine wpAnyH_ready (rs := [6]) (by kernel_rfl) (by simp) ?_
        refine AllReadyH.cons rfl (fun KC hK => ?_) AllReadyH.nil
        refine step_store_blk rfl 62 (.tmp 4) (.tmp 28) rfl gd4 T115.toArray rfl rfl 62 z5 m116_4.out (by rw [List.size_toArray, (FL.out hT115.out).1]; kernel_rfl) (by rw [List.size_toArray, (FL.out hT115.out).1]; rfl) (FL.out hT115.out).2 ?_
        intro v117 hb117 ho117
        have y117 := y116.trans (ho117.below y116.size G4.out)
        have m117_5 := Lib.hid (m116_5.out.grown ho117 (by intro e; injection e with e; exact ne.out e.symm))
        have m117_4 : Hid (Blk v117 gd4 62 T115) := hb117
        refine hK.out _ _ y117 (fun _ => ?_)
        clear hK KC
        refine wpAnyH_ready (rs := [7]) (by kernel_rfl) (by simp) ?_
        refine AllReadyH.cons rfl (fun KC hK => ?_) AllReadyH.nil
        refine step_store_blk rfl 62 (.tmp 5) (.tmp 30) rfl gd5 T116.toArray rfl rfl 62 z5 m117_5.out (by rw [List.size_toArray, (FL.out hT116.out).1]; kernel_rfl) (by rw [List.size_toArray, (FL.out hT116.out).1]; rfl) (FL.out hT116.out).2 ?_
        intro v118 hb118 ho118
        have y118 := y117.trans (ho118.below y117.size G5.out)
        have m118_4 := Lib.hid (m117_4.out.grown ho118 (by intro e; injection e with e; exact ne.out e))
        have m118_5 : Hid (Blk v118 gd5 62 T116) := hb118
        refine hK.out _ _ y118 (fun _ => ?_)
        clear hK KC
        refine wpAnyH_done (by kernel_rfl) ?_ _
        go_wp2_with fail
        go_meet
        case rel => exact ⟨gd4, gd5, T115, T116, rfl, rfl, hT115, hT116, m118_4, m118_5, G4, G5, ne, y118⟩
  case rest =>
  obtain ⟨g4, g5, L4, L5, rfl, rfl, h4, h5, b4, b5, G4, G5, ne119, Y119⟩ := hcut
  obtain ⟨X119, rfl⟩ : ∃ x, x = wc := ⟨_, rfl⟩
  have l120 := Lib.hid (l60.out.below Y119.out l60.out.lt)
  clear l60
  have b2_120 := Lib.hid (b2.out.below Y119.out b2.out.lt)
  clear b2
  have b3_120 := Lib.hid (b3.out.below Y119.out b3.out.lt)
  clear b3
  have G4' : Hid (n0 ≤ g4) := Nat.le_trans (Nat.le_trans HN.out KO59.out.size) G4.out
  clear G4
  have G5' : Hid (n0 ≤ g5) := Nat.le_trans (Nat.le_trans HN.out KO59.out.size) G5.out
  clear G5
  have KO119 : Hid (Only g w X119) := KO59.out.trans (Only.of_below Y119.out)
  clear KO59 Y119
  go_wp2_with (first | (refine wpList_load_el rfl (.tmp 4) rfl g4 rfl L4 b4.out (FL.out h4.out).1 ?_) | (refine wpList_load_el rfl (.tmp 5) rfl g5 rfl L5 b5.out (FL.out h5.out).1 ?_))
  refine (c33.out _ _ _ h4 h5).mono ?_
  rintro e w121 ⟨L6, rfl, q121, k121⟩
  have h6 := Lib.hid q121
  obtain ⟨g6, hg6⟩ : ∃ v, v = w121.heap.size := ⟨_, rfl⟩
  have N121 : Blk (w121.alloc (.cells z5.toArray 62)) g6 62 z5 := Blk.newAt _ _ _ _ _ hg6 rfl
  go_upto_region 3 with (rw [← z5_arr, ← hg6]; refine wpList_store_el rfl rfl (.tmp 6) (.tmp 33) rfl g6 rfl L6 z5 rfl N121 z5_len (FL.out q121).1 (FL.out q121).2 ?_; intro X121 hb121 ho121)
  have Y121 : Below X119.heap.size X119 X121 := (k121.alloc k121.size _).trans (ho121.below (by have := k121.size; simp; omega) (by have := k121.size; omega))
  have G6' : Hid (n0 ≤ g6) := by have h1 := Nat.le_trans HN.out KO119.out.size; have h2 := k121.size; rw [Hid]; omega
  have l122 := Lib.hid (l120.out.below Y121 l120.out.lt)
  clear l120
  have b2_122 := Lib.hid (b2_120.out.below Y121 b2_120.out.lt)
  clear b2_120
  have b3_122 := Lib.hid (b3_120.out.below Y121 b3_120.out.lt)
  clear b3_120
  have b4_122 := Lib.hid (b4.out.below Y121 b4.out.lt)
  clear b4
  have b5_122 := Lib.hid (b5.out.below Y121 b5.out.lt)
  clear b5
  have b6 : Hid (Blk X121 g6 62 L6) := hb121
  have KO121 : Hid (Only g w X121) := KO119.out.trans (Only.of_below Y121)
  clear KO119 Y121 hb121 ho121 N121 hg6 k121 q121
  go_upto_region 3 with fail
  go_cut [7, 8] from 34 to 55 (fun z0 z1 wx => ∃ (p0 p1 : Nat) (S0 S1 : List Value), z0 = .pointer (some ⟨p0, 0, none⟩) ∧ z1 = .pointer (some ⟨p1, 0, none⟩) ∧ Hid (Fe S0 rd) ∧ Hid (Fe S1 rc) ∧ Hid (Blk wx p0 62 S0) ∧ Hid (Blk wx p1 62 S1) ∧ Hid (X121.heap.size ≤ p0) ∧ Hid (X121.heap.size ≤ p1) ∧ Hid (p0 ≠ p1) ∧ Hid (Below X121.heap.size X121 wx))
  case first =>
    refine wp_region_any (by kernel_rfl) ?_
    change wpAny _ _ _ _ _ _ _ (World.drew _)
    refine wpAny_of_held (S := fun w' => Below X121.heap.size X121 w') _ _ _ _ ?_
    have y0 : Below X121.heap.size X121 X121.drew := below_draws X121 1
    refine wpAnyH_take_at (i := 0) (v := .pointer (some ⟨g, 0, none⟩)) rfl rfl (by kernel_rfl) (by kernel_rfl) (by kernel_rfl) (fun _ _ _ h => h) (Or.inl ⟨by rfl, fun w hS => by go_simp⟩) y0 ?_
    simp only [List.setIfInBounds_toArray, List.set_cons_zero, List.set_cons_succ]
    refine wpAnyH_take_at (i := 1) (v := .pointer (some ⟨g, 0, none⟩)) rfl rfl (by kernel_rfl) (by kernel_rfl) (by kernel_rfl) (fun _ _ _ h => h) (Or.inl ⟨by rfl, fun w hS => by go_simp⟩) y0 ?_
    simp only [List.setIfInBounds_toArray, List.set_cons_zero, List.set_cons_succ]
    refine wpAnyH_take_at (i := 2) (v := .pointer (some ⟨g, 15, none⟩)) rfl rfl (by kernel_rfl) (by kernel_rfl) (by kernel_rfl) (fun _ _ _ h => h) (Or.inl ⟨by rfl, fun w hS => by go_simp⟩) y0 ?_
    simp only [List.setIfInBounds_toArray, List.set_cons_zero, List.set_cons_succ]
    refine wpAnyH_take_at (i := 3) (v := .agg D.toArray) rfl rfl (by kernel_rfl) (by kernel_rfl) (by kernel_rfl) (fun _ _ _ h => h) (yieldsIf_load_mid (by rfl) 62 (.tmp 36) rfl g 15 rfl D _ (fun w h => (l122.out.below h l122.out.lt).at3) Tryd.underlying62 rfl (by rw [(FL.out hD'.out).1]; kernel_rfl)) y0 ?_
    simp only [List.setIfInBounds_toArray, List.set_cons_zero, List.set_cons_succ]
    refine wpAnyH_take_at (i := 4) (v := .pointer (some ⟨g, 0, none⟩)) rfl rfl (by kernel_rfl) (by kernel_rfl) (by kernel_rfl) (fun _ _ _ h => h) (Or.inl ⟨by rfl, fun w hS => by go_simp⟩) y0 ?_
    simp only [List.setIfInBounds_toArray, List.set_cons_zero, List.set_cons_succ]
    refine wpAnyH_take_at (i := 5) (v := .pointer (some ⟨g, 0, none⟩)) rfl rfl (by kernel_rfl) (by kernel_rfl) (by kernel_rfl) (fun _ _ _ h => h) (Or.inl ⟨by rfl, fun w hS => by go_simp⟩) y0 ?_
    simp only [List.setIfInBounds_toArray, List.set_cons_zero, List.set_cons_succ]
    refine wpAnyH_take_at (i := 6) (v := .pointer (some ⟨g, 20, none⟩)) rfl rfl (by kernel_rfl) (by kernel_rfl) (by kernel_rfl) (fun _ _ _ h => h) (Or.inl ⟨by rfl, fun w hS => by go_simp⟩) y0 ?_
    simp only [List.setIfInBounds_toArray, List.set_cons_zero, List.set_cons_succ]
    refine wpAnyH_take_at (i := 7) (v := .agg E.toArray) rfl rfl (by kernel_rfl) (by kernel_rfl) (by kernel_rfl) (fun _ _ _ h => h) (yieldsIf_load_mid (by rfl) 62 (.tmp 40) rfl g 20 rfl E _ (fun w h => (l122.out.below h l122.out.lt).at4) Tryd.underlying62 rfl (by rw [(FL.out hE'.out).1]; kernel_rfl)) y0 ?_
    simp only [List.setIfInBounds_toArray, List.set_cons_zero, List.set_cons_succ]
    refine wpAnyH_take_at (i := 9) (v := .agg L2.toArray) rfl rfl (by kernel_rfl) (by kernel_rfl) (by kernel_rfl) (fun _ _ _ h => h) (yieldsIf_load_mid (by rfl) 62 (.tmp 2) rfl g2 0 rfl L2 _ (fun w h => (b2_122.out.below h b2_122.out.lt).range 0 _ [] (by simp)) Tryd.underlying62 rfl (by rw [(FL.out h2.out).1]; kernel_rfl)) y0 ?_
    simp only [List.setIfInBounds_toArray, List.set_cons_zero, List.set_cons_succ]
    refine wpAnyH_take_at (i := 11) (v := .pointer (some ⟨g, 0, none⟩)) rfl rfl (by kernel_rfl) (by kernel_rfl) (by kernel_rfl) (fun _ _ _ h => h) (Or.inl ⟨by rfl, fun w hS => by go_simp⟩) y0 ?_
    simp only [List.setIfInBounds_toArray, List.set_cons_zero, List.set_cons_succ]
    refine wpAnyH_take_at (i := 12) (v := .pointer (some ⟨g, 0, none⟩)) rfl rfl (by kernel_rfl) (by kernel_rfl) (by kernel_rfl) (fun _ _ _ h => h) (Or.inl ⟨by rfl, fun w hS => by go_simp⟩) y0 ?_
    simp only [List.setIfInBounds_toArray, List.set_cons_zero, List.set_cons_succ]
    refine wpAnyH_take_at (i := 13) (v := .pointer (some ⟨g, 15, none⟩)) rfl rfl (by kernel_rfl) (by kernel_rfl) (by kernel_rfl) (fun _ _ _ h => h) (Or.inl ⟨by rfl, fun w hS => by go_simp⟩) y0 ?_
    simp only [List.setIfInBounds_toArray, List.set_cons_zero, List.set_cons_succ]
    refine wpAnyH_take_at (i := 14) (v := .agg D.toArray) rfl rfl (by kernel_rfl) (by kernel_rfl) (by kernel_rfl) (fun _ _ _ h => h) (yieldsIf_load_mid (by rfl) 62 (.tmp 47) rfl g 15 rfl D _ (fun w h => (l122.out.below h l122.out.lt).at3) Tryd.underlying62 rfl (by rw [(FL.out hD'.out).1]; kernel_rfl)) y0 ?_
    simp only [List.setIfInBounds_toArray, List.set_cons_zero, List.set_cons_succ]
    refine wpAnyH_take_at (i := 15) (v := .pointer (some ⟨g, 0, none⟩)) rfl rfl (by kernel_rfl) (by kernel_rfl) (by kernel_rfl) (fun _ _ _ h => h) (Or.inl ⟨by rfl, fun w hS => by go_simp⟩) y0 ?_
    simp only [List.setIfInBounds_toArray, List.set_cons_zero, List.set_cons_succ]
    refine wpAnyH_take_at (i := 16) (v := .pointer (some ⟨g, 0, none⟩)) rfl rfl (by kernel_rfl) (by kernel_rfl) (by kernel_rfl) (fun _ _ _ h => h) (Or.inl ⟨by rfl, fun w hS => by go_simp⟩) y0 ?_
    simp only [List.setIfInBounds_toArray, List.set_cons_zero, List.set_cons_succ]
    refine wpAnyH_take_at (i := 17) (v := .pointer (some ⟨g, 20, none⟩)) rfl rfl (by kernel_rfl) (by kernel_rfl) (by kernel_rfl) (fun _ _ _ h => h) (Or.inl ⟨by rfl, fun w hS => by go_simp⟩) y0 ?_
    simp only [List.setIfInBounds_toArray, List.set_cons_zero, List.set_cons_succ]
    refine wpAnyH_take_at (i := 18) (v := .agg E.toArray) rfl rfl (by kernel_rfl) (by kernel_rfl) (by kernel_rfl) (fun _ _ _ h => h) (yieldsIf_load_mid (by rfl) 62 (.tmp 51) rfl g 20 rfl E _ (fun w h => (l122.out.below h l122.out.lt).at4) Tryd.underlying62 rfl (by rw [(FL.out hE'.out).1]; kernel_rfl)) y0 ?_
    simp only [List.setIfInBounds_toArray, List.set_cons_zero, List.set_cons_succ]
    refine wpAnyH_take_at (i := 20) (v := .agg L3.toArray) rfl rfl (by kernel_rfl) (by kernel_rfl) (by kernel_rfl) (fun _ _ _ h => h) (yieldsIf_load_mid (by rfl) 62 (.tmp 3) rfl g3 0 rfl L3 _ (fun w h => (b3_122.out.below h b3_122.out.lt).range 0 _ [] (by simp)) Tryd.underlying62 rfl (by rw [(FL.out h3.out).1]; kernel_rfl)) y0 ?_
    simp only [List.setIfInBounds_toArray, List.set_cons_zero, List.set_cons_succ]
    refine wpAnyH_ready (rs := [8, 22, 23]) (by kernel_rfl) (by simp) ?_
    refine AllReadyH.cons rfl (fun KC hK => ?_) (AllReadyH.cons rfl (fun KC hK => ?_) (AllReadyH.cons rfl (fun KC hK => ?_) AllReadyH.nil))
    · skip
      go_simp
      refine (c42.out _ _ _ hD' hE').mono ?_
      rintro e v123 ⟨T123, rfl, q123, k123⟩
      have hT123 := Lib.hid q123
      have y123 := y0.trans (k123.mono y0.size)
      refine hK.out _ _ y123 (fun _ => ?_)
      clear hK KC q123
      refine wpAnyH_ready (rs := [10, 22, 23]) (by kernel_rfl) (by simp) ?_
      refine AllReadyH.cons rfl (fun KC hK => ?_) (AllReadyH.cons rfl (fun KC hK => ?_) (AllReadyH.cons rfl (fun KC hK => ?_) AllReadyH.nil))
      · skip
        go_simp
        refine (c44.out _ _ _ hT123 h2).mono ?_
        rintro e v124 ⟨T124, rfl, q124, k124⟩
        have hT124 := Lib.hid q124
        have y124 := y123.trans (k124.mono y123.size)
        refine hK.out _ _ y124 (fun _ => ?_)
        clear hK KC q124
        refine wpAnyH_ready (rs := [19, 22, 23]) (by kernel_rfl) (by simp) ?_
        refine AllReadyH.cons rfl (fun KC hK => ?_) (AllReadyH.cons rfl (fun KC hK => ?_) (AllReadyH.cons rfl (fun KC hK => ?_) AllReadyH.nil))
        · skip
          go_simp
          refine (c53.out _ _ _ hD' hE').mono ?_
          rintro e v125 ⟨T125, rfl, q125, k125⟩
          have hT125 := Lib.hid q125
          have y125 := y124.trans (k125.mono y124.size)
          refine hK.out _ _ y125 (fun _ => ?_)
          clear hK KC q125
          refine wpAnyH_ready (rs := [21, 22, 23]) (by kernel_rfl) (by simp) ?_
          refine AllReadyH.cons rfl (fun KC hK => ?_) (AllReadyH.cons rfl (fun KC hK => ?_) (AllReadyH.cons rfl (fun KC hK => ?_) AllReadyH.nil))
          · skip
            go_simp
            refine (c55.out _ _ _ hT125 h3).mono ?_
            rintro e v126 ⟨T126, rfl, q126, k126⟩
            have hT126 := Lib.hid q126
            have y126 := y125.trans (k126.mono y125.size)
            refine hK.out _ _ y126 (fun _ => ?_)
            clear hK KC q126
            refine wpAnyH_ready (rs := [22, 23]) (by kernel_rfl) (by simp) ?_
            refine AllReadyH.cons rfl (fun KC hK => ?_) (AllReadyH.cons rfl (fun KC hK => ?_) AllReadyH.nil)
            · skip
              refine step_alloc_el rfl rfl ?_
              intro v127 gd7 hg127 hN127 k127
              have y127 := y126.trans (k127.mono y126.size)
              have G7 : Hid (X121.heap.size ≤ gd7) := Nat.le_trans y126.size hg127
              have m127_7 := Lib.hid hN127
              refine hK.out _ _ y127 (fun _ => ?_)
              clear hK KC hN127 hg127
              refine wpAnyH_ready (rs := [23]) (by kernel_rfl) (by simp) ?_
              refine AllReadyH.cons rfl (fun KC hK => ?_) AllReadyH.nil
              refine step_alloc_el rfl rfl ?_
              intro v128 gd8 hg128 hN128 k128
              have y128 := y127.trans (k128.mono y127.size)
              have G8 : Hid (X121.heap.size ≤ gd8) := Nat.le_trans y127.size hg128
              have ne : Hid (gd7 ≠ gd8) := by have := m127_7.out.lt; rw [Hid]; omega
              have m128_7 := Lib.hid (m127_7.out.below k128 m127_7.out.lt)
              have m128_8 := Lib.hid hN128
              refine hK.out _ _ y128 (fun _ => ?_)
              clear hK KC hN128 hg128
              refine wpAnyH_ready (rs := [24]) (by kernel_rfl) (by simp) ?_
              refine AllReadyH.cons rfl (fun KC hK => ?_) AllReadyH.nil
              refine step_store_blk rfl 62 (.tmp 7) (.tmp 44) rfl gd7 T124.toArray rfl rfl 62 z5 m128_7.out (by rw [List.size_toArray, (FL.out hT124.out).1]; kernel_rfl) (by rw [List.size_toArray, (FL.out hT124.out).1]; rfl) (FL.out hT124.out).2 ?_
              intro v129 hb129 ho129
              have y129 := y128.trans (ho129.below y128.size G7.out)
              have m129_8 := Lib.hid (m128_8.out.grown ho129 (by intro e; injection e with e; exact ne.out e.symm))
              have m129_7 : Hid (Blk v129 gd7 62 T124) := hb129
              refine hK.out _ _ y129 (fun _ => ?_)
              clear hK KC
              refine wpAnyH_ready (rs := [25]) (by kernel_rfl) (by simp) ?_
              refine AllReadyH.cons rfl (fun KC hK => ?_) AllReadyH.nil
              refine step_store_blk rfl 62 (.tmp 8) (.tmp 55) rfl gd8 T126.toArray rfl rfl 62 z5 m129_8.out (by rw [List.size_toArray, (FL.out hT126.out).1]; kernel_rfl) (by rw [List.size_toArray, (FL.out hT126.out).1]; rfl) (FL.out hT126.out).2 ?_
              intro v130 hb130 ho130
              have y130 := y129.trans (ho130.below y129.size G8.out)
              have m130_7 := Lib.hid (m129_7.out.grown ho130 (by intro e; injection e with e; exact ne.out e))
              have m130_8 : Hid (Blk v130 gd8 62 T126) := hb130
              refine hK.out _ _ y130 (fun _ => ?_)
              clear hK KC
              refine wpAnyH_done (by kernel_rfl) ?_ _
              go_wp2_with fail
              go_meet
              case rel => exact ⟨gd7, gd8, T124, T126, rfl, rfl, hT124, hT126, m130_7, m130_8, G7, G8, ne, y130⟩
            · skip
              refine step_alloc_el rfl rfl ?_
              intro v131 gd8 hg131 hN131 k131
              have y131 := y126.trans (k131.mono y126.size)
              have G8 : Hid (X121.heap.size ≤ gd8) := Nat.le_trans y126.size hg131
              have m131_8 := Lib.hid hN131
              refine hK.out _ _ y131 (fun _ => ?_)
              clear hK KC hN131 hg131
              refine wpAnyH_ready (rs := [22]) (by kernel_rfl) (by simp) ?_
              refine AllReadyH.cons rfl (fun KC hK => ?_) AllReadyH.nil
              refine step_alloc_el rfl rfl ?_
              intro v132 gd7 hg132 hN132 k132
              have y132 := y131.trans (k132.mono y131.size)
              have G7 : Hid (X121.heap.size ≤ gd7) := Nat.le_trans y131.size hg132
              have ne : Hid (gd7 ≠ gd8) := by have := m131_8.out.lt; rw [Hid]; omega
              have m132_8 := Lib.hid (m131_8.out.below k132 m131_8.out.lt)
              have m132_7 := Lib.hid hN132
              refine hK.out _ _ y132 (fun _ => ?_)
              clear hK KC hN132 hg132
              refine wpAnyH_ready (rs := [24]) (by kernel_rfl) (by simp) ?_
              refine AllReadyH.cons rfl (fun KC hK => ?_) AllReadyH.nil
              refine step_store_blk rfl 62 (.tmp 7) (.tmp 44) rfl gd7 T124.toArray rfl rfl 62 z5 m132_7.out (by rw [List.size_toArray, (FL.out hT124.out).1]; kernel_rfl) (by rw [List.size_toArray, (FL.out hT124.out).1]; rfl) (FL.out hT124.out).2 ?_
              intro v133 hb133 ho133
              have y133 := y132.trans (ho133.below y132.size G7.out)
              have m133_8 := Lib.hid (m132_8.out.grown ho133 (by intro e; injection e with e; exact ne.out e.symm))
              have m133_7 : Hid (Blk v133 gd7 62 T124) := hb133
              refine hK.out _ _ y133 (fun _ => ?_)
              clear hK KC
              refine wpAnyH_ready (rs := [25]) (by kernel_rfl) (by simp) ?_
              refine AllReadyH.cons rfl (fun KC hK => ?_) AllReadyH.nil
              refine step_store_blk rfl 62 (.tmp 8) (.tmp 55) rfl gd8 T126.toArray rfl rfl 62 z5 m133_8.out (by rw [List.size_toArray, (FL.out hT126.out).1]; kernel_rfl) (by rw [List.size_toArray, (FL.out hT126.out).1]; rfl) (FL.out hT126.out).2 ?_
              intro v134 hb134 ho134
              have y134 := y133.trans (ho134.below y133.size G8.out)
              have m134_7 := Lib.hid (m133_7.out.grown ho134 (by intro e; injection e with e; exact ne.out e))
              have m134_8 : Hid (Blk v134 gd8 62 T126) := hb134
              refine hK.out _ _ y134 (fun _ => ?_)
              clear hK KC
              refine wpAnyH_done (by kernel_rfl) ?_ _
              go_wp2_with fail
              go_meet
              case rel => exact ⟨gd7, gd8, T124, T126, rfl, rfl, hT124, hT126, m134_7, m134_8, G7, G8, ne, y134⟩
          · skip
            refine step_alloc_el rfl rfl ?_
            intro v135 gd7 hg135 hN135 k135
            have y135 := y125.trans (k135.mono y125.size)
            have G7 : Hid (X121.heap.size ≤ gd7) := Nat.le_trans y125.size hg135
            have m135_7 := Lib.hid hN135
            refine hK.out _ _ y135 (fun _ => ?_)
            clear hK KC hN135 hg135
            refine wpAnyH_ready (rs := [21, 23]) (by kernel_rfl) (by simp) ?_
            refine AllReadyH.cons rfl (fun KC hK => ?_) (AllReadyH.cons rfl (fun KC hK => ?_) AllReadyH.nil)
            · skip
              go_simp
              refine (c55.out _ _ _ hT125 h3).mono ?_
              rintro e v136 ⟨T136, rfl, q136, k136⟩
              have hT136 := Lib.hid q136
              have y136 := y135.trans (k136.mono y135.size)
              have m136_7 := Lib.hid (m135_7.out.below k136 m135_7.out.lt)
              refine hK.out _ _ y136 (fun _ => ?_)
              clear hK KC q136
              refine wpAnyH_ready (rs := [23]) (by kernel_rfl) (by simp) ?_
              refine AllReadyH.cons rfl (fun KC hK => ?_) AllReadyH.nil
              refine step_alloc_el rfl rfl ?_
              intro v137 gd8 hg137 hN137 k137
              have y137 := y136.trans (k137.mono y136.size)
              have G8 : Hid (X121.heap.size ≤ gd8) := Nat.le_trans y136.size hg137
              have ne : Hid (gd7 ≠ gd8) := by have := m136_7.out.lt; rw [Hid]; omega
              have m137_7 := Lib.hid (m136_7.out.below k137 m136_7.out.lt)
              have m137_8 := Lib.hid hN137
              refine hK.out _ _ y137 (fun _ => ?_)
              clear hK KC hN137 hg137
              refine wpAnyH_ready (rs := [24]) (by kernel_rfl) (by simp) ?_
              refine AllReadyH.cons rfl (fun KC hK => ?_) AllReadyH.nil
              refine step_store_blk rfl 62 (.tmp 7) (.tmp 44) rfl gd7 T124.toArray rfl rfl 62 z5 m137_7.out (by rw [List.size_toArray, (FL.out hT124.out).1]; kernel_rfl) (by rw [List.size_toArray, (FL.out hT124.out).1]; rfl) (FL.out hT124.out).2 ?_
              intro v138 hb138 ho138
              have y138 := y137.trans (ho138.below y137.size G7.out)
              have m138_8 := Lib.hid (m137_8.out.grown ho138 (by intro e; injection e with e; exact ne.out e.symm))
              have m138_7 : Hid (Blk v138 gd7 62 T124) := hb138
              refine hK.out _ _ y138 (fun _ => ?_)
              clear hK KC
              refine wpAnyH_ready (rs := [25]) (by kernel_rfl) (by simp) ?_
              refine AllReadyH.cons rfl (fun KC hK => ?_) AllReadyH.nil
              refine step_store_blk rfl 62 (.tmp 8) (.tmp 55) rfl gd8 T136.toArray rfl rfl 62 z5 m138_8.out (by rw [List.size_toArray, (FL.out hT136.out).1]; kernel_rfl) (by rw [List.size_toArray, (FL.out hT136.out).1]; rfl) (FL.out hT136.out).2 ?_
              intro v139 hb139 ho139
              have y139 := y138.trans (ho139.below y138.size G8.out)
              have m139_7 := Lib.hid (m138_7.out.grown ho139 (by intro e; injection e with e; exact ne.out e))
              have m139_8 : Hid (Blk v139 gd8 62 T136) := hb139
              refine hK.out _ _ y139 (fun _ => ?_)
              clear hK KC
              refine wpAnyH_done (by kernel_rfl) ?_ _
              go_wp2_with fail
              go_meet
              case rel => exact ⟨gd7, gd8, T124, T136, rfl, rfl, hT124, hT136, m139_7, m139_8, G7, G8, ne, y139⟩
            · skip
              refine step_alloc_el rfl rfl ?_
              intro v140 gd8 hg140 hN140 k140
              have y140 := y135.trans (k140.mono y135.size)
              have G8 : Hid (X121.heap.size ≤ gd8) := Nat.le_trans y135.size hg140
              have ne : Hid (gd7 ≠ gd8) := by have := m135_7.out.lt; rw [Hid]; omega
              have m140_7 := Lib.hid (m135_7.out.below k140 m135_7.out.lt)
              have m140_8 := Lib.hid hN140
              refine hK.out _ _ y140 (fun _ => ?_)
              clear hK KC hN140 hg140
              refine wpAnyH_ready (rs := [21]) (by kernel_rfl) (by simp) ?_
              refine AllReadyH.cons rfl (fun KC hK => ?_) AllReadyH.nil
              go_simp
              refine (c55.out _ _ _ hT125 h3).mono ?_
              rintro e v141 ⟨T141, rfl, q141, k141⟩
              have hT141 := Lib.hid q141
              have y141 := y140.trans (k141.mono y140.size)
              have m141_7 := Lib.hid (m140_7.out.below k141 m140_7.out.lt)
              have m141_8 := Lib.hid (m140_8.out.below k141 m140_8.out.lt)
              refine hK.out _ _ y141 (fun _ => ?_)
              clear hK KC q141
              refine wpAnyH_ready (rs := [24]) (by kernel_rfl) (by simp) ?_
              refine AllReadyH.cons rfl (fun KC hK => ?_) AllReadyH.nil
              refine step_store_blk rfl 62 (.tmp 7) (.tmp 44) rfl gd7 T124.toArray rfl rfl 62 z5 m141_7.out (by rw [List.size_toArray, (FL.out hT124.out).1]; kernel_rfl) (by rw [List.size_toArray, (FL.out hT124.out).1]; rfl) (FL.out hT124.out).2 ?_
              intro v142 hb142 ho142
              have y142 := y141.trans (ho142.below y141.size G7.out)
              have m142_8 := Lib.hid (m141_8.out.grown ho142 (by intro e; injection e with e; exact ne.out e.symm))
              have m142_7 : Hid (Blk v142 gd7 62 T124) := hb142
              refine hK.out _ _ y142 (fun _ => ?_)
              clear hK KC
              refine wpAnyH_ready (rs := [25]) (by kernel_rfl) (by simp) ?_
              refine AllReadyH.cons rfl (fun KC hK => ?_) AllReadyH.nil
              refine step_store_blk rfl 62 (.tmp 8) (.tmp 55) rfl gd8 T141.toArray rfl rfl 62 z5 m142_8.out (by rw [List.size_toArray, (FL.out hT141.out).1]; kernel_rfl) (by rw [List.size_toArray, (FL.out hT141.out).1]; rfl) (FL.out hT141.out).2 ?_
              intro v143 hb143 ho143
              have y143 := y142.trans (ho143.below y142.size G8.out)
              have m143_7 := Lib.hid (m142_7.out.grown ho143 (by intro e; injection e with e; exact ne.out e))
              have m143_8 : Hid (Blk v143 gd8 62 T141) := hb143
              refine hK.out _ _ y143 (fun _ => ?_)
              clear hK KC
              refine wpAnyH_done (by kernel_rfl) ?_ _
              go_wp2_with fail
              go_meet
              case rel => exact ⟨gd7, gd8, T124, T141, rfl, rfl, hT124, hT141, m143_7, m143_8, G7, G8, ne, y143⟩
          · skip
            refine step_alloc_el rfl rfl ?_
            intro v144 gd8 hg144 hN144 k144
            have y144 := y125.trans (k144.mono y125.size)
            have G8 : Hid (X121.heap.size ≤ gd8) := Nat.le_trans y125.size hg144
            have m144_8 := Lib.hid hN144
            refine hK.out _ _ y144 (fun _ => ?_)
            clear hK KC hN144 hg144
            refine wpAnyH_ready (rs := [21, 22]) (by kernel_rfl) (by simp) ?_
            refine AllReadyH.cons rfl (fun KC hK => ?_) (AllReadyH.cons rfl (fun KC hK => ?_) AllReadyH.nil)
            · skip
              go_simp
              refine (c55.out _ _ _ hT125 h3).mono ?_
              rintro e v145 ⟨T145, rfl, q145, k145⟩
              have hT145 := Lib.hid q145
              have y145 := y144.trans (k145.mono y144.size)
              have m145_8 := Lib.hid (m144_8.out.below k145 m144_8.out.lt)
              refine hK.out _ _ y145 (fun _ => ?_)
              clear hK KC q145
              refine wpAnyH_ready (rs := [22]) (by kernel_rfl) (by simp) ?_
              refine AllReadyH.cons rfl (fun KC hK => ?_) AllReadyH.nil
              refine step_alloc_el rfl rfl ?_
              intro v146 gd7 hg146 hN146 k146
              have y146 := y145.trans (k146.mono y145.size)
              have G7 : Hid (X121.heap.size ≤ gd7) := Nat.le_trans y145.size hg146
              have ne : Hid (gd7 ≠ gd8) := by have := m145_8.out.lt; rw [Hid]; omega
              have m146_8 := Lib.hid (m145_8.out.below k146 m145_8.out.lt)
              have m146_7 := Lib.hid hN146
              refine hK.out _ _ y146 (fun _ => ?_)
              clear hK KC hN146 hg146
              refine wpAnyH_ready (rs := [24]) (by kernel_rfl) (by simp) ?_
              refine AllReadyH.cons rfl (fun KC hK => ?_) AllReadyH.nil
              refine step_store_blk rfl 62 (.tmp 7) (.tmp 44) rfl gd7 T124.toArray rfl rfl 62 z5 m146_7.out (by rw [List.size_toArray, (FL.out hT124.out).1]; kernel_rfl) (by rw [List.size_toArray, (FL.out hT124.out).1]; rfl) (FL.out hT124.out).2 ?_
              intro v147 hb147 ho147
              have y147 := y146.trans (ho147.below y146.size G7.out)
              have m147_8 := Lib.hid (m146_8.out.grown ho147 (by intro e; injection e with e; exact ne.out e.symm))
              have m147_7 : Hid (Blk v147 gd7 62 T124) := hb147
              refine hK.out _ _ y147 (fun _ => ?_)
              clear hK KC
              refine wpAnyH_ready (rs := [25]) (by kernel_rfl) (by simp) ?_
              refine AllReadyH.cons rfl (fun KC hK => ?_) AllReadyH.nil
              refine step_store_blk rfl 62 (.tmp 8) (.tmp 55) rfl gd8 T145.toArray rfl rfl 62 z5 m147_8.out (by rw [List.size_toArray, (FL.out hT145.out).1]; kernel_rfl) (by rw [List.size_toArray, (FL.out hT145.out).1]; rfl) (FL.out hT145.out).2 ?_
              intro v148 hb148 ho148
              have y148 := y147.trans (ho148.below y147.size G8.out)
              have m148_7 := Lib.hid (m147_7.out.grown ho148 (by intro e; injection e with e; exact ne.out e))
              have m148_8 : Hid (Blk v148 gd8 62 T145) := hb148
              refine hK.out _ _ y148 (fun _ => ?_)
              clear hK KC
              refine wpAnyH_done (by kernel_rfl) ?_ _
              go_wp2_with fail
              go_meet
              case rel => exact ⟨gd7, gd8, T124, T145, rfl, rfl, hT124, hT145, m148_7, m148_8, G7, G8, ne, y148⟩
            · skip
              refine step_alloc_el rfl rfl ?_
              intro v149 gd7 hg149 hN149 k149
              have y149 := y144.trans (k149.mono y144.size)
              have G7 : Hid (X121.heap.size ≤ gd7) := Nat.le_trans y144.size hg149
              have ne : Hid (gd7 ≠ gd8) := by have := m144_8.out.lt; rw [Hid]; omega
              have m149_8 := Lib.hid (m144_8.out.below k149 m144_8.out.lt)
              have m149_7 := Lib.hid hN149
              refine hK.out _ _ y149 (fun _ => ?_)
              clear hK KC hN149 hg149
              refine wpAnyH_ready (rs := [21]) (by kernel_rfl) (by simp) ?_
              refine AllReadyH.cons rfl (fun KC hK => ?_) AllReadyH.nil
              go_simp
              refine (c55.out _ _ _ hT125 h3).mono ?_
              rintro e v150 ⟨T150, rfl, q150, k150⟩
              have hT150 := Lib.hid q150
              have y150 := y149.trans (k150.mono y149.size)
              have m150_8 := Lib.hid (m149_8.out.below k150 m149_8.out.lt)
              have m150_7 := Lib.hid (m149_7.out.below k150 m149_7.out.lt)
              refine hK.out _ _ y150 (fun _ => ?_)
              clear hK KC q150
              refine wpAnyH_ready (rs := [24]) (by kernel_rfl) (by simp) ?_
              refine AllReadyH.cons rfl (fun KC hK => ?_) AllReadyH.nil
              refine step_store_blk rfl 62 (.tmp 7) (.tmp 44) rfl gd7 T124.toArray rfl rfl 62 z5 m150_7.out (by rw [List.size_toArray, (FL.out hT124.out).1]; kernel_rfl) (by rw [List.size_toArray, (FL.out hT124.out).1]; rfl) (FL.out hT124.out).2 ?_
              intro v151 hb151 ho151
              have y151 := y150.trans (ho151.below y150.size G7.out)
              have m151_8 := Lib.hid (m150_8.out.grown ho151 (by intro e; injection e with e; exact ne.out e.symm))
              have m151_7 : Hid (Blk v151 gd7 62 T124) := hb151
              refine hK.out _ _ y151 (fun _ => ?_)
              clear hK KC
              refine wpAnyH_ready (rs := [25]) (by kernel_rfl) (by simp) ?_
              refine AllReadyH.cons rfl (fun KC hK => ?_) AllReadyH.nil
              refine step_store_blk rfl 62 (.tmp 8) (.tmp 55) rfl gd8 T150.toArray rfl rfl 62 z5 m151_8.out (by rw [List.size_toArray, (FL.out hT150.out).1]; kernel_rfl) (by rw [List.size_toArray, (FL.out hT150.out).1]; rfl) (FL.out hT150.out).2 ?_
              intro v152 hb152 ho152
              have y152 := y151.trans (ho152.below y151.size G8.out)
              have m152_7 := Lib.hid (m151_7.out.grown ho152 (by intro e; injection e with e; exact ne.out e))
              have m152_8 : Hid (Blk v152 gd8 62 T150) := hb152
              refine hK.out _ _ y152 (fun _ => ?_)
              clear hK KC
              refine wpAnyH_done (by kernel_rfl) ?_ _
              go_wp2_with fail
              go_meet
              case rel => exact ⟨gd7, gd8, T124, T150, rfl, rfl, hT124, hT150, m152_7, m152_8, G7, G8, ne, y152⟩
        · skip
          refine step_alloc_el rfl rfl ?_
          intro v153 gd7 hg153 hN153 k153
          have y153 := y124.trans (k153.mono y124.size)
          have G7 : Hid (X121.heap.size ≤ gd7) := Nat.le_trans y124.size hg153
          have m153_7 := Lib.hid hN153
          refine hK.out _ _ y153 (fun _ => ?_)
          clear hK KC hN153 hg153
          refine wpAnyH_ready (rs := [19, 23]) (by kernel_rfl) (by simp) ?_
          refine AllReadyH.cons rfl (fun KC hK => ?_) (AllReadyH.cons rfl (fun KC hK => ?_) AllReadyH.nil)
          · skip
            go_simp
            refine (c53.out _ _ _ hD' hE').mono ?_
            rintro e v154 ⟨T154, rfl, q154, k154⟩
            have hT154 := Lib.hid q154
            have y154 := y153.trans (k154.mono y153.size)
            have m154_7 := Lib.hid (m153_7.out.below k154 m153_7.out.lt)
            refine hK.out _ _ y154 (fun _ => ?_)
            clear hK KC q154
            refine wpAnyH_ready (rs := [21, 23]) (by kernel_rfl) (by simp) ?_
            refine AllReadyH.cons rfl (fun KC hK => ?_) (AllReadyH.cons rfl (fun KC hK => ?_) AllReadyH.nil)
            · skip
              go_simp
              refine (c55.out _ _ _ hT154 h3).mono ?_
              rintro e v155 ⟨T155, rfl, q155, k155⟩
              have hT155 := Lib.hid q155
              have y155 := y154.trans (k155.mono y154.size)
              have m155_7 := Lib.hid (m154_7.out.below k155 m154_7.out.lt)
              refine hK.out _ _ y155 (fun _ => ?_)
              clear hK KC q155
              refine wpAnyH_ready (rs := [23]) (by kernel_rfl) (by simp) ?_
              refine AllReadyH.cons rfl (fun KC hK => ?_) AllReadyH.nil
              refine step_alloc_el rfl rfl ?_
              intro v156 gd8 hg156 hN156 k156
              have y156 := y155.trans (k156.mono y155.size)
              have G8 : Hid (X121.heap.size ≤ gd8) := Nat.le_trans y155.size hg156
              have ne : Hid (gd7 ≠ gd8) := by have := m155_7.out.lt; rw [Hid]; omega
              have m156_7 := Lib.hid (m155_7.out.below k156 m155_7.out.lt)
              have m156_8 := Lib.hid hN156
              refine hK.out _ _ y156 (fun _ => ?_)
              clear hK KC hN156 hg156
              refine wpAnyH_ready (rs := [24]) (by kernel_rfl) (by simp) ?_
              refine AllReadyH.cons rfl (fun KC hK => ?_) AllReadyH.nil
              refine step_store_blk rfl 62 (.tmp 7) (.tmp 44) rfl gd7 T124.toArray rfl rfl 62 z5 m156_7.out (by rw [List.size_toArray, (FL.out hT124.out).1]; kernel_rfl) (by rw [List.size_toArray, (FL.out hT124.out).1]; rfl) (FL.out hT124.out).2 ?_
              intro v157 hb157 ho157
              have y157 := y156.trans (ho157.below y156.size G7.out)
              have m157_8 := Lib.hid (m156_8.out.grown ho157 (by intro e; injection e with e; exact ne.out e.symm))
              have m157_7 : Hid (Blk v157 gd7 62 T124) := hb157
              refine hK.out _ _ y157 (fun _ => ?_)
              clear hK KC
              refine wpAnyH_ready (rs := [25]) (by kernel_rfl) (by simp) ?_
              refine AllReadyH.cons rfl (fun KC hK => ?_) AllReadyH.nil
              refine step_store_blk rfl 62 (.tmp 8) (.tmp 55) rfl gd8 T155.toArray rfl rfl 62 z5 m157_8.out (by rw [List.size_toArray, (FL.out hT155.out).1]; kernel_rfl) (by rw [List.size_toArray, (FL.out hT155.out).1]; rfl) (FL.out hT155.out).2 ?_
              intro v158 hb158 ho158
              have y158 := y157.trans (ho158.below y157.size G8.out)
              have m158_7 := Lib.hid (m157_7.out.grown ho158 (by intro e; injection e with e; exact ne.out e))
              have m158_8 : Hid (Blk v158 gd8 62 T155) := hb158
              refine hK.out _ _ y158 (fun _ => ?_)
              clear hK KC
              refine wpAnyH_done (by kernel_rfl) ?_ _
              go_wp2_with fail
              go_meet
              case rel => exact ⟨gd7, gd8, T124, T155, rfl, rfl, hT124, hT155, m158_7, m158_8, G7, G8, ne, y158⟩
            · skip
              refine step_alloc_el rfl rfl ?_
              intro v159 gd8 hg159 hN159 k159
              have y159 := y154.trans (k159.mono y154.size)
              have G8 : Hid (X121.heap.size ≤ gd8) := Nat.le_trans y154.size hg159
              have ne : Hid (gd7 ≠ gd8) := by have := m154_7.out.lt; rw [Hid]; omega
              have m159_7 := Lib.hid (m154_7.out.below k159 m154_7.out.lt)
              have m159_8 := Lib.hid hN159
              refine hK.out _ _ y159 (fun _ => ?_)
              clear hK KC hN159 hg159
              refine wpAnyH_ready (rs := [21]) (by kernel_rfl) (by simp) ?_
              refine AllReadyH.cons rfl (fun KC hK => ?_) AllReadyH.nil
              go_simp
              refine (c55.out _ _ _ hT154 h3).mono ?_
              rintro e v160 ⟨T160, rfl, q160, k160⟩
              have hT160 := Lib.hid q160
              have y160 := y159.trans (k160.mono y159.size)
              have m160_7 := Lib.hid (m159_7.out.below k160 m159_7.out.lt)
              have m160_8 := Lib.hid (m159_8.out.below k160 m159_8.out.lt)
              refine hK.out _ _ y160 (fun _ => ?_)
              clear hK KC q160
              refine wpAnyH_ready (rs := [24]) (by kernel_rfl) (by simp) ?_
              refine AllReadyH.cons rfl (fun KC hK => ?_) AllReadyH.nil
              refine step_store_blk rfl 62 (.tmp 7) (.tmp 44) rfl gd7 T124.toArray rfl rfl 62 z5 m160_7.out (by rw [List.size_toArray, (FL.out hT124.out).1]; kernel_rfl) (by rw [List.size_toArray, (FL.out hT124.out).1]; rfl) (FL.out hT124.out).2 ?_
              intro v161 hb161 ho161
              have y161 := y160.trans (ho161.below y160.size G7.out)
              have m161_8 := Lib.hid (m160_8.out.grown ho161 (by intro e; injection e with e; exact ne.out e.symm))
              have m161_7 : Hid (Blk v161 gd7 62 T124) := hb161
              refine hK.out _ _ y161 (fun _ => ?_)
              clear hK KC
              refine wpAnyH_ready (rs := [25]) (by kernel_rfl) (by simp) ?_
              refine AllReadyH.cons rfl (fun KC hK => ?_) AllReadyH.nil
              refine step_store_blk rfl 62 (.tmp 8) (.tmp 55) rfl gd8 T160.toArray rfl rfl 62 z5 m161_8.out (by rw [List.size_toArray, (FL.out hT160.out).1]; kernel_rfl) (by rw [List.size_toArray, (FL.out hT160.out).1]; rfl) (FL.out hT160.out).2 ?_
              intro v162 hb162 ho162
              have y162 := y161.trans (ho162.below y161.size G8.out)
              have m162_7 := Lib.hid (m161_7.out.grown ho162 (by intro e; injection e with e; exact ne.out e))
              have m162_8 : Hid (Blk v162 gd8 62 T160) := hb162
              refine hK.out _ _ y162 (fun _ => ?_)
              clear hK KC
              refine wpAnyH_done (by kernel_rfl) ?_ _
              go_wp2_with fail
              go_meet
              case rel => exact ⟨gd7, gd8, T124, T160, rfl, rfl, hT124, hT160, m162_7, m162_8, G7, G8, ne, y162⟩
          · skip
            refine step_alloc_el rfl rfl ?_
            intro v163 gd8 hg163 hN163 k163
            have y163 := y153.trans (k163.mono y153.size)
            have G8 : Hid (X121.heap.size ≤ gd8) := Nat.le_trans y153.size hg163
            have ne : Hid (gd7 ≠ gd8) := by have := m153_7.out.lt; rw [Hid]; omega
            have m163_7 := Lib.hid (m153_7.out.below k163 m153_7.out.lt)
            have m163_8 := Lib.hid hN163
            refine hK.out _ _ y163 (fun _ => ?_)
            clear hK KC hN163 hg163
            refine wpAnyH_ready (rs := [19]) (by kernel_rfl) (by simp) ?_
            refine AllReadyH.cons rfl (fun KC hK => ?_) AllReadyH.nil
            go_simp
            refine (c53.out _ _ _ hD' hE').mono ?_
            rintro e v164 ⟨T164, rfl, q164, k164⟩
            have hT164 := Lib.hid q164
            have y164 := y163.trans (k164.mono y163.size)
            have m164_7 := Lib.hid (m163_7.out.below k164 m163_7.out.lt)
            have m164_8 := Lib.hid (m163_8.out.below k164 m163_8.out.lt)
            refine hK.out _ _ y164 (fun _ => ?_)
            clear hK KC q164
            refine wpAnyH_ready (rs := [21]) (by kernel_rfl) (by simp) ?_
            refine AllReadyH.cons rfl (fun KC hK => ?_) AllReadyH.nil
            go_simp
            refine (c55.out _ _ _ hT164 h3).mono ?_
            rintro e v165 ⟨T165, rfl, q165, k165⟩
            have hT165 := Lib.hid q165
            have y165 := y164.trans (k165.mono y164.size)
            have m165_7 := Lib.hid (m164_7.out.below k165 m164_7.out.lt)
            have m165_8 := Lib.hid (m164_8.out.below k165 m164_8.out.lt)
            refine hK.out _ _ y165 (fun _ => ?_)
            clear hK KC q165
            refine wpAnyH_ready (rs := [24]) (by kernel_rfl) (by simp) ?_
            refine AllReadyH.cons rfl (fun KC hK => ?_) AllReadyH.nil
            refine step_store_blk rfl 62 (.tmp 7) (.tmp 44) rfl gd7 T124.toArray rfl rfl 62 z5 m165_7.out (by rw [List.size_toArray, (FL.out hT124.out).1]; kernel_rfl) (by rw [List.size_toArray, (FL.out hT124.out).1]; rfl) (FL.out hT124.out).2 ?_
            intro v166 hb166 ho166
            have y166 := y165.trans (ho166.below y165.size G7.out)
            have m166_8 := Lib.hid (m165_8.out.grown ho166 (by intro e; injection e with e; exact ne.out e.symm))
            have m166_7 : Hid (Blk v166 gd7 62 T124) := hb166
            refine hK.out _ _ y166 (fun _ => ?_)
            clear hK KC
            refine wpAnyH_ready (rs := [25]) (by kernel_rfl) (by simp) ?_
            refine AllReadyH.cons rfl (fun KC hK => ?_) AllReadyH.nil
            refine step_store_blk rfl 62 (.tmp 8) (.tmp 55) rfl gd8 T165.toArray rfl rfl 62 z5 m166_8.out (by rw [List.size_toArray, (FL.out hT165.out).1]; kernel_rfl) (by rw [List.size_toArray, (FL.out hT165.out).1]; rfl) (FL.out hT165.out).2 ?_
            intro v167 hb167 ho167
            have y167 := y166.trans (ho167.below y166.size G8.out)
            have m167_7 := Lib.hid (m166_7.out.grown ho167 (by intro e; injection e with e; exact ne.out e))
            have m167_8 : Hid (Blk v167 gd8 62 T165) := hb167
            refine hK.out _ _ y167 (fun _ => ?_)
            clear hK KC
            refine wpAnyH_done (by kernel_rfl) ?_ _
            go_wp2_with fail
            go_meet
            case rel => exact ⟨gd7, gd8, T124, T165, rfl, rfl, hT124, hT165, m167_7, m167_8, G7, G8, ne, y167⟩
        · skip
          refine step_alloc_el rfl rfl ?_
          intro v168 gd8 hg168 hN168 k168
          have y168 := y124.trans (k168.mono y124.size)
          have G8 : Hid (X121.heap.size ≤ gd8) := Nat.le_trans y124.size hg168
          have m168_8 := Lib.hid hN168
          refine hK.out _ _ y168 (fun _ => ?_)
          clear hK KC hN168 hg168
          refine wpAnyH_ready (rs := [19, 22]) (by kernel_rfl) (by simp) ?_
          refine AllReadyH.cons rfl (fun KC hK => ?_) (AllReadyH.cons rfl (fun KC hK => ?_) AllReadyH.nil)
          · skip
            go_simp
            refine (c53.out _ _ _ hD' hE').mono ?_
            rintro e v169 ⟨T169, rfl, q169, k169⟩
            have hT169 := Lib.hid q169
            have y169 := y168.trans (k169.mono y168.size)
            have m169_8 := Lib.hid (m168_8.out.below k169 m168_8.out.lt)
            refine hK.out _ _ y169 (fun _ => ?_)
            clear hK KC q169
            refine wpAnyH_ready (rs := [21, 22]) (by kernel_rfl) (by simp) ?_
            refine AllReadyH.cons rfl (fun KC hK => ?_) (AllReadyH.cons rfl (fun KC hK => ?_) AllReadyH.nil)
            · skip
              go_simp
              refine (c55.out _ _ _ hT169 h3).mono ?_
              rintro e v170 ⟨T170, rfl, q170, k170⟩
              have hT170 := Lib.hid q170
              have y170 := y169.trans (k170.mono y169.size)
              have m170_8 := Lib.hid (m169_8.out.below k170 m169_8.out.lt)
              refine hK.out _ _ y170 (fun _ => ?_)
              clear hK KC q170
              refine wpAnyH_ready (rs := [22]) (by kernel_rfl) (by simp) ?_
              refine AllReadyH.cons rfl (fun KC hK => ?_) AllReadyH.nil
              refine step_alloc_el rfl rfl ?_
              intro v171 gd7 hg171 hN171 k171
              have y171 := y170.trans (k171.mono y170.size)
              have G7 : Hid (X121.heap.size ≤ gd7) := Nat.le_trans y170.size hg171
              have ne : Hid (gd7 ≠ gd8) := by have := m170_8.out.lt; rw [Hid]; omega
              have m171_8 := Lib.hid (m170_8.out.below k171 m170_8.out.lt)
              have m171_7 := Lib.hid hN171
              refine hK.out _ _ y171 (fun _ => ?_)
              clear hK KC hN171 hg171
              refine wpAnyH_ready (rs := [24]) (by kernel_rfl) (by simp) ?_
              refine AllReadyH.cons rfl (fun KC hK => ?_) AllReadyH.nil
              refine step_store_blk rfl 62 (.tmp 7) (.tmp 44) rfl gd7 T124.toArray rfl rfl 62 z5 m171_7.out (by rw [List.size_toArray, (FL.out hT124.out).1]; kernel_rfl) (by rw [List.size_toArray, (FL.out hT124.out).1]; rfl) (FL.out hT124.out).2 ?_
              intro v172 hb172 ho172
              have y172 := y171.trans (ho172.below y171.size G7.out)
              have m172_8 := Lib.hid (m171_8.out.grown ho172 (by intro e; injection e with e; exact ne.out e.symm))
              have m172_7 : Hid (Blk v172 gd7 62 T124) := hb172
              refine hK.out _ _ y172 (fun _ => ?_)
              clear hK KC
              refine wpAnyH_ready (rs := [25]) (by kernel_rfl) (by simp) ?_
              refine AllReadyH.cons rfl (fun KC hK => ?_) AllReadyH.nil
              refine step_store_blk rfl 62 (.tmp 8) (.tmp 55) rfl gd8 T170.toArray rfl rfl 62 z5 m172_8.out (by rw [List.size_toArray, (FL.out hT170.out).1]; kernel_rfl) (by rw [List.size_toArray, (FL.out hT170.out).1]; rfl) (FL.out hT170.out).2 ?_
              intro v173 hb173 ho173
              have y173 := y172.trans (ho173.below y172.size G8.out)
              have m173_7 := Lib.hid (m172_7.out.grown ho173 (by intro e; injection e with e; exact ne.out e))
              have m173_8 : Hid (Blk v173 gd8 62 T170) := hb173
              refine hK.out _ _ y173 (fun _ => ?_)
              clear hK KC
              refine wpAnyH_done (by kernel_rfl) ?_ _
              go_wp2_with fail
              go_meet
              case rel => exact ⟨gd7, gd8, T124, T170, rfl, rfl, hT124, hT170, m173_7, m173_8, G7, G8, ne, y173⟩
            · skip
              refine step_alloc_el rfl rfl ?_
              intro v174 gd7 hg174 hN174 k174
              have y174 := y169.trans (k174.mono y169.size)
              have G7 : Hid (X121.heap.size ≤ gd7) := Nat.le_trans y169.size hg174
              have ne : Hid (gd7 ≠ gd8) := by have := m169_8.out.lt; rw [Hid]; omega
              have m174_8 := Lib.hid (m169_8.out.below k174 m169_8.out.lt)
              have m174_7 := Lib.hid hN174
              refine hK.out _ _ y174 (fun _ => ?_)
              clear hK KC hN174 hg174
              refine wpAnyH_ready (rs := [21]) (by kernel_rfl) (by simp) ?_
              refine AllReadyH.cons rfl (fun KC hK => ?_) AllReadyH.nil
              go_simp
              refine (c55.out _ _ _ hT169 h3).mono ?_
              rintro e v175 ⟨T175, rfl, q175, k175⟩
              have hT175 := Lib.hid q175
              have y175 := y174.trans (k175.mono y174.size)
              have m175_8 := Lib.hid (m174_8.out.below k175 m174_8.out.lt)
              have m175_7 := Lib.hid (m174_7.out.below k175 m174_7.out.lt)
              refine hK.out _ _ y175 (fun _ => ?_)
              clear hK KC q175
              refine wpAnyH_ready (rs := [24]) (by kernel_rfl) (by simp) ?_
              refine AllReadyH.cons rfl (fun KC hK => ?_) AllReadyH.nil
              refine step_store_blk rfl 62 (.tmp 7) (.tmp 44) rfl gd7 T124.toArray rfl rfl 62 z5 m175_7.out (by rw [List.size_toArray, (FL.out hT124.out).1]; kernel_rfl) (by rw [List.size_toArray, (FL.out hT124.out).1]; rfl) (FL.out hT124.out).2 ?_
              intro v176 hb176 ho176
              have y176 := y175.trans (ho176.below y175.size G7.out)
              have m176_8 := Lib.hid (m175_8.out.grown ho176 (by intro e; injection e with e; exact ne.out e.symm))
              have m176_7 : Hid (Blk v176 gd7 62 T124) := hb176
              refine hK.out _ _ y176 (fun _ => ?_)
              clear hK KC
              refine wpAnyH_ready (rs := [25]) (by kernel_rfl) (by simp) ?_
              refine AllReadyH.cons rfl (fun KC hK => ?_) AllReadyH.nil
              refine step_store_blk rfl 62 (.tmp 8) (.tmp 55) rfl gd8 T175.toArray rfl rfl 62 z5 m176_8.out (by rw [List.size_toArray, (FL.out hT175.out).1]; kernel_rfl) (by rw [List.size_toArray, (FL.out hT175.out).1]; rfl) (FL.out hT175.out).2 ?_
              intro v177 hb177 ho177
              have y177 := y176.trans (ho177.below y176.size G8.out)
              have m177_7 := Lib.hid (m176_7.out.grown ho177 (by intro e; injection e with e; exact ne.out e))
              have m177_8 : Hid (Blk v177 gd8 62 T175) := hb177
              refine hK.out _ _ y177 (fun _ => ?_)
              clear hK KC
              refine wpAnyH_done (by kernel_rfl) ?_ _
              go_wp2_with fail
              go_meet
              case rel => exact ⟨gd7, gd8, T124, T175, rfl, rfl, hT124, hT175, m177_7, m177_8, G7, G8, ne, y177⟩
          · skip
            refine step_alloc_el rfl rfl ?_
            intro v178 gd7 hg178 hN178 k178
            have y178 := y168.trans (k178.mono y168.size)
            have G7 : Hid (X121.heap.size ≤ gd7) := Nat.le_trans y168.size hg178
            have ne : Hid (gd7 ≠ gd8) := by have := m168_8.out.lt; rw [Hid]; omega
            have m178_8 := Lib.hid (m168_8.out.below k178 m168_8.out.lt)
            have m178_7 := Lib.hid hN178
            refine hK.out _ _ y178 (fun _ => ?_)
            clear hK KC hN178 hg178
            refine wpAnyH_ready (rs := [19]) (by kernel_rfl) (by simp) ?_
            refine AllReadyH.cons rfl (fun KC hK => ?_) AllReadyH.nil
            go_simp
            refine (c53.out _ _ _ hD' hE').mono ?_
            rintro e v179 ⟨T179, rfl, q179, k179⟩
            have hT179 := Lib.hid q179
            have y179 := y178.trans (k179.mono y178.size)
            have m179_8 := Lib.hid (m178_8.out.below k179 m178_8.out.lt)
            have m179_7 := Lib.hid (m178_7.out.below k179 m178_7.out.lt)
            refine hK.out _ _ y179 (fun _ => ?_)
            clear hK KC q179
            refine wpAnyH_ready (rs := [21]) (by kernel_rfl) (by simp) ?_
            refine AllReadyH.cons rfl (fun KC hK => ?_) AllReadyH.nil
            go_simp
            refine (c55.out _ _ _ hT179 h3).mono ?_
            rintro e v180 ⟨T180, rfl, q180, k180⟩
            have hT180 := Lib.hid q180
            have y180 := y179.trans (k180.mono y179.size)
            have m180_8 := Lib.hid (m179_8.out.below k180 m179_8.out.lt)
            have m180_7 := Lib.hid (m179_7.out.below k180 m179_7.out.lt)
            refine hK.out _ _ y180 (fun _ => ?_)
            clear hK KC q180
            refine wpAnyH_ready (rs := [24]) (by kernel_rfl) (by simp) ?_
            refine AllReadyH.cons rfl (fun KC hK => ?_) AllReadyH.nil
            refine step_store_blk rfl 62 (.tmp 7) (.tmp 44) rfl gd7 T124.toArray rfl rfl 62 z5 m180_7.out (by rw [List.size_toArray, (FL.out hT124.out).1]; kernel_rfl) (by rw [List.size_toArray, (FL.out hT124.out).1]; rfl) (FL.out hT124.out).2 ?_
            intro v181 hb181 ho181
            have y181 := y180.trans (ho181.below y180.size G7.out)
            have m181_8 := Lib.hid (m180_8.out.grown ho181 (by intro e; injection e with e; exact ne.out e.symm))
            have m181_7 : Hid (Blk v181 gd7 62 T124) := hb181
            refine hK.out _ _ y181 (fun _ => ?_)
            clear hK KC
            refine wpAnyH_ready (rs := [25]) (by kernel_rfl) (by simp) ?_
            refine AllReadyH.cons rfl (fun KC hK => ?_) AllReadyH.nil
            refine step_store_blk rfl 62 (.tmp 8) (.tmp 55) rfl gd8 T180.toArray rfl rfl 62 z5 m181_8.out (by rw [List.size_toArray, (FL.out hT180.out).1]; kernel_rfl) (by rw [List.size_toArray, (FL.out hT180.out).1]; rfl) (FL.out hT180.out).2 ?_
            intro v182 hb182 ho182
            have y182 := y181.trans (ho182.below y181.size G8.out)
            have m182_7 := Lib.hid (m181_7.out.grown ho182 (by intro e; injection e with e; exact ne.out e))
            have m182_8 : Hid (Blk v182 gd8 62 T180) := hb182
            refine hK.out _ _ y182 (fun _ => ?_)
            clear hK KC
            refine wpAnyH_done (by kernel_rfl) ?_ _
            go_wp2_with fail
            go_meet
            case rel => exact ⟨gd7, gd8, T124, T180, rfl, rfl, hT124, hT180, m182_7, m182_8, G7, G8, ne, y182⟩
      · skip
        refine step_alloc_el rfl rfl ?_
        intro v183 gd7 hg183 hN183 k183
        have y183 := y123.trans (k183.mono y123.size)
        have G7 : Hid (X121.heap.size ≤ gd7) := Nat.le_trans y123.size hg183
        have m183_7 := Lib.hid hN183
        refine hK.out _ _ y183 (fun _ => ?_)
        clear hK KC hN183 hg183
        refine wpAnyH_ready (rs := [10, 23]) (by kernel_rfl) (by simp) ?_
        refine AllReadyH.cons rfl (fun KC hK => ?_) (AllReadyH.cons rfl (fun KC hK => ?_) AllReadyH.nil)
        · skip
          go_simp
          refine (c44.out _ _ _ hT123 h2).mono ?_
          rintro e v184 ⟨T184, rfl, q184, k184⟩
          have hT184 := Lib.hid q184
          have y184 := y183.trans (k184.mono y183.size)
          have m184_7 := Lib.hid (m183_7.out.below k184 m183_7.out.lt)
          refine hK.out _ _ y184 (fun _ => ?_)
          clear hK KC q184
          refine wpAnyH_ready (rs := [19, 23]) (by kernel_rfl) (by simp) ?_
          refine AllReadyH.cons rfl (fun KC hK => ?_) (AllReadyH.cons rfl (fun KC hK => ?_) AllReadyH.nil)
          · skip
            go_simp
            refine (c53.out _ _ _ hD' hE').mono ?_
            rintro e v185 ⟨T185, rfl, q185, k185⟩
            have hT185 := Lib.hid q185
            have y185 := y184.trans (k185.mono y184.size)
            have m185_7 := Lib.hid (m184_7.out.below k185 m184_7.out.lt)
            refine hK.out _ _ y185 (fun _ => ?_)
            clear hK KC q185
            refine wpAnyH_ready (rs := [21, 23]) (by kernel_rfl) (by simp) ?_
            refine AllReadyH.cons rfl (fun KC hK => ?_) (AllReadyH.cons rfl (fun KC hK => ?_) AllReadyH.nil)
            · skip
              go_simp
              refine (c55.out _ _ _ hT185 h3).mono ?_
              rintro e v186 ⟨T186, rfl, q186, k186⟩
              have hT186 := Lib.hid q186
              have y186 := y185.trans (k186.mono y185.size)
              have m186_7 := Lib.hid (m185_7.out.below k186 m185_7.out.lt)
              refine hK.out _ _ y186 (fun _ => ?_)
              clear hK KC q186
              refine wpAnyH_ready (rs := [23]) (by kernel_rfl) (by simp) ?_
              refine AllReadyH.cons rfl (fun KC hK => ?_) AllReadyH.nil
              refine step_alloc_el rfl rfl ?_
              intro v187 gd8 hg187 hN187 k187
              have y187 := y186.trans (k187.mono y186.size)
              have G8 : Hid (X121.heap.size ≤ gd8) := Nat.le_trans y186.size hg187
              have ne : Hid (gd7 ≠ gd8) := by have := m186_7.out.lt; rw [Hid]; omega
              have m187_7 := Lib.hid (m186_7.out.below k187 m186_7.out.lt)
              have m187_8 := Lib.hid hN187
              refine hK.out _ _ y187 (fun _ => ?_)
              clear hK KC hN187 hg187
              refine wpAnyH_ready (rs := [24]) (by kernel_rfl) (by simp) ?_
              refine AllReadyH.cons rfl (fun KC hK => ?_) AllReadyH.nil
              refine step_store_blk rfl 62 (.tmp 7) (.tmp 44) rfl gd7 T184.toArray rfl rfl 62 z5 m187_7.out (by rw [List.size_toArray, (FL.out hT184.out).1]; kernel_rfl) (by rw [List.size_toArray, (FL.out hT184.out).1]; rfl) (FL.out hT184.out).2 ?_
              intro v188 hb188 ho188
              have y188 := y187.trans (ho188.below y187.size G7.out)
              have m188_8 := Lib.hid (m187_8.out.grown ho188 (by intro e; injection e with e; exact ne.out e.symm))
              have m188_7 : Hid (Blk v188 gd7 62 T184) := hb188
              refine hK.out _ _ y188 (fun _ => ?_)
              clear hK KC
              refine wpAnyH_ready (rs := [25]) (by kernel_rfl) (by simp) ?_
              refine AllReadyH.cons rfl (fun KC hK => ?_) AllReadyH.nil
              refine step_store_blk rfl 62 (.tmp 8) (.tmp 55) rfl gd8 T186.toArray rfl rfl 62 z5 m188_8.out (by rw [List.size_toArray, (FL.out hT186.out).1]; kernel_rfl) (by rw [List.size_toArray, (FL.out hT186.out).1]; rfl) (FL.out hT186.out).2 ?_
              intro v189 hb189 ho189
              have y189 := y188.trans (ho189.below y188.size G8.out)
              have m189_7 := Lib.hid (m188_7.out.grown ho189 (by intro e; injection e with e; exact ne.out e))
              have m189_8 : Hid (Blk v189 gd8 62 T186) := hb189
              refine hK.out _ _ y189 (fun _ => ?_)
              clear hK KC
              refine wpAnyH_done (by kernel_rfl) ?_ _
              go_wp2_with fail
              go_meet
              case rel => exact ⟨gd7, gd8, T184, T186, rfl, rfl, hT184, hT186, m189_7, m189_8, G7, G8, ne, y189⟩
            · skip
              refine step_alloc_el rfl rfl ?_
              intro v190 gd8 hg190 hN190 k190
              have y190 := y185.trans (k190.mono y185.size)
              have G8 : Hid (X121.heap.size ≤ gd8) := Nat.le_trans y185.size hg190
              have ne : Hid (gd7 ≠ gd8) := by have := m185_7.out.lt; rw [Hid]; omega
              have m190_7 := Lib.hid (m185_7.out.below k190 m185_7.out.lt)
              have m190_8 := Lib.hid hN190
              refine hK.out _ _ y190 (fun _ => ?_)
              clear hK KC hN190 hg190
              refine wpAnyH_ready (rs := [21]) (by kernel_rfl) (by simp) ?_
              refine AllReadyH.cons rfl (fun KC hK => ?_) AllReadyH.nil
              go_simp
              refine (c55.out _ _ _ hT185 h3).mono ?_
              rintro e v191 ⟨T191, rfl, q191, k191⟩
              have hT191 := Lib.hid q191
              have y191 := y190.trans (k191.mono y190.size)
              have m191_7 := Lib.hid (m190_7.out.below k191 m190_7.out.lt)
              have m191_8 := Lib.hid (m190_8.out.below k191 m190_8.out.lt)
              refine hK.out _ _ y191 (fun _ => ?_)
              clear hK KC q191
              refine wpAnyH_ready (rs := [24]) (by kernel_rfl) (by simp) ?_
              refine AllReadyH.cons rfl (fun KC hK => ?_) AllReadyH.nil
              refine step_store_blk rfl 62 (.tmp 7) (.tmp 44) rfl gd7 T184.toArray rfl rfl 62 z5 m191_7.out (by rw [List.size_toArray, (FL.out hT184.out).1]; kernel_rfl) (by rw [List.size_toArray, (FL.out hT184.out).1]; rfl) (FL.out hT184.out).2 ?_
              intro v192 hb192 ho192
              have y192 := y191.trans (ho192.below y191.size G7.out)
              have m192_8 := Lib.hid (m191_8.out.grown ho192 (by intro e; injection e with e; exact ne.out e.symm))
              have m192_7 : Hid (Blk v192 gd7 62 T184) := hb192
              refine hK.out _ _ y192 (fun _ => ?_)
              clear hK KC
              refine wpAnyH_ready (rs := [25]) (by kernel_rfl) (by simp) ?_
              refine AllReadyH.cons rfl (fun KC hK => ?_) AllReadyH.nil
              refine step_store_blk rfl 62 (.tmp 8) (.tmp 55) rfl gd8 T191.toArray rfl rfl 62 z5 m192_8.out (by rw [List.size_toArray, (FL.out hT191.out).1]; kernel_rfl) (by rw [List.size_toArray, (FL.out hT191.out).1]; rfl) (FL.out hT191.out).2 ?_
              intro v193 hb193 ho193
              have y193 := y192.trans (ho193.below y192.size G8.out)
              have m193_7 := Lib.hid (m192_7.out.grown ho193 (by intro e; injection e with e; exact ne.out e))
              have m193_8 : Hid (Blk v193 gd8 62 T191) := hb193
              refine hK.out _ _ y193 (fun _ => ?_)
              clear hK KC
              refine wpAnyH_done (by kernel_rfl) ?_ _
              go_wp2_with fail
              go_meet
              case rel => exact ⟨gd7, gd8, T184, T191, rfl, rfl, hT184, hT191, m193_7, m193_8, G7, G8, ne, y193⟩
          · skip
            refine step_alloc_el rfl rfl ?_
            intro v194 gd8 hg194 hN194 k194
            have y194 := y184.trans (k194.mono y184.size)
            have G8 : Hid (X121.heap.size ≤ gd8) := Nat.le_trans y184.size hg194
            have ne : Hid (gd7 ≠ gd8) := by have := m184_7.out.lt; rw [Hid]; omega
            have m194_7 := Lib.hid (m184_7.out.below k194 m184_7.out.lt)
            have m194_8 := Lib.hid hN194
            refine hK.out _ _ y194 (fun _ => ?_)
            clear hK KC hN194 hg194
            refine wpAnyH_ready (rs := [19]) (by kernel_rfl) (by simp) ?_
            refine AllReadyH.cons rfl (fun KC hK => ?_) AllReadyH.nil
            go_simp
            refine (c53.out _ _ _ hD' hE').mono ?_
            rintro e v195 ⟨T195, rfl, q195, k195⟩
            have hT195 := Lib.hid q195
            have y195 := y194.trans (k195.mono y194.size)
            have m195_7 := Lib.hid (m194_7.out.below k195 m194_7.out.lt)
            have m195_8 := Lib.hid (m194_8.out.below k195 m194_8.out.lt)
            refine hK.out _ _ y195 (fun _ => ?_)
            clear hK KC q195
            refine wpAnyH_ready (rs := [21]) (by kernel_rfl) (by simp) ?_
            refine AllReadyH.cons rfl (fun KC hK => ?_) AllReadyH.nil
            go_simp
            refine (c55.out _ _ _ hT195 h3).mono ?_
            rintro e v196 ⟨T196, rfl, q196, k196⟩
            have hT196 := Lib.hid q196
            have y196 := y195.trans (k196.mono y195.size)
            have m196_7 := Lib.hid (m195_7.out.below k196 m195_7.out.lt)
            have m196_8 := Lib.hid (m195_8.out.below k196 m195_8.out.lt)
            refine hK.out _ _ y196 (fun _ => ?_)
            clear hK KC q196
            refine wpAnyH_ready (rs := [24]) (by kernel_rfl) (by simp) ?_
            refine AllReadyH.cons rfl (fun KC hK => ?_) AllReadyH.nil
            refine step_store_blk rfl 62 (.tmp 7) (.tmp 44) rfl gd7 T184.toArray rfl rfl 62 z5 m196_7.out (by rw [List.size_toArray, (FL.out hT184.out).1]; kernel_rfl) (by rw [List.size_toArray, (FL.out hT184.out).1]; rfl) (FL.out hT184.out).2 ?_
            intro v197 hb197 ho197
            have y197 := y196.trans (ho197.below y196.size G7.out)
            have m197_8 := Lib.hid (m196_8.out.grown ho197 (by intro e; injection e with e; exact ne.out e.symm))
            have m197_7 : Hid (Blk v197 gd7 62 T184) := hb197
            refine hK.out _ _ y197 (fun _ => ?_)
            clear hK KC
            refine wpAnyH_ready (rs := [25]) (by kernel_rfl) (by simp) ?_
            refine AllReadyH.cons rfl (fun KC hK => ?_) AllReadyH.nil
            refine step_store_blk rfl 62 (.tmp 8) (.tmp 55) rfl gd8 T196.toArray rfl rfl 62 z5 m197_8.out (by rw [List.size_toArray, (FL.out hT196.out).1]; kernel_rfl) (by rw [List.size_toArray, (FL.out hT196.out).1]; rfl) (FL.out hT196.out).2 ?_
            intro v198 hb198 ho198
            have y198 := y197.trans (ho198.below y197.size G8.out)
            have m198_7 := Lib.hid (m197_7.out.grown ho198 (by intro e; injection e with e; exact ne.out e))
            have m198_8 : Hid (Blk v198 gd8 62 T196) := hb198
            refine hK.out _ _ y198 (fun _ => ?_)
            clear hK KC
            refine wpAnyH_done (by kernel_rfl) ?_ _
            go_wp2_with fail
            go_meet
            case rel => exact ⟨gd7, gd8, T184, T196, rfl, rfl, hT184, hT196, m198_7, m198_8, G7, G8, ne, y198⟩
        · skip
          refine step_alloc_el rfl rfl ?_
          intro v199 gd8 hg199 hN199 k199
          have y199 := y183.trans (k199.mono y183.size)
          have G8 : Hid (X121.heap.size ≤ gd8) := Nat.le_trans y183.size hg199
          have ne : Hid (gd7 ≠ gd8) := by have := m183_7.out.lt; rw [Hid]; omega
          have m199_7 := Lib.hid (m183_7.out.below k199 m183_7.out.lt)
          have m199_8 := Lib.hid hN199
          refine hK.out _ _ y199 (fun _ => ?_)
          clear hK KC hN199 hg199
          refine wpAnyH_ready (rs := [10]) (by kernel_rfl) (by simp) ?_
          refine AllReadyH.cons rfl (fun KC hK => ?_) AllReadyH.nil
          go_simp
          refine (c44.out _ _ _ hT123 h2).mono ?_
          rintro e v200 ⟨T200, rfl, q200, k200⟩
          have hT200 := Lib.hid q200
          have y200 := y199.trans (k200.mono y199.size)
          have m200_7 := Lib.hid (m199_7.out.below k200 m199_7.out.lt)
          have m200_8 := Lib.hid (m199_8.out.below k200 m199_8.out.lt)
          refine hK.out _ _ y200 (fun _ => ?_)
          clear hK KC q200
          refine wpAnyH_ready (rs := [19]) (by kernel_rfl) (by simp) ?_
          refine AllReadyH.cons rfl (fun KC hK => ?_) AllReadyH.nil
          go_simp
          refine (c53.out _ _ _ hD' hE').mono ?_
          rintro e v201 ⟨T201, rfl, q201, k201⟩
          have hT201 := Lib.hid q201
          have y201 := y200.trans (k201.mono y200.size)
          have m201_7 := Lib.hid (m200_7.out.below k201 m200_7.out.lt)
          have m201_8 := Lib.hid (m200_8.out.below k201 m200_8.out.lt)
          refine hK.out _ _ y201 (fun _ => ?_)
          clear hK KC q201
          refine wpAnyH_ready (rs := [21]) (by kernel_rfl) (by simp) ?_
          refine AllReadyH.cons rfl (fun KC hK => ?_) AllReadyH.nil
          go_simp
          refine (c55.out _ _ _ hT201 h3).mono ?_
          rintro e v202 ⟨T202, rfl, q202, k202⟩
          have hT202 := Lib.hid q202
          have y202 := y201.trans (k202.mono y201.size)
          have m202_7 := Lib.hid (m201_7.out.below k202 m201_7.out.lt)
          have m202_8 := Lib.hid (m201_8.out.below k202 m201_8.out.lt)
          refine hK.out _ _ y202 (fun _ => ?_)
          clear hK KC q202
          refine wpAnyH_ready (rs := [24]) (by kernel_rfl) (by simp) ?_
          refine AllReadyH.cons rfl (fun KC hK => ?_) AllReadyH.nil
          refine step_store_blk rfl 62 (.tmp 7) (.tmp 44) rfl gd7 T200.toArray rfl rfl 62 z5 m202_7.out (by rw [List.size_toArray, (FL.out hT200.out).1]; kernel_rfl) (by rw [List.size_toArray, (FL.out hT200.out).1]; rfl) (FL.out hT200.out).2 ?_
          intro v203 hb203 ho203
          have y203 := y202.trans (ho203.below y202.size G7.out)
          have m203_8 := Lib.hid (m202_8.out.grown ho203 (by intro e; injection e with e; exact ne.out e.symm))
          have m203_7 : Hid (Blk v203 gd7 62 T200) := hb203
          refine hK.out _ _ y203 (fun _ => ?_)
          clear hK KC
          refine wpAnyH_ready (rs := [25]) (by kernel_rfl) (by simp) ?_
          refine AllReadyH.cons rfl (fun KC hK => ?_) AllReadyH.nil
          refine step_store_blk rfl 62 (.tmp 8) (.tmp 55) rfl gd8 T202.toArray rfl rfl 62 z5 m203_8.out (by rw [List.size_toArray, (FL.out hT202.out).1]; kernel_rfl) (by rw [List.size_toArray, (FL.out hT202.out).1]; rfl) (FL.out hT202.out).2 ?_
          intro v204 hb204 ho204
          have y204 := y203.trans (ho204.below y203.size G8.out)
          have m204_7 := Lib.hid (m203_7.out.grown ho204 (by intro e; injection e with e; exact ne.out e))
          have m204_8 : Hid (Blk v204 gd8 62 T202) := hb204
          refine hK.out _ _ y204 (fun _ => ?_)
          clear hK KC
          refine wpAnyH_done (by kernel_rfl) ?_ _
          go_wp2_with fail
          go_meet
          case rel => exact ⟨gd7, gd8, T200, T202, rfl, rfl, hT200, hT202, m204_7, m204_8, G7, G8, ne, y204⟩
      · skip
        refine step_alloc_el rfl rfl ?_
        intro v205 gd8 hg205 hN205 k205
        have y205 := y123.trans (k205.mono y123.size)
        have G8 : Hid (X121.heap.size ≤ gd8) := Nat.le_trans y123.size hg205
        have m205_8 := Lib.hid hN205
        refine hK.out _ _ y205 (fun _ => ?_)
        clear hK KC hN205 hg205
        refine wpAnyH_ready (rs := [10, 22]) (by kernel_rfl) (by simp) ?_
        refine AllReadyH.cons rfl (fun KC hK => ?_) (AllReadyH.cons rfl (fun KC hK => ?_) AllReadyH.nil)
        · skip
          go_simp
          refine (c44.out _ _ _ hT123 h2).mono ?_
          rintro e v206 ⟨T206, rfl, q206, k206⟩
          have hT206 := Lib.hid q206
          have y206 := y205.trans (k206.mono y205.size)
          have m206_8 := Lib.hid (m205_8.out.below k206 m205_8.out.lt)
          refine hK.out _ _ y206 (fun _ => ?_)
          clear hK KC q206
          refine wpAnyH_ready (rs := [19, 22]) (by kernel_rfl) (by simp) ?_
          refine AllReadyH.cons rfl (fun KC hK => ?_) (AllReadyH.cons rfl (fun KC hK => ?_) AllReadyH.nil)
          · skip
            go_simp
            refine (c53.out _ _ _ hD' hE').mono ?_
            rintro e v207 ⟨T207, rfl, q207, k207⟩
            have hT207 := Lib.hid q207
            have y207 := y206.trans (k207.mono y206.size)
            have m207_8 := Lib.hid (m206_8.out.below k207 m206_8.out.lt)
            refine hK.out _ _ y207 (fun _ => ?_)
            clear hK KC q207
            refine wpAnyH_ready (rs := [21, 22]) (by kernel_rfl) (by simp) ?_
            refine AllReadyH.cons rfl (fun KC hK => ?_) (AllReadyH.cons rfl (fun KC hK => ?_) AllReadyH.nil)
            · skip
              go_simp
              refine (c55.out _ _ _ hT207 h3).mono ?_
              rintro e v208 ⟨T208, rfl, q208, k208⟩
              have hT208 := Lib.hid q208
              have y208 := y207.trans (k208.mono y207.size)
              have m208_8 := Lib.hid (m207_8.out.below k208 m207_8.out.lt)
              refine hK.out _ _ y208 (fun _ => ?_)
              clear hK KC q208
              refine wpAnyH_ready (rs := [22]) (by kernel_rfl) (by simp) ?_
              refine AllReadyH.cons rfl (fun KC hK => ?_) AllReadyH.nil
              refine step_alloc_el rfl rfl ?_
              intro v209 gd7 hg209 hN209 k209
              have y209 := y208.trans (k209.mono y208.size)
              have G7 : Hid (X121.heap.size ≤ gd7) := Nat.le_trans y208.size hg209
              have ne : Hid (gd7 ≠ gd8) := by have := m208_8.out.lt; rw [Hid]; omega
              have m209_8 := Lib.hid (m208_8.out.below k209 m208_8.out.lt)
              have m209_7 := Lib.hid hN209
              refine hK.out _ _ y209 (fun _ => ?_)
              clear hK KC hN209 hg209
              refine wpAnyH_ready (rs := [24]) (by kernel_rfl) (by simp) ?_
              refine AllReadyH.cons rfl (fun KC hK => ?_) AllReadyH.nil
              refine step_store_blk rfl 62 (.tmp 7) (.tmp 44) rfl gd7 T206.toArray rfl rfl 62 z5 m209_7.out (by rw [List.size_toArray, (FL.out hT206.out).1]; kernel_rfl) (by rw [List.size_toArray, (FL.out hT206.out).1]; rfl) (FL.out hT206.out).2 ?_
              intro v210 hb210 ho210
              have y210 := y209.trans (ho210.below y209.size G7.out)
              have m210_8 := Lib.hid (m209_8.out.grown ho210 (by intro e; injection e with e; exact ne.out e.symm))
              have m210_7 : Hid (Blk v210 gd7 62 T206) := hb210
              refine hK.out _ _ y210 (fun _ => ?_)
              clear hK KC
              refine wpAnyH_ready (rs := [25]) (by kernel_rfl) (by simp) ?_
              refine AllReadyH.cons rfl (fun KC hK => ?_) AllReadyH.nil
              refine step_store_blk rfl 62 (.tmp 8) (.tmp 55) rfl gd8 T208.toArray rfl rfl 62 z5 m210_8.out (by rw [List.size_toArray, (FL.out hT208.out).1]; kernel_rfl) (by rw [List.size_toArray, (FL.out hT208.out).1]; rfl) (FL.out hT208.out).2 ?_
              intro v211 hb211 ho211
              have y211 := y210.trans (ho211.below y210.size G8.out)
              have m211_7 := Lib.hid (m210_7.out.grown ho211 (by intro e; injection e with e; exact ne.out e))
              have m211_8 : Hid (Blk v211 gd8 62 T208) := hb211
              refine hK.out _ _ y211 (fun _ => ?_)
              clear hK KC
              refine wpAnyH_done (by kernel_rfl) ?_ _
              go_wp2_with fail
              go_meet
              case rel => exact ⟨gd7, gd8, T206, T208, rfl, rfl, hT206, hT208, m211_7, m211_8, G7, G8, ne, y211⟩
            · skip
              refine step_alloc_el rfl rfl ?_
              intro v212 gd7 hg212 hN212 k212
              have y212 := y207.trans (k212.mono y207.size)
              have G7 : Hid (X121.heap.size ≤ gd7) := Nat.le_trans y207.size hg212
              have ne : Hid (gd7 ≠ gd8) := by have := m207_8.out.lt; rw [Hid]; omega
              have m212_8 := Lib.hid (m207_8.out.below k212 m207_8.out.lt)
              have m212_7 := Lib.hid hN212
              refine hK.out _ _ y212 (fun _ => ?_)
              clear hK KC hN212 hg212
              refine wpAnyH_ready (rs := [21]) (by kernel_rfl) (by simp) ?_
              refine AllReadyH.cons rfl (fun KC hK => ?_) AllReadyH.nil
              go_simp
              refine (c55.out _ _ _ hT207 h3).mono ?_
              rintro e v213 ⟨T213, rfl, q213, k213⟩
              have hT213 := Lib.hid q213
              have y213 := y212.trans (k213.mono y212.size)
              have m213_8 := Lib.hid (m212_8.out.below k213 m212_8.out.lt)
              have m213_7 := Lib.hid (m212_7.out.below k213 m212_7.out.lt)
              refine hK.out _ _ y213 (fun _ => ?_)
              clear hK KC q213
              refine wpAnyH_ready (rs := [24]) (by kernel_rfl) (by simp) ?_
              refine AllReadyH.cons rfl (fun KC hK => ?_) AllReadyH.nil
              refine step_store_blk rfl 62 (.tmp 7) (.tmp 44) rfl gd7 T206.toArray rfl rfl 62 z5 m213_7.out (by rw [List.size_toArray, (FL.out hT206.out).1]; kernel_rfl) (by rw [List.size_toArray, (FL.out hT206.out).1]; rfl) (FL.out hT206.out).2 ?_
              intro v214 hb214 ho214
              have y214 := y213.trans (ho214.below y213.size G7.out)
              have m214_8 := Lib.hid (m213_8.out.grown ho214 (by intro e; injection e with e; exact ne.out e.symm))
              have m214_7 : Hid (Blk v214 gd7 62 T206) := hb214
              refine hK.out _ _ y214 (fun _ => ?_)
              clear hK KC
              refine wpAnyH_ready (rs := [25]) (by kernel_rfl) (by simp) ?_
              refine AllReadyH.cons rfl (fun KC hK => ?_) AllReadyH.nil
              refine step_store_blk rfl 62 (.tmp 8) (.tmp 55) rfl gd8 T213.toArray rfl rfl 62 z5 m214_8.out (by rw [List.size_toArray, (FL.out hT213.out).1]; kernel_rfl) (by rw [List.size_toArray, (FL.out hT213.out).1]; rfl) (FL.out hT213.out).2 ?_
              intro v215 hb215 ho215
              have y215 := y214.trans (ho215.below y214.size G8.out)
              have m215_7 := Lib.hid (m214_7.out.grown ho215 (by intro e; injection e with e; exact ne.out e))
              have m215_8 : Hid (Blk v215 gd8 62 T213) := hb215
              refine hK.out _ _ y215 (fun _ => ?_)
              clear hK KC
              refine wpAnyH_done (by kernel_rfl) ?_ _
              go_wp2_with fail
              go_meet
              case rel => exact ⟨gd7, gd8, T206, T213, rfl, rfl, hT206, hT213, m215_7, m215_8, G7, G8, ne, y215⟩
          · skip
            refine step_alloc_el rfl rfl ?_
            intro v216 gd7 hg216 hN216 k216
            have y216 := y206.trans (k216.mono y206.size)
            have G7 : Hid (X121.heap.size ≤ gd7) := Nat.le_trans y206.size hg216
            have ne : Hid (gd7 ≠ gd8) := by have := m206_8.out.lt; rw [Hid]; omega
            have m216_8 := Lib.hid (m206_8.out.below k216 m206_8.out.lt)
            have m216_7 := Lib.hid hN216
            refine hK.out _ _ y216 (fun _ => ?_)
            clear hK KC hN216 hg216
            refine wpAnyH_ready (rs := [19]) (by kernel_rfl) (by simp) ?_
            refine AllReadyH.cons rfl (fun KC hK => ?_) AllReadyH.nil
            go_simp
            refine (c53.out _ _ _ hD' hE').mono ?_
            rintro e v217 ⟨T217, rfl, q217, k217⟩
            have hT217 := Lib.hid q217
            have y217 := y216.trans (k217.mono y216.size)
            have m217_8 := Lib.hid (m216_8.out.below k217 m216_8.out.lt)
            have m217_7 := Lib.hid (m216_7.out.below k217 m216_7.out.lt)
            refine hK.out _ _ y217 (fun _ => ?_)
            clear hK KC q217
            refine wpAnyH_ready (rs := [21]) (by kernel_rfl) (by simp) ?_
            refine AllReadyH.cons rfl (fun KC hK => ?_) AllReadyH.nil
            go_simp
            refine (c55.out _ _ _ hT217 h3).mono ?_
            rintro e v218 ⟨T218, rfl, q218, k218⟩
            have hT218 := Lib.hid q218
            have y218 := y217.trans (k218.mono y217.size)
            have m218_8 := Lib.hid (m217_8.out.below k218 m217_8.out.lt)
            have m218_7 := Lib.hid (m217_7.out.below k218 m217_7.out.lt)
            refine hK.out _ _ y218 (fun _ => ?_)
            clear hK KC q218
            refine wpAnyH_ready (rs := [24]) (by kernel_rfl) (by simp) ?_
            refine AllReadyH.cons rfl (fun KC hK => ?_) AllReadyH.nil
            refine step_store_blk rfl 62 (.tmp 7) (.tmp 44) rfl gd7 T206.toArray rfl rfl 62 z5 m218_7.out (by rw [List.size_toArray, (FL.out hT206.out).1]; kernel_rfl) (by rw [List.size_toArray, (FL.out hT206.out).1]; rfl) (FL.out hT206.out).2 ?_
            intro v219 hb219 ho219
            have y219 := y218.trans (ho219.below y218.size G7.out)
            have m219_8 := Lib.hid (m218_8.out.grown ho219 (by intro e; injection e with e; exact ne.out e.symm))
            have m219_7 : Hid (Blk v219 gd7 62 T206) := hb219
            refine hK.out _ _ y219 (fun _ => ?_)
            clear hK KC
            refine wpAnyH_ready (rs := [25]) (by kernel_rfl) (by simp) ?_
            refine AllReadyH.cons rfl (fun KC hK => ?_) AllReadyH.nil
            refine step_store_blk rfl 62 (.tmp 8) (.tmp 55) rfl gd8 T218.toArray rfl rfl 62 z5 m219_8.out (by rw [List.size_toArray, (FL.out hT218.out).1]; kernel_rfl) (by rw [List.size_toArray, (FL.out hT218.out).1]; rfl) (FL.out hT218.out).2 ?_
            intro v220 hb220 ho220
            have y220 := y219.trans (ho220.below y219.size G8.out)
            have m220_7 := Lib.hid (m219_7.out.grown ho220 (by intro e; injection e with e; exact ne.out e))
            have m220_8 : Hid (Blk v220 gd8 62 T218) := hb220
            refine hK.out _ _ y220 (fun _ => ?_)
            clear hK KC
            refine wpAnyH_done (by kernel_rfl) ?_ _
            go_wp2_with fail
            go_meet
            case rel => exact ⟨gd7, gd8, T206, T218, rfl, rfl, hT206, hT218, m220_7, m220_8, G7, G8, ne, y220⟩
        · skip
          refine step_alloc_el rfl rfl ?_
          intro v221 gd7 hg221 hN221 k221
          have y221 := y205.trans (k221.mono y205.size)
          have G7 : Hid (X121.heap.size ≤ gd7) := Nat.le_trans y205.size hg221
          have ne : Hid (gd7 ≠ gd8) := by have := m205_8.out.lt; rw [Hid]; omega
          have m221_8 := Lib.hid (m205_8.out.below k221 m205_8.out.lt)
          have m221_7 := Lib.hid hN221
          refine hK.out _ _ y221 (fun _ => ?_)
          clear hK KC hN221 hg221
          refine wpAnyH_ready (rs := [10]) (by kernel_rfl) (by simp) ?_
          refine AllReadyH.cons rfl (fun KC hK => ?_) AllReadyH.nil
          go_simp
          refine (c44.out _ _ _ hT123 h2).mono ?_
          rintro e v222 ⟨T222, rfl, q222, k222⟩
          have hT222 := Lib.hid q222
          have y222 := y221.trans (k222.mono y221.size)
          have m222_8 := Lib.hid (m221_8.out.below k222 m221_8.out.lt)
          have m222_7 := Lib.hid (m221_7.out.below k222 m221_7.out.lt)
          refine hK.out _ _ y222 (fun _ => ?_)
          clear hK KC q222
          refine wpAnyH_ready (rs := [19]) (by kernel_rfl) (by simp) ?_
          refine AllReadyH.cons rfl (fun KC hK => ?_) AllReadyH.nil
          go_simp
          refine (c53.out _ _ _ hD' hE').mono ?_
          rintro e v223 ⟨T223, rfl, q223, k223⟩
          have hT223 := Lib.hid q223
          have y223 := y222.trans (k223.mono y222.size)
          have m223_8 := Lib.hid (m222_8.out.below k223 m222_8.out.lt)
          have m223_7 := Lib.hid (m222_7.out.below k223 m222_7.out.lt)
          refine hK.out _ _ y223 (fun _ => ?_)
          clear hK KC q223
          refine wpAnyH_ready (rs := [21]) (by kernel_rfl) (by simp) ?_
          refine AllReadyH.cons rfl (fun KC hK => ?_) AllReadyH.nil
          go_simp
          refine (c55.out _ _ _ hT223 h3).mono ?_
          rintro e v224 ⟨T224, rfl, q224, k224⟩
          have hT224 := Lib.hid q224
          have y224 := y223.trans (k224.mono y223.size)
          have m224_8 := Lib.hid (m223_8.out.below k224 m223_8.out.lt)
          have m224_7 := Lib.hid (m223_7.out.below k224 m223_7.out.lt)
          refine hK.out _ _ y224 (fun _ => ?_)
          clear hK KC q224
          refine wpAnyH_ready (rs := [24]) (by kernel_rfl) (by simp) ?_
          refine AllReadyH.cons rfl (fun KC hK => ?_) AllReadyH.nil
          refine step_store_blk rfl 62 (.tmp 7) (.tmp 44) rfl gd7 T222.toArray rfl rfl 62 z5 m224_7.out (by rw [List.size_toArray, (FL.out hT222.out).1]; kernel_rfl) (by rw [List.size_toArray, (FL.out hT222.out).1]; rfl) (FL.out hT222.out).2 ?_
          intro v225 hb225 ho225
          have y225 := y224.trans (ho225.below y224.size G7.out)
          have m225_8 := Lib.hid (m224_8.out.grown ho225 (by intro e; injection e with e; exact ne.out e.symm))
          have m225_7 : Hid (Blk v225 gd7 62 T222) := hb225
          refine hK.out _ _ y225 (fun _ => ?_)
          clear hK KC
          refine wpAnyH_ready (rs := [25]) (by kernel_rfl) (by simp) ?_
          refine AllReadyH.cons rfl (fun KC hK => ?_) AllReadyH.nil
          refine step_store_blk rfl 62 (.tmp 8) (.tmp 55) rfl gd8 T224.toArray rfl rfl 62 z5 m225_8.out (by rw [List.size_toArray, (FL.out hT224.out).1]; kernel_rfl) (by rw [List.size_toArray, (FL.out hT224.out).1]; rfl) (FL.out hT224.out).2 ?_
          intro v226 hb226 ho226
          have y226 := y225.trans (ho226.below y225.size G8.out)
          have m226_7 := Lib.hid (m225_7.out.grown ho226 (by intro e; injection e with e; exact ne.out e))
          have m226_8 : Hid (Blk v226 gd8 62 T224) := hb226
          refine hK.out _ _ y226 (fun _ => ?_)
          clear hK KC
          refine wpAnyH_done (by kernel_rfl) ?_ _
          go_wp2_with fail
          go_meet
          case rel => exact ⟨gd7, gd8, T222, T224, rfl, rfl, hT222, hT224, m226_7, m226_8, G7, G8, ne, y226⟩
    · skip
      refine step_alloc_el rfl rfl ?_
      intro v227 gd7 hg227 hN227 k227
      have y227 := y0.trans (k227.mono y0.size)
      have G7 : Hid (X121.heap.size ≤ gd7) := Nat.le_trans y0.size hg227
      have m227_7 := Lib.hid hN227
      refine hK.out _ _ y227 (fun _ => ?_)
      clear hK KC hN227 hg227
      refine wpAnyH_ready (rs := [8, 23]) (by kernel_rfl) (by simp) ?_
      refine AllReadyH.cons rfl (fun KC hK => ?_) (AllReadyH.cons rfl (fun KC hK => ?_) AllReadyH.nil)
      · skip
        go_simp
        refine (c42.out _ _ _ hD' hE').mono ?_
        rintro e v228 ⟨T228, rfl, q228, k228⟩
        have hT228 := Lib.hid q228
        have y228 := y227.trans (k228.mono y227.size)
        have m228_7 := Lib.hid (m227_7.out.below k228 m227_7.out.lt)
        refine hK.out _ _ y228 (fun _ => ?_)
        clear hK KC q228
        refine wpAnyH_ready (rs := [10, 23]) (by kernel_rfl) (by simp) ?_
        refine AllReadyH.cons rfl (fun KC hK => ?_) (AllReadyH.cons rfl (fun KC hK => ?_) AllReadyH.nil)
        · skip
          go_simp
          refine (c44.out _ _ _ hT228 h2).mono ?_
          rintro e v229 ⟨T229, rfl, q229, k229⟩
          have hT229 := Lib.hid q229
          have y229 := y228.trans (k229.mono y228.size)
          have m229_7 := Lib.hid (m228_7.out.below k229 m228_7.out.lt)
          refine hK.out _ _ y229 (fun _ => ?_)
          clear hK KC q229
          refine wpAnyH_ready (rs := [19, 23]) (by kernel_rfl) (by simp) ?_
          refine AllReadyH.cons rfl (fun KC hK => ?_) (AllReadyH.cons rfl (fun KC hK => ?_) AllReadyH.nil)
          · skip
            go_simp
            refine (c53.out _ _ _ hD' hE').mono ?_
            rintro e v230 ⟨T230, rfl, q230, k230⟩
            have hT230 := Lib.hid q230
            have y230 := y229.trans (k230.mono y229.size)
            have m230_7 := Lib.hid (m229_7.out.below k230 m229_7.out.lt)
            refine hK.out _ _ y230 (fun _ => ?_)
            clear hK KC q230
            refine wpAnyH_ready (rs := [21, 23]) (by kernel_rfl) (by simp) ?_
            refine AllReadyH.cons rfl (fun KC hK => ?_) (AllReadyH.cons rfl (fun KC hK => ?_) AllReadyH.nil)
            · skip
              go_simp
              refine (c55.out _ _ _ hT230 h3).mono ?_
              rintro e v231 ⟨T231, rfl, q231, k231⟩
              have hT231 := Lib.hid q231
              have y231 := y230.trans (k231.mono y230.size)
              have m231_7 := Lib.hid (m230_7.out.below k231 m230_7.out.lt)
              refine hK.out _ _ y231 (fun _ => ?_)
              clear hK KC q231
              refine wpAnyH_ready (rs := [23]) (by kernel_rfl) (by simp) ?_
              refine AllReadyH.cons rfl (fun KC hK => ?_) AllReadyH.nil
              refine step_alloc_el rfl rfl ?_
              intro v232 gd8 hg232 hN232 k232
              have y232 := y231.trans (k232.mono y231.size)
              have G8 : Hid (X121.heap.size ≤ gd8) := Nat.le_trans y231.size hg232
              have ne : Hid (gd7 ≠ gd8) := by have := m231_7.out.lt; rw [Hid]; omega
              have m232_7 := Lib.hid (m231_7.out.below k232 m231_7.out.lt)
              have m232_8 := Lib.hid hN232
              refine hK.out _ _ y232 (fun _ => ?_)
              clear hK KC hN232 hg232
              refine wpAnyH_ready (rs := [24]) (by kernel_rfl) (by simp) ?_
              refine AllReadyH.cons rfl (fun KC hK => ?_) AllReadyH.nil
              refine step_store_blk rfl 62 (.tmp 7) (.tmp 44) rfl gd7 T229.toArray rfl rfl 62 z5 m232_7.out (by rw [List.size_toArray, (FL.out hT229.out).1]; kernel_rfl) (by rw [List.size_toArray, (FL.out hT229.out).1]; rfl) (FL.out hT229.out).2 ?_
              intro v233 hb233 ho233
              have y233 := y232.trans (ho233.below y232.size G7.out)
              have m233_8 := Lib.hid (m232_8.out.grown ho233 (by intro e; injection e with e; exact ne.out e.symm))
              have m233_7 : Hid (Blk v233 gd7 62 T229) := hb233
              refine hK.out _ _ y233 (fun _ => ?_)
              clear hK KC
              refine wpAnyH_ready (rs := [25]) (by kernel_rfl) (by simp) ?_
              refine AllReadyH.cons rfl (fun KC hK => ?_) AllReadyH.nil
              refine step_store_blk rfl 62 (.tmp 8) (.tmp 55) rfl gd8 T231.toArray rfl rfl 62 z5 m233_8.out (by rw [List.size_toArray, (FL.out hT231.out).1]; kernel_rfl) (by rw [List.size_toArray, (FL.out hT231.out).1]; rfl) (FL.out hT231.out).2 ?_
              intro v234 hb234 ho234
              have y234 := y233.trans (ho234.below y233.size G8.out)
              have m234_7 := Lib.hid (m233_7.out.grown ho234 (by intro e; injection e with e; exact ne.out e))
              have m234_8 : Hid (Blk v234 gd8 62 T231) := hb234
              refine hK.out _ _ y234 (fun _ => ?_)
              clear hK KC
              refine wpAnyH_done (by kernel_rfl) ?_ _
              go_wp2_with fail
              go_meet
              case rel => exact ⟨gd7, gd8, T229, T231, rfl, rfl, hT229, hT231, m234_7, m234_8, G7, G8, ne, y234⟩
            · skip
              refine step_alloc_el rfl rfl ?_
              intro v235 gd8 hg235 hN235 k235
              have y235 := y230.trans (k235.mono y230.size)
              have G8 : Hid (X121.heap.size ≤ gd8) := Nat.le_trans y230.size hg235
              have ne : Hid (gd7 ≠ gd8) := by have := m230_7.out.lt; rw [Hid]; omega
              have m235_7 := Lib.hid (m230_7.out.below k235 m230_7.out.lt)
              have m235_8 := Lib.hid hN235
              refine hK.out _ _ y235 (fun _ => ?_)
              clear hK KC hN235 hg235
              refine wpAnyH_ready (rs := [21]) (by kernel_rfl) (by simp) ?_
              refine AllReadyH.cons rfl (fun KC hK => ?_) AllReadyH.nil
              go_simp
              refine (c55.out _ _ _ hT230 h3).mono ?_
              rintro e v236 ⟨T236, rfl, q236, k236⟩
              have hT236 := Lib.hid q236
              have y236 := y235.trans (k236.mono y235.size)
              have m236_7 := Lib.hid (m235_7.out.below k236 m235_7.out.lt)
              have m236_8 := Lib.hid (m235_8.out.below k236 m235_8.out.lt)
              refine hK.out _ _ y236 (fun _ => ?_)
              clear hK KC q236
              refine wpAnyH_ready (rs := [24]) (by kernel_rfl) (by simp) ?_
              refine AllReadyH.cons rfl (fun KC hK => ?_) AllReadyH.nil
              refine step_store_blk rfl 62 (.tmp 7) (.tmp 44) rfl gd7 T229.toArray rfl rfl 62 z5 m236_7.out (by rw [List.size_toArray, (FL.out hT229.out).1]; kernel_rfl) (by rw [List.size_toArray, (FL.out hT229.out).1]; rfl) (FL.out hT229.out).2 ?_
              intro v237 hb237 ho237
              have y237 := y236.trans (ho237.below y236.size G7.out)
              have m237_8 := Lib.hid (m236_8.out.grown ho237 (by intro e; injection e with e; exact ne.out e.symm))
              have m237_7 : Hid (Blk v237 gd7 62 T229) := hb237
              refine hK.out _ _ y237 (fun _ => ?_)
              clear hK KC
              refine wpAnyH_ready (rs := [25]) (by kernel_rfl) (by simp) ?_
              refine AllReadyH.cons rfl (fun KC hK => ?_) AllReadyH.nil
              refine step_store_blk rfl 62 (.tmp 8) (.tmp 55) rfl gd8 T236.toArray rfl rfl 62 z5 m237_8.out (by rw [List.size_toArray, (FL.out hT236.out).1]; kernel_rfl) (by rw [List.size_toArray, (FL.out hT236.out).1]; rfl) (FL.out hT236.out).2 ?_
              intro v238 hb238 ho238
              have y238 := y237.trans (ho238.below y237.size G8.out)
              have m238_7 := Lib.hid (m237_7.out.grown ho238 (by intro e; injection e with e; exact ne.out e))
              have m238_8 : Hid (Blk v238 gd8 62 T236) := hb238
              refine hK.out _ _ y238 (fun _ => ?_)
              clear hK KC
              refine wpAnyH_done (by kernel_rfl) ?_ _
              go_wp2_with fail
              go_meet
              case rel => exact ⟨gd7, gd8, T229, T236, rfl, rfl, hT229, hT236, m238_7, m238_8, G7, G8, ne, y238⟩
          · skip
            refine step_alloc_el rfl rfl ?_
            intro v239 gd8 hg239 hN239 k239
            have y239 := y229.trans (k239.mono y229.size)
            have G8 : Hid (X121.heap.size ≤ gd8) := Nat.le_trans y229.size hg239
            have ne : Hid (gd7 ≠ gd8) := by have := m229_7.out.lt; rw [Hid]; omega
            have m239_7 := Lib.hid (m229_7.out.below k239 m229_7.out.lt)
            have m239_8 := Lib.hid hN239
            refine hK.out _ _ y239 (fun _ => ?_)
            clear hK KC hN239 hg239
            refine wpAnyH_ready (rs := [19]) (by kernel_rfl) (by simp) ?_
            refine AllReadyH.cons rfl (fun KC hK => ?_) AllReadyH.nil
            go_simp
            refine (c53.out _ _ _ hD' hE').mono ?_
            rintro e v240 ⟨T240, rfl, q240, k240⟩
            have hT240 := Lib.hid q240
            have y240 := y239.trans (k240.mono y239.size)
            have m240_7 := Lib.hid (m239_7.out.below k240 m239_7.out.lt)
            have m240_8 := Lib.hid (m239_8.out.below k240 m239_8.out.lt)
            refine hK.out _ _ y240 (fun _ => ?_)
            clear hK KC q240
            refine wpAnyH_ready (rs := [21]) (by kernel_rfl) (by simp) ?_
            refine AllReadyH.cons rfl (fun KC hK => ?_) AllReadyH.nil
            go_simp
            refine (c55.out _ _ _ hT240 h3).mono ?_
            rintro e v241 ⟨T241, rfl, q241, k241⟩
            have hT241 := Lib.hid q241
            have y241 := y240.trans (k241.mono y240.size)
            have m241_7 := Lib.hid (m240_7.out.below k241 m240_7.out.lt)
            have m241_8 := Lib.hid (m240_8.out.below k241 m240_8.out.lt)
            refine hK.out _ _ y241 (fun _ => ?_)
            clear hK KC q241
            refine wpAnyH_ready (rs := [24]) (by kernel_rfl) (by simp) ?_
            refine AllReadyH.cons rfl (fun KC hK => ?_) AllReadyH.nil
            refine step_store_blk rfl 62 (.tmp 7) (.tmp 44) rfl gd7 T229.toArray rfl rfl 62 z5 m241_7.out (by rw [List.size_toArray, (FL.out hT229.out).1]; kernel_rfl) (by rw [List.size_toArray, (FL.out hT229.out).1]; rfl) (FL.out hT229.out).2 ?_
            intro v242 hb242 ho242
            have y242 := y241.trans (ho242.below y241.size G7.out)
            have m242_8 := Lib.hid (m241_8.out.grown ho242 (by intro e; injection e with e; exact ne.out e.symm))
            have m242_7 : Hid (Blk v242 gd7 62 T229) := hb242
            refine hK.out _ _ y242 (fun _ => ?_)
            clear hK KC
            refine wpAnyH_ready (rs := [25]) (by kernel_rfl) (by simp) ?_
            refine AllReadyH.cons rfl (fun KC hK => ?_) AllReadyH.nil
            refine step_store_blk rfl 62 (.tmp 8) (.tmp 55) rfl gd8 T241.toArray rfl rfl 62 z5 m242_8.out (by rw [List.size_toArray, (FL.out hT241.out).1]; kernel_rfl) (by rw [List.size_toArray, (FL.out hT241.out).1]; rfl) (FL.out hT241.out).2 ?_
            intro v243 hb243 ho243
            have y243 := y242.trans (ho243.below y242.size G8.out)
            have m243_7 := Lib.hid (m242_7.out.grown ho243 (by intro e; injection e with e; exact ne.out e))
            have m243_8 : Hid (Blk v243 gd8 62 T241) := hb243
            refine hK.out _ _ y243 (fun _ => ?_)
            clear hK KC
            refine wpAnyH_done (by kernel_rfl) ?_ _
            go_wp2_with fail
            go_meet
            case rel => exact ⟨gd7, gd8, T229, T241, rfl, rfl, hT229, hT241, m243_7, m243_8, G7, G8, ne, y243⟩
        · skip
          refine step_alloc_el rfl rfl ?_
          intro v244 gd8 hg244 hN244 k244
          have y244 := y228.trans (k244.mono y228.size)
          have G8 : Hid (X121.heap.size ≤ gd8) := Nat.le_trans y228.size hg244
          have ne : Hid (gd7 ≠ gd8) := by have := m228_7.out.lt; rw [Hid]; omega
          have m244_7 := Lib.hid (m228_7.out.below k244 m228_7.out.lt)
          have m244_8 := Lib.hid hN244
          refine hK.out _ _ y244 (fun _ => ?_)
          clear hK KC hN244 hg244
          refine wpAnyH_ready (rs := [10]) (by kernel_rfl) (by simp) ?_
          refine AllReadyH.cons rfl (fun KC hK => ?_) AllReadyH.nil
          go_simp
          refine (c44.out _ _ _ hT228 h2).mono ?_
          rintro e v245 ⟨T245, rfl, q245, k245⟩
          have hT245 := Lib.hid q245
          have y245 := y244.trans (k245.mono y244.size)
          have m245_7 := Lib.hid (m244_7.out.below k245 m244_7.out.lt)
          have m245_8 := Lib.hid (m244_8.out.below k245 m244_8.out.lt)
          refine hK.out _ _ y245 (fun _ => ?_)
          clear hK KC q245
          refine wpAnyH_ready (rs := [19]) (by kernel_rfl) (by simp) ?_
          refine AllReadyH.cons rfl (fun KC hK => ?_) AllReadyH.nil
          go_simp
          refine (c53.out _ _ _ hD' hE').mono ?_
          rintro e v246 ⟨T246, rfl, q246, k246⟩
          have hT246 := Lib.hid q246
          have y246 := y245.trans (k246.mono y245.size)
          have m246_7 := Lib.hid (m245_7.out.below k246 m245_7.out.lt)
          have m246_8 := Lib.hid (m245_8.out.below k246 m245_8.out.lt)
          refine hK.out _ _ y246 (fun _ => ?_)
          clear hK KC q246
          refine wpAnyH_ready (rs := [21]) (by kernel_rfl) (by simp) ?_
          refine AllReadyH.cons rfl (fun KC hK => ?_) AllReadyH.nil
          go_simp
          refine (c55.out _ _ _ hT246 h3).mono ?_
          rintro e v247 ⟨T247, rfl, q247, k247⟩
          have hT247 := Lib.hid q247
          have y247 := y246.trans (k247.mono y246.size)
          have m247_7 := Lib.hid (m246_7.out.below k247 m246_7.out.lt)
          have m247_8 := Lib.hid (m246_8.out.below k247 m246_8.out.lt)
          refine hK.out _ _ y247 (fun _ => ?_)
          clear hK KC q247
          refine wpAnyH_ready (rs := [24]) (by kernel_rfl) (by simp) ?_
          refine AllReadyH.cons rfl (fun KC hK => ?_) AllReadyH.nil
          refine step_store_blk rfl 62 (.tmp 7) (.tmp 44) rfl gd7 T245.toArray rfl rfl 62 z5 m247_7.out (by rw [List.size_toArray, (FL.out hT245.out).1]; kernel_rfl) (by rw [List.size_toArray, (FL.out hT245.out).1]; rfl) (FL.out hT245.out).2 ?_
          intro v248 hb248 ho248
          have y248 := y247.trans (ho248.below y247.size G7.out)
          have m248_8 := Lib.hid (m247_8.out.grown ho248 (by intro e; injection e with e; exact ne.out e.symm))
          have m248_7 : Hid (Blk v248 gd7 62 T245) := hb248
          refine hK.out _ _ y248 (fun _ => ?_)
          clear hK KC
          refine wpAnyH_ready (rs := [25]) (by kernel_rfl) (by simp) ?_
          refine AllReadyH.cons rfl (fun KC hK => ?_) AllReadyH.nil
          refine step_store_blk rfl 62 (.tmp 8) (.tmp 55) rfl gd8 T247.toArray rfl rfl 62 z5 m248_8.out (by rw [List.size_toArray, (FL.out hT247.out).1]; kernel_rfl) (by rw [List.size_toArray, (FL.out hT247.out).1]; rfl) (FL.out hT247.out).2 ?_
          intro v249 hb249 ho249
          have y249 := y248.trans (ho249.below y248.size G8.out)
          have m249_7 := Lib.hid (m248_7.out.grown ho249 (by intro e; injection e with e; exact ne.out e))
          have m249_8 : Hid (Blk v249 gd8 62 T247) := hb249
          refine hK.out _ _ y249 (fun _ => ?_)
          clear hK KC
          refine wpAnyH_done (by kernel_rfl) ?_ _
          go_wp2_with fail
          go_meet
          case rel => exact ⟨gd7, gd8, T245, T247, rfl, rfl, hT245, hT247, m249_7, m249_8, G7, G8, ne, y249⟩
      · skip
        refine step_alloc_el rfl rfl ?_
        intro v250 gd8 hg250 hN250 k250
        have y250 := y227.trans (k250.mono y227.size)
        have G8 : Hid (X121.heap.size ≤ gd8) := Nat.le_trans y227.size hg250
        have ne : Hid (gd7 ≠ gd8) := by have := m227_7.out.lt; rw [Hid]; omega
        have m250_7 := Lib.hid (m227_7.out.below k250 m227_7.out.lt)
        have m250_8 := Lib.hid hN250
        refine hK.out _ _ y250 (fun _ => ?_)
        clear hK KC hN250 hg250
        refine wpAnyH_ready (rs := [8]) (by kernel_rfl) (by simp) ?_
        refine AllReadyH.cons rfl (fun KC hK => ?_) AllReadyH.nil
        go_simp
        refine (c42.out _ _ _ hD' hE').mono ?_
        rintro e v251 ⟨T251, rfl, q251, k251⟩
        have hT251 := Lib.hid q251
        have y251 := y250.trans (k251.mono y250.size)
        have m251_7 := Lib.hid (m250_7.out.below k251 m250_7.out.lt)
        have m251_8 := Lib.hid (m250_8.out.below k251 m250_8.out.lt)
        refine hK.out _ _ y251 (fun _ => ?_)
        clear hK KC q251
        refine wpAnyH_ready (rs := [10]) (by kernel_rfl) (by simp) ?_
        refine AllReadyH.cons rfl (fun KC hK => ?_) AllReadyH.nil
        go_simp
        refine (c44.out _ _ _ hT251 h2).mono ?_
        rintro e v252 ⟨T252, rfl, q252, k252⟩
        have hT252 := Lib.hid q252
        have y252 := y251.trans (k252.mono y251.size)
        have m252_7 := Lib.hid (m251_7.out.below k252 m251_7.out.lt)
        have m252_8 := Lib.hid (m251_8.out.below k252 m251_8.out.lt)
        refine hK.out _ _ y252 (fun _ => ?_)
        clear hK KC q252
        refine wpAnyH_ready (rs := [19]) (by kernel_rfl) (by simp) ?_
        refine AllReadyH.cons rfl (fun KC hK => ?_) AllReadyH.nil
        go_simp
        refine (c53.out _ _ _ hD' hE').mono ?_
        rintro e v253 ⟨T253, rfl, q253, k253⟩
        have hT253 := Lib.hid q253
        have y253 := y252.trans (k253.mono y252.size)
        have m253_7 := Lib.hid (m252_7.out.below k253 m252_7.out.lt)
        have m253_8 := Lib.hid (m252_8.out.below k253 m252_8.out.lt)
        refine hK.out _ _ y253 (fun _ => ?_)
        clear hK KC q253
        refine wpAnyH_ready (rs := [21]) (by kernel_rfl) (by simp) ?_
        refine AllReadyH.cons rfl (fun KC hK => ?_) AllReadyH.nil
        go_simp
        refine (c55.out _ _ _ hT253 h3).mono ?_
        rintro e v254 ⟨T254, rfl, q254, k254⟩
        have hT254 := Lib.hid q254
        have y254 := y253.trans (k254.mono y253.size)
        have m254_7 := Lib.hid (m253_7.out.below k254 m253_7.out.lt)
        have m254_8 := Lib.hid (m253_8.out.below k254 m253_8.out.lt)
        refine hK.out _ _ y254 (fun _ => ?_)
        clear hK KC q254
        refine wpAnyH_ready (rs := [24]) (by kernel_rfl) (by simp) ?_
        refine AllReadyH.cons rfl (fun KC hK => ?_) AllReadyH.nil
        refine step_store_blk rfl 62 (.tmp 7) (.tmp 44) rfl gd7 T252.toArray rfl rfl 62 z5 m254_7.out (by rw [List.size_toArray, (FL.out hT252.out).1]; kernel_rfl) (by rw [List.size_toArray, (FL.out hT252.out).1]; rfl) (FL.out hT252.out).2 ?_
        intro v255 hb255 ho255
        have y255 := y254.trans (ho255.below y254.size G7.out)
        have m255_8 := Lib.hid (m254_8.out.grown ho255 (by intro e; injection e with e; exact ne.out e.symm))
        have m255_7 : Hid (Blk v255 gd7 62 T252) := hb255
        refine hK.out _ _ y255 (fun _ => ?_)
        clear hK KC
        refine wpAnyH_ready (rs := [25]) (by kernel_rfl) (by simp) ?_
        refine AllReadyH.cons rfl (fun KC hK => ?_) AllReadyH.nil
        refine step_store_blk rfl 62 (.tmp 8) (.tmp 55) rfl gd8 T254.toArray rfl rfl 62 z5 m255_8.out (by rw [List.size_toArray, (FL.out hT254.out).1]; kernel_rfl) (by rw [List.size_toArray, (FL.out hT254.out).1]; rfl) (FL.out hT254.out).2 ?_
        intro v256 hb256 ho256
        have y256 := y255.trans (ho256.below y255.size G8.out)
        have m256_7 := Lib.hid (m255_7.out.grown ho256 (by intro e; injection e with e; exact ne.out e))
        have m256_8 : Hid (Blk v256 gd8 62 T254) := hb256
        refine hK.out _ _ y256 (fun _ => ?_)
        clear hK KC
        refine wpAnyH_done (by kernel_rfl) ?_ _
        go_wp2_with fail
        go_meet
        case rel => exact ⟨gd7, gd8, T252, T254, rfl, rfl, hT252, hT254, m256_7, m256_8, G7, G8, ne, y256⟩
    · skip
      refine step_alloc_el rfl rfl ?_
      intro v257 gd8 hg257 hN257 k257
      have y257 := y0.trans (k257.mono y0.size)
      have G8 : Hid (X121.heap.size ≤ gd8) := Nat.le_trans y0.size hg257
      have m257_8 := Lib.hid hN257
      refine hK.out _ _ y257 (fun _ => ?_)
      clear hK KC hN257 hg257
      refine wpAnyH_ready (rs := [8, 22]) (by kernel_rfl) (by simp) ?_
      refine AllReadyH.cons rfl (fun KC hK => ?_) (AllReadyH.cons rfl (fun KC hK => ?_) AllReadyH.nil)
      · skip
        go_simp
        refine (c42.out _ _ _ hD' hE').mono ?_
        rintro e v258 ⟨T258, rfl, q258, k258⟩
        have hT258 := Lib.hid q258
        have y258 := y257.trans (k258.mono y257.size)
        have m258_8 := Lib.hid (m257_8.out.below k258 m257_8.out.lt)
        refine hK.out _ _ y258 (fun _ => ?_)
        clear hK KC q258
        refine wpAnyH_ready (rs := [10, 22]) (by kernel_rfl) (by simp) ?_
        refine AllReadyH.cons rfl (fun KC hK => ?_) (AllReadyH.cons rfl (fun KC hK => ?_) AllReadyH.nil)
        · skip
          go_simp
          refine (c44.out _ _ _ hT258 h2).mono ?_
          rintro e v259 ⟨T259, rfl, q259, k259⟩
          have hT259 := Lib.hid q259
          have y259 := y258.trans (k259.mono y258.size)
          have m259_8 := Lib.hid (m258_8.out.below k259 m258_8.out.lt)
          refine hK.out _ _ y259 (fun _ => ?_)
          clear hK KC q259
          refine wpAnyH_ready (rs := [19, 22]) (by kernel_rfl) (by simp) ?_
          refine AllReadyH.cons rfl (fun KC hK => ?_) (AllReadyH.cons rfl (fun KC hK => ?_) AllReadyH.nil)
          · skip
            go_simp
            refine (c53.out _ _ _ hD' hE').mono ?_
            rintro e v260 ⟨T260, rfl, q260, k260⟩
            have hT260 := Lib.hid q260
            have y260 := y259.trans (k260.mono y259.size)
            have m260_8 := Lib.hid (m259_8.out.below k260 m259_8.out.lt)
            refine hK.out _ _ y260 (fun _ => ?_)
            clear hK KC q260
            refine wpAnyH_ready (rs := [21, 22]) (by kernel_rfl) (by simp) ?_
            refine AllReadyH.cons rfl (fun KC hK => ?_) (AllReadyH.cons rfl (fun KC hK => ?_) AllReadyH.nil)
            · skip
              go_simp
              refine (c55.out _ _ _ hT260 h3).mono ?_
              rintro e v261 ⟨T261, rfl, q261, k261⟩
              have hT261 := Lib.hid q261
              have y261 := y260.trans (k261.mono y260.size)
              have m261_8 := Lib.hid (m260_8.out.below k261 m260_8.out.lt)
              refine hK.out _ _ y261 (fun _ => ?_)
              clear hK KC q261
              refine wpAnyH_ready (rs := [22]) (by kernel_rfl) (by simp) ?_
              refine AllReadyH.cons rfl (fun KC hK => ?_) AllReadyH.nil
              refine step_alloc_el rfl rfl ?_
              intro v262 gd7 hg262 hN262 k262
              have y262 := y261.trans (k262.mono y261.size)
              have G7 : Hid (X121.heap.size ≤ gd7) := Nat.le_trans y261.size hg262
              have ne : Hid (gd7 ≠ gd8) := by have := m261_8.out.lt; rw [Hid]; omega
              have m262_8 := Lib.hid (m261_8.out.below k262 m261_8.out.lt)
              have m262_7 := Lib.hid hN262
              refine hK.out _ _ y262 (fun _ => ?_)
              clear hK KC hN262 hg262
              refine wpAnyH_ready (rs := [24]) (by kernel_rfl) (by simp) ?_
              refine AllReadyH.cons rfl (fun KC hK => ?_) AllReadyH.nil
              refine step_store_blk rfl 62 (.tmp 7) (.tmp 44) rfl gd7 T259.toArray rfl rfl 62 z5 m262_7.out (by rw [List.size_toArray, (FL.out hT259.out).1]; kernel_rfl) (by rw [List.size_toArray, (FL.out hT259.out).1]; rfl) (FL.out hT259.out).2 ?_
              intro v263 hb263 ho263
              have y263 := y262.trans (ho263.below y262.size G7.out)
              have m263_8 := Lib.hid (m262_8.out.grown ho263 (by intro e; injection e with e; exact ne.out e.symm))
              have m263_7 : Hid (Blk v263 gd7 62 T259) := hb263
              refine hK.out _ _ y263 (fun _ => ?_)
              clear hK KC
              refine wpAnyH_ready (rs := [25]) (by kernel_rfl) (by simp) ?_
              refine AllReadyH.cons rfl (fun KC hK => ?_) AllReadyH.nil
              refine step_store_blk rfl 62 (.tmp 8) (.tmp 55) rfl gd8 T261.toArray rfl rfl 62 z5 m263_8.out (by rw [List.size_toArray, (FL.out hT261.out).1]; kernel_rfl) (by rw [List.size_toArray, (FL.out hT261.out).1]; rfl) (FL.out hT261.out).2 ?_
              intro v264 hb264 ho264
              have y264 := y263.trans (ho264.below y263.size G8.out)
              have m264_7 := Lib.hid (m263_7.out.grown ho264 (by intro e; injection e with e; exact ne.out e))
              have m264_8 : Hid (Blk v264 gd8 62 T261) := hb264
              refine hK.out _ _ y264 (fun _ => ?_)
              clear hK KC
              refine wpAnyH_done (by kernel_rfl) ?_ _
              go_wp2_with fail
              go_meet
              case rel => exact ⟨gd7, gd8, T259, T261, rfl, rfl, hT259, hT261, m264_7, m264_8, G7, G8, ne, y264⟩
            · skip
              refine step_alloc_el rfl rfl ?_
              intro v265 gd7 hg265 hN265 k265
              have y265 := y260.trans (k265.mono y260.size)
              have G7 : Hid (X121.heap.size ≤ gd7) := Nat.le_trans y260.size hg265
              have ne : Hid (gd7 ≠ gd8) := by have := m260_8.out.lt; rw [Hid]; omega
              have m265_8 := Lib.hid (m260_8.out.below k265 m260_8.out.lt)
              have m265_7 := Lib.hid hN265
              refine hK.out _ _ y265 (fun _ => ?_)
              clear hK KC hN265 hg265
              refine wpAnyH_ready (rs := [21]) (by kernel_rfl) (by simp) ?_
              refine AllReadyH.cons rfl (fun KC hK => ?_) AllReadyH.nil
              go_simp
              refine (c55.out _ _ _ hT260 h3).mono ?_
              rintro e v266 ⟨T266, rfl, q266, k266⟩
              have hT266 := Lib.hid q266
              have y266 := y265.trans (k266.mono y265.size)
              have m266_8 := Lib.hid (m265_8.out.below k266 m265_8.out.lt)
              have m266_7 := Lib.hid (m265_7.out.below k266 m265_7.out.lt)
              refine hK.out _ _ y266 (fun _ => ?_)
              clear hK KC q266
              refine wpAnyH_ready (rs := [24]) (by kernel_rfl) (by simp) ?_
              refine AllReadyH.cons rfl (fun KC hK => ?_) AllReadyH.nil
              refine step_store_blk rfl 62 (.tmp 7) (.tmp 44) rfl gd7 T259.toArray rfl rfl 62 z5 m266_7.out (by rw [List.size_toArray, (FL.out hT259.out).1]; kernel_rfl) (by rw [List.size_toArray, (FL.out hT259.out).1]; rfl) (FL.out hT259.out).2 ?_
              intro v267 hb267 ho267
              have y267 := y266.trans (ho267.below y266.size G7.out)
              have m267_8 := Lib.hid (m266_8.out.grown ho267 (by intro e; injection e with e; exact ne.out e.symm))
              have m267_7 : Hid (Blk v267 gd7 62 T259) := hb267
              refine hK.out _ _ y267 (fun _ => ?_)
              clear hK KC
              refine wpAnyH_ready (rs := [25]) (by kernel_rfl) (by simp) ?_
              refine AllReadyH.cons rfl (fun KC hK => ?_) AllReadyH.nil
              refine step_store_blk rfl 62 (.tmp 8) (.tmp 55) rfl gd8 T266.toArray rfl rfl 62 z5 m267_8.out (by rw [List.size_toArray, (FL.out hT266.out).1]; kernel_rfl) (by rw [List.size_toArray, (FL.out hT266.out).1]; rfl) (FL.out hT266.out).2 ?_
              intro v268 hb268 ho268
              have y268 := y267.trans (ho268.below y267.size G8.out)
              have m268_7 := Lib.hid (m267_7.out.grown ho268 (by intro e; injection e with e; exact ne.out e))
              have m268_8 : Hid (Blk v268 gd8 62 T266) := hb268
              refine hK.out _ _ y268 (fun _ => ?_)
              clear hK KC
              refine wpAnyH_done (by kernel_rfl) ?_ _
              go_wp2_with fail
              go_meet
              case rel => exact ⟨gd7, gd8, T259, T266, rfl, rfl, hT259, hT266, m268_7, m268_8, G7, G8, ne, y268⟩
          · skip
            refine step_alloc_el rfl rfl ?_
            intro v269 gd7 hg269 hN269 k269
            have y269 := y259.trans (k269.mono y259.size)
            have G7 : Hid (X121.heap.size ≤ gd7) := Nat.le_trans y259.size hg269
            have ne : Hid (gd7 ≠ gd8) := by have := m259_8.out.lt; rw [Hid]; omega
            have m269_8 := Lib.hid (m259_8.out.below k269 m259_8.out.lt)
            have m269_7 := Lib.hid hN269
            refine hK.out _ _ y269 (fun _ => ?_)
            clear hK KC hN269 hg269
            refine wpAnyH_ready (rs := [19]) (by kernel_rfl) (by simp) ?_
            refine AllReadyH.cons rfl (fun KC hK => ?_) AllReadyH.nil
            go_simp
            refine (c53.out _ _ _ hD' hE').mono ?_
            rintro e v270 ⟨T270, rfl, q270, k270⟩
            have hT270 := Lib.hid q270
            have y270 := y269.trans (k270.mono y269.size)
            have m270_8 := Lib.hid (m269_8.out.below k270 m269_8.out.lt)
            have m270_7 := Lib.hid (m269_7.out.below k270 m269_7.out.lt)
            refine hK.out _ _ y270 (fun _ => ?_)
            clear hK KC q270
            refine wpAnyH_ready (rs := [21]) (by kernel_rfl) (by simp) ?_
            refine AllReadyH.cons rfl (fun KC hK => ?_) AllReadyH.nil
            go_simp
            refine (c55.out _ _ _ hT270 h3).mono ?_
            rintro e v271 ⟨T271, rfl, q271, k271⟩
            have hT271 := Lib.hid q271
            have y271 := y270.trans (k271.mono y270.size)
            have m271_8 := Lib.hid (m270_8.out.below k271 m270_8.out.lt)
            have m271_7 := Lib.hid (m270_7.out.below k271 m270_7.out.lt)
            refine hK.out _ _ y271 (fun _ => ?_)
            clear hK KC q271
            refine wpAnyH_ready (rs := [24]) (by kernel_rfl) (by simp) ?_
            refine AllReadyH.cons rfl (fun KC hK => ?_) AllReadyH.nil
            refine step_store_blk rfl 62 (.tmp 7) (.tmp 44) rfl gd7 T259.toArray rfl rfl 62 z5 m271_7.out (by rw [List.size_toArray, (FL.out hT259.out).1]; kernel_rfl) (by rw [List.size_toArray, (FL.out hT259.out).1]; rfl) (FL.out hT259.out).2 ?_
            intro v272 hb272 ho272
            have y272 := y271.trans (ho272.below y271.size G7.out)
            have m272_8 := Lib.hid (m271_8.out.grown ho272 (by intro e; injection e with e; exact ne.out e.symm))
            have m272_7 : Hid (Blk v272 gd7 62 T259) := hb272
            refine hK.out _ _ y272 (fun _ => ?_)
            clear hK KC
            refine wpAnyH_ready (rs := [25]) (by kernel_rfl) (by simp) ?_
            refine AllReadyH.cons rfl (fun KC hK => ?_) AllReadyH.nil
            refine step_store_blk rfl 62 (.tmp 8) (.tmp 55) rfl gd8 T271.toArray rfl rfl 62 z5 m272_8.out (by rw [List.size_toArray, (FL.out hT271.out).1]; kernel_rfl) (by rw [List.size_toArray, (FL.out hT271.out).1]; rfl) (FL.out hT271.out).2 ?_
            intro v273 hb273 ho273
            have y273 := y272.trans (ho273.below y272.size G8.out)
            have m273_7 := Lib.hid (m272_7.out.grown ho273 (by intro e; injection e with e; exact ne.out e))
            have m273_8 : Hid (Blk v273 gd8 62 T271) := hb273
            refine hK.out _ _ y273 (fun _ => ?_)
            clear hK KC
            refine wpAnyH_done (by kernel_rfl) ?_ _
            go_wp2_with fail
            go_meet
            case rel => exact ⟨gd7, gd8, T259, T271, rfl, rfl, hT259, hT271, m273_7, m273_8, G7, G8, ne, y273⟩
        · skip
          refine step_alloc_el rfl rfl ?_
          intro v274 gd7 hg274 hN274 k274
          have y274 := y258.trans (k274.mono y258.size)
          have G7 : Hid (X121.heap.size ≤ gd7) := Nat.le_trans y258.size hg274
          have ne : Hid (gd7 ≠ gd8) := by have := m258_8.out.lt; rw [Hid]; omega
          have m274_8 := Lib.hid (m258_8.out.below k274 m258_8.out.lt)
          have m274_7 := Lib.hid hN274
          refine hK.out _ _ y274 (fun _ => ?_)
          clear hK KC hN274 hg274
          refine wpAnyH_ready (rs := [10]) (by kernel_rfl) (by simp) ?_
          refine AllReadyH.cons rfl (fun KC hK => ?_) AllReadyH.nil
          go_simp
          refine (c44.out _ _ _ hT258 h2).mono ?_
          rintro e v275 ⟨T275, rfl, q275, k275⟩
          have hT275 := Lib.hid q275
          have y275 := y274.trans (k275.mono y274.size)
          have m275_8 := Lib.hid (m274_8.out.below k275 m274_8.out.lt)
          have m275_7 := Lib.hid (m274_7.out.below k275 m274_7.out.lt)
          refine hK.out _ _ y275 (fun _ => ?_)
          clear hK KC q275
          refine wpAnyH_ready (rs := [19]) (by kernel_rfl) (by simp) ?_
          refine AllReadyH.cons rfl (fun KC hK => ?_) AllReadyH.nil
          go_simp
          refine (c53.out _ _ _ hD' hE').mono ?_
          rintro e v276 ⟨T276, rfl, q276, k276⟩
          have hT276 := Lib.hid q276
          have y276 := y275.trans (k276.mono y275.size)
          have m276_8 := Lib.hid (m275_8.out.below k276 m275_8.out.lt)
          have m276_7 := Lib.hid (m275_7.out.below k276 m275_7.out.lt)
          refine hK.out _ _ y276 (fun _ => ?_)
          clear hK KC q276
          refine wpAnyH_ready (rs := [21]) (by kernel_rfl) (by simp) ?_
          refine AllReadyH.cons rfl (fun KC hK => ?_) AllReadyH.nil
          go_simp
          refine (c55.out _ _ _ hT276 h3).mono ?_
          rintro e v277 ⟨T277, rfl, q277, k277⟩
          have hT277 := Lib.hid q277
          have y277 := y276.trans (k277.mono y276.size)
          have m277_8 := Lib.hid (m276_8.out.below k277 m276_8.out.lt)
          have m277_7 := Lib.hid (m276_7.out.below k277 m276_7.out.lt)
          refine hK.out _ _ y277 (fun _ => ?_)
          clear hK KC q277
          refine wpAnyH_ready (rs := [24]) (by kernel_rfl) (by simp) ?_
          refine AllReadyH.cons rfl (fun KC hK => ?_) AllReadyH.nil
          refine step_store_blk rfl 62 (.tmp 7) (.tmp 44) rfl gd7 T275.toArray rfl rfl 62 z5 m277_7.out (by rw [List.size_toArray, (FL.out hT275.out).1]; kernel_rfl) (by rw [List.size_toArray, (FL.out hT275.out).1]; rfl) (FL.out hT275.out).2 ?_
          intro v278 hb278 ho278
          have y278 := y277.trans (ho278.below y277.size G7.out)
          have m278_8 := Lib.hid (m277_8.out.grown ho278 (by intro e; injection e with e; exact ne.out e.symm))
          have m278_7 : Hid (Blk v278 gd7 62 T275) := hb278
          refine hK.out _ _ y278 (fun _ => ?_)
          clear hK KC
          refine wpAnyH_ready (rs := [25]) (by kernel_rfl) (by simp) ?_
          refine AllReadyH.cons rfl (fun KC hK => ?_) AllReadyH.nil
          refine step_store_blk rfl 62 (.tmp 8) (.tmp 55) rfl gd8 T277.toArray rfl rfl 62 z5 m278_8.out (by rw [List.size_toArray, (FL.out hT277.out).1]; kernel_rfl) (by rw [List.size_toArray, (FL.out hT277.out).1]; rfl) (FL.out hT277.out).2 ?_
          intro v279 hb279 ho279
          have y279 := y278.trans (ho279.below y278.size G8.out)
          have m279_7 := Lib.hid (m278_7.out.grown ho279 (by intro e; injection e with e; exact ne.out e))
          have m279_8 : Hid (Blk v279 gd8 62 T277) := hb279
          refine hK.out _ _ y279 (fun _ => ?_)
          clear hK KC
          refine wpAnyH_done (by kernel_rfl) ?_ _
          go_wp2_with fail
          go_meet
          case rel => exact ⟨gd7, gd8, T275, T277, rfl, rfl, hT275, hT277, m279_7, m279_8, G7, G8, ne, y279⟩
      · skip
        refine step_alloc_el rfl rfl ?_
        intro v280 gd7 hg280 hN280 k280
        have y280 := y257.trans (k280.mono y257.size)
        have G7 : Hid (X121.heap.size ≤ gd7) := Nat.le_trans y257.size hg280
        have ne : Hid (gd7 ≠ gd8) := by have := m257_8.out.lt; rw [Hid]; omega
        have m280_8 := Lib.hid (m257_8.out.below k280 m257_8.out.lt)
        have m280_7 := Lib.hid hN280
        refine hK.out _ _ y280 (fun _ => ?_)
        clear hK KC hN280 hg280
        refine wpAnyH_ready (rs := [8]) (by kernel_rfl) (by simp) ?_
        refine AllReadyH.cons rfl (fun KC hK => ?_) AllReadyH.nil
        go_simp
        refine (c42.out _ _ _ hD' hE').mono ?_
        rintro e v281 ⟨T281, rfl, q281, k281⟩
        have hT281 := Lib.hid q281
        have y281 := y280.trans (k281.mono y280.size)
        have m281_8 := Lib.hid (m280_8.out.below k281 m280_8.out.lt)
        have m281_7 := Lib.hid (m280_7.out.below k281 m280_7.out.lt)
        refine hK.out _ _ y281 (fun _ => ?_)
        clear hK KC q281
        refine wpAnyH_ready (rs := [10]) (by kernel_rfl) (by simp) ?_
        refine AllReadyH.cons rfl (fun KC hK => ?_) AllReadyH.nil
        go_simp
        refine (c44.out _ _ _ hT281 h2).mono ?_
        rintro e v282 ⟨T282, rfl, q282, k282⟩
        have hT282 := Lib.hid q282
        have y282 := y281.trans (k282.mono y281.size)
        have m282_8 := Lib.hid (m281_8.out.below k282 m281_8.out.lt)
        have m282_7 := Lib.hid (m281_7.out.below k282 m281_7.out.lt)
        refine hK.out _ _ y282 (fun _ => ?_)
        clear hK KC q282
        refine wpAnyH_ready (rs := [19]) (by kernel_rfl) (by simp) ?_
        refine AllReadyH.cons rfl (fun KC hK => ?_) AllReadyH.nil
        go_simp
        refine (c53.out _ _ _ hD' hE').mono ?_
        rintro e v283 ⟨T283, rfl, q283, k283⟩
        have hT283 := Lib.hid q283
        have y283 := y282.trans (k283.mono y282.size)
        have m283_8 := Lib.hid (m282_8.out.below k283 m282_8.out.lt)
        have m283_7 := Lib.hid (m282_7.out.below k283 m282_7.out.lt)
        refine hK.out _ _ y283 (fun _ => ?_)
        clear hK KC q283
        refine wpAnyH_ready (rs := [21]) (by kernel_rfl) (by simp) ?_
        refine AllReadyH.cons rfl (fun KC hK => ?_) AllReadyH.nil
        go_simp
        refine (c55.out _ _ _ hT283 h3).mono ?_
        rintro e v284 ⟨T284, rfl, q284, k284⟩
        have hT284 := Lib.hid q284
        have y284 := y283.trans (k284.mono y283.size)
        have m284_8 := Lib.hid (m283_8.out.below k284 m283_8.out.lt)
        have m284_7 := Lib.hid (m283_7.out.below k284 m283_7.out.lt)
        refine hK.out _ _ y284 (fun _ => ?_)
        clear hK KC q284
        refine wpAnyH_ready (rs := [24]) (by kernel_rfl) (by simp) ?_
        refine AllReadyH.cons rfl (fun KC hK => ?_) AllReadyH.nil
        refine step_store_blk rfl 62 (.tmp 7) (.tmp 44) rfl gd7 T282.toArray rfl rfl 62 z5 m284_7.out (by rw [List.size_toArray, (FL.out hT282.out).1]; kernel_rfl) (by rw [List.size_toArray, (FL.out hT282.out).1]; rfl) (FL.out hT282.out).2 ?_
        intro v285 hb285 ho285
        have y285 := y284.trans (ho285.below y284.size G7.out)
        have m285_8 := Lib.hid (m284_8.out.grown ho285 (by intro e; injection e with e; exact ne.out e.symm))
        have m285_7 : Hid (Blk v285 gd7 62 T282) := hb285
        refine hK.out _ _ y285 (fun _ => ?_)
        clear hK KC
        refine wpAnyH_ready (rs := [25]) (by kernel_rfl) (by simp) ?_
        refine AllReadyH.cons rfl (fun KC hK => ?_) AllReadyH.nil
        refine step_store_blk rfl 62 (.tmp 8) (.tmp 55) rfl gd8 T284.toArray rfl rfl 62 z5 m285_8.out (by rw [List.size_toArray, (FL.out hT284.out).1]; kernel_rfl) (by rw [List.size_toArray, (FL.out hT284.out).1]; rfl) (FL.out hT284.out).2 ?_
        intro v286 hb286 ho286
        have y286 := y285.trans (ho286.below y285.size G8.out)
        have m286_7 := Lib.hid (m285_7.out.grown ho286 (by intro e; injection e with e; exact ne.out e))
        have m286_8 : Hid (Blk v286 gd8 62 T284) := hb286
        refine hK.out _ _ y286 (fun _ => ?_)
        clear hK KC
        refine wpAnyH_done (by kernel_rfl) ?_ _
        go_wp2_with fail
        go_meet
        case rel => exact ⟨gd7, gd8, T282, T284, rfl, rfl, hT282, hT284, m286_7, m286_8, G7, G8, ne, y286⟩
  case rest =>
  obtain ⟨g7, g8, L7, L8, rfl, rfl, h7, h8, b7, b8, G7, G8, ne287, Y287⟩ := hcut
  obtain ⟨X287, rfl⟩ : ∃ x, x = wc := ⟨_, rfl⟩
  have l288 := Lib.hid (l122.out.below Y287.out l122.out.lt)
  clear l122
  have b2_288 := Lib.hid (b2_122.out.below Y287.out b2_122.out.lt)
  clear b2_122
  have b3_288 := Lib.hid (b3_122.out.below Y287.out b3_122.out.lt)
  clear b3_122
  have b4_288 := Lib.hid (b4_122.out.below Y287.out b4_122.out.lt)
  clear b4_122
  have b5_288 := Lib.hid (b5_122.out.below Y287.out b5_122.out.lt)
  clear b5_122
  have b6_288 := Lib.hid (b6.out.below Y287.out b6.out.lt)
  clear b6
  have G7' : Hid (n0 ≤ g7) := Nat.le_trans (Nat.le_trans HN.out KO121.out.size) G7.out
  clear G7
  have G8' : Hid (n0 ≤ g8) := Nat.le_trans (Nat.le_trans HN.out KO121.out.size) G8.out
  clear G8
  have KO287 : Hid (Only g w X287) := KO121.out.trans (Only.of_below Y287.out)
  clear KO121 Y287
  go_wp2_with (first | (refine wpList_load_el rfl (.tmp 7) rfl g7 rfl L7 b7.out (FL.out h7.out).1 ?_) | (refine wpList_load_el rfl (.tmp 8) rfl g8 rfl L8 b8.out (FL.out h8.out).1 ?_))
  refine (c59.out _ _ _ h7 h8).mono ?_
  rintro e w289 ⟨T289, rfl, q289, k289⟩
  have h289 := Lib.hid q289
  clear q289
  have y289 : Below X287.heap.size X287 w289 := k289
  go_wp2_with fail
  refine (c60.out _ _ h289).mono ?_
  rintro e w290 ⟨T290, rfl, q290, k290⟩
  have h290 := Lib.hid q290
  clear q290
  have y290 := y289.trans (k290.mono y289.size)
  have th291 := (l288.out.below y290 l288.out.lt).there 15 (by decide)
  go_upto_region 5 with (refine wpList_store_part rfl rfl (.tmp 62) (.tmp 60) rfl g 15 T290 rfl rfl (FL.out h290.out).1 (FL.out h290.out).2 th291 ?_; intro X291 hX291 ho291)
  clear th291
  have l292 := Lib.hid (l288.out.below (y290) l288.out.lt)
  clear l288
  have b2_292 := Lib.hid (b2_288.out.below (y290) b2_288.out.lt)
  clear b2_288
  have b3_292 := Lib.hid (b3_288.out.below (y290) b3_288.out.lt)
  clear b3_288
  have b4_292 := Lib.hid (b4_288.out.below (y290) b4_288.out.lt)
  clear b4_288
  have b5_292 := Lib.hid (b5_288.out.below (y290) b5_288.out.lt)
  clear b5_288
  have b6_292 := Lib.hid (b6_288.out.below (y290) b6_288.out.lt)
  clear b6_288
  have b7_292 := Lib.hid (b7.out.below (y290) b7.out.lt)
  clear b7
  have b8_292 := Lib.hid (b8.out.below (y290) b8.out.lt)
  clear b8
  have b2_291 := Lib.hid (b2_292.out.grown ho291 (by have h1 := G2'.out; have h2 := HG.out; intro e; injection e with e; omega))
  clear b2_292
  have b3_291 := Lib.hid (b3_292.out.grown ho291 (by have h1 := G3'.out; have h2 := HG.out; intro e; injection e with e; omega))
  clear b3_292
  have b4_291 := Lib.hid (b4_292.out.grown ho291 (by have h1 := G4'.out; have h2 := HG.out; intro e; injection e with e; omega))
  clear b4_292
  have b5_291 := Lib.hid (b5_292.out.grown ho291 (by have h1 := G5'.out; have h2 := HG.out; intro e; injection e with e; omega))
  clear b5_292
  have b6_291 := Lib.hid (b6_292.out.grown ho291 (by have h1 := G6'.out; have h2 := HG.out; intro e; injection e with e; omega))
  clear b6_292
  have b7_291 := Lib.hid (b7_292.out.grown ho291 (by have h1 := G7'.out; have h2 := HG.out; intro e; injection e with e; omega))
  clear b7_292
  have b8_291 := Lib.hid (b8_292.out.grown ho291 (by have h1 := G8'.out; have h2 := HG.out; intro e; injection e with e; omega))
  clear b8_292
  have l291 : Hid (LadB X291 g A B C T290 E) := by rw [hX291]; exact l292.out.set3 (FL.out h290.out).1
  clear l292 hX291
  have KO291 : Hid (Only g w X291) := (KO287.out.trans (Only.of_below (y290))).trans ho291
  clear KO287
  clear ho291
  go_upto_region 5 with fail
  refine wp_region_any (by kernel_rfl) ?_
  change wpAny _ _ _ _ _ _ _ (World.drew _)
  refine wpAny_of_held (S := fun w' => w'.rangeAt g7 0 L7 ∧ w'.rangeAt g8 0 L8 ∧ w'.rangeAt g 0 A) _ _ _ _ ?_
  have y0 : Below X291.heap.size X291 X291.drew := below_draws X291 1
  refine wpAnyH_take_at (i := 0) (v := .pointer (some ⟨g, 0, none⟩)) rfl rfl (by kernel_rfl) (by kernel_rfl) (by kernel_rfl) (fun _ _ _ h => h) (Or.inl ⟨by rfl, fun w hS => by go_simp⟩) ⟨(b7_291.out.below y0 b7_291.out.lt).range 0 _ [] (by simp), (b8_291.out.below y0 b8_291.out.lt).range 0 _ [] (by simp), (l291.out.below y0 l291.out.lt).at0⟩ ?_
  simp only [List.setIfInBounds_toArray, List.set_cons_zero, List.set_cons_succ]
  refine wpAnyH_take_at (i := 1) (v := .agg L7.toArray) rfl rfl (by kernel_rfl) (by kernel_rfl) (by kernel_rfl) (fun _ _ _ h => h) (yieldsIf_load_mid (by rfl) 62 (.tmp 7) rfl g7 0 rfl L7 _ (fun w h => h.1) Tryd.underlying62 rfl (by rw [(FL.out h7.out).1]; kernel_rfl)) ⟨(b7_291.out.below y0 b7_291.out.lt).range 0 _ [] (by simp), (b8_291.out.below y0 b8_291.out.lt).range 0 _ [] (by simp), (l291.out.below y0 l291.out.lt).at0⟩ ?_
  simp only [List.setIfInBounds_toArray, List.set_cons_zero, List.set_cons_succ]
  refine wpAnyH_take_at (i := 2) (v := .agg L8.toArray) rfl rfl (by kernel_rfl) (by kernel_rfl) (by kernel_rfl) (fun _ _ _ h => h) (yieldsIf_load_mid (by rfl) 62 (.tmp 8) rfl g8 0 rfl L8 _ (fun w h => h.2.1) Tryd.underlying62 rfl (by rw [(FL.out h8.out).1]; kernel_rfl)) ⟨(b7_291.out.below y0 b7_291.out.lt).range 0 _ [] (by simp), (b8_291.out.below y0 b8_291.out.lt).range 0 _ [] (by simp), (l291.out.below y0 l291.out.lt).at0⟩ ?_
  simp only [List.setIfInBounds_toArray, List.set_cons_zero, List.set_cons_succ]
  refine wpAnyH_take_at (i := 5) (v := .pointer (some ⟨g, 0, none⟩)) rfl rfl (by kernel_rfl) (by kernel_rfl) (by kernel_rfl) (fun _ _ _ h => h) (Or.inl ⟨by rfl, fun w hS => by go_simp⟩) ⟨(b7_291.out.below y0 b7_291.out.lt).range 0 _ [] (by simp), (b8_291.out.below y0 b8_291.out.lt).range 0 _ [] (by simp), (l291.out.below y0 l291.out.lt).at0⟩ ?_
  simp only [List.setIfInBounds_toArray, List.set_cons_zero, List.set_cons_succ]
  refine wpAnyH_take_at (i := 6) (v := .pointer (some ⟨g, 0, none⟩)) rfl rfl (by kernel_rfl) (by kernel_rfl) (by kernel_rfl) (fun _ _ _ h => h) (Or.inl ⟨by rfl, fun w hS => by go_simp⟩) ⟨(b7_291.out.below y0 b7_291.out.lt).range 0 _ [] (by simp), (b8_291.out.below y0 b8_291.out.lt).range 0 _ [] (by simp), (l291.out.below y0 l291.out.lt).at0⟩ ?_
  simp only [List.setIfInBounds_toArray, List.set_cons_zero, List.set_cons_succ]
  refine wpAnyH_take_at (i := 7) (v := .pointer (some ⟨g, 0, none⟩)) rfl rfl (by kernel_rfl) (by kernel_rfl) (by kernel_rfl) (fun _ _ _ h => h) (Or.inl ⟨by rfl, fun w hS => by go_simp⟩) ⟨(b7_291.out.below y0 b7_291.out.lt).range 0 _ [] (by simp), (b8_291.out.below y0 b8_291.out.lt).range 0 _ [] (by simp), (l291.out.below y0 l291.out.lt).at0⟩ ?_
  simp only [List.setIfInBounds_toArray, List.set_cons_zero, List.set_cons_succ]
  refine wpAnyH_take_at (i := 8) (v := .agg A.toArray) rfl rfl (by kernel_rfl) (by kernel_rfl) (by kernel_rfl) (fun _ _ _ h => h) (yieldsIf_load_mid (by rfl) 62 (.tmp 70) rfl g 0 rfl A _ (fun w h => h.2.2) Tryd.underlying62 rfl (by rw [(FL.out hA'.out).1]; kernel_rfl)) ⟨(b7_291.out.below y0 b7_291.out.lt).range 0 _ [] (by simp), (b8_291.out.below y0 b8_291.out.lt).range 0 _ [] (by simp), (l291.out.below y0 l291.out.lt).at0⟩ ?_
  simp only [List.setIfInBounds_toArray, List.set_cons_zero, List.set_cons_succ]
  refine wpAnyH_ready (rs := [3]) (by kernel_rfl) (by simp) ?_
  refine AllReadyH.cons rfl (fun KC hK => ?_) AllReadyH.nil
  go_simp
  refine (c66.out _ _ _ h7 h8).mono ?_
  rintro e v293 ⟨T293, rfl, q293, k293⟩
  have h293 := Lib.hid q293
  have y293 := y0.trans (k293.mono y0.size)
  refine hK.out _ _ ⟨(b7_291.out.below y293 b7_291.out.lt).range 0 _ [] (by simp), (b8_291.out.below y293 b8_291.out.lt).range 0 _ [] (by simp), (l291.out.below y293 l291.out.lt).at0⟩ (fun _ => ?_)
  clear hK KC q293
  refine wpAnyH_ready (rs := [4]) (by kernel_rfl) (by simp) ?_
  refine AllReadyH.cons rfl (fun KC hK => ?_) AllReadyH.nil
  go_simp
  refine (c67.out _ _ h293).mono ?_
  rintro e v294 ⟨T294, rfl, q294, k294⟩
  have h294 := Lib.hid q294
  have y294 := y293.trans (k294.mono y293.size)
  refine hK.out _ _ ⟨(b7_291.out.below y294 b7_291.out.lt).range 0 _ [] (by simp), (b8_291.out.below y294 b8_291.out.lt).range 0 _ [] (by simp), (l291.out.below y294 l291.out.lt).at0⟩ (fun _ => ?_)
  clear hK KC q294
  refine wpAnyH_ready (rs := [9]) (by kernel_rfl) (by simp) ?_
  refine AllReadyH.cons rfl (fun KC hK => ?_) AllReadyH.nil
  go_simp
  refine (c72.out _ _ _ h294 hA').mono ?_
  rintro e v295 ⟨T295, rfl, q295, k295⟩
  have h295 := Lib.hid q295
  have y295 := y294.trans (k295.mono y294.size)
  refine hK.out _ _ ⟨(b7_291.out.below y295 b7_291.out.lt).range 0 _ [] (by simp), (b8_291.out.below y295 b8_291.out.lt).range 0 _ [] (by simp), (l291.out.below y295 l291.out.lt).at0⟩ (fun _ => ?_)
  clear hK KC q295
  refine wpAnyH_take_at (i := 10) (v := .pointer (some ⟨g, 0, none⟩)) rfl rfl (by kernel_rfl) (by kernel_rfl) (by kernel_rfl) (fun _ _ _ h => h) (Or.inl ⟨by rfl, fun w hS => by go_simp⟩) ⟨(b7_291.out.below y295 b7_291.out.lt).range 0 _ [] (by simp), (b8_291.out.below y295 b8_291.out.lt).range 0 _ [] (by simp), (l291.out.below y295 l291.out.lt).at0⟩ ?_
  simp only [List.setIfInBounds_toArray, List.set_cons_zero, List.set_cons_succ]
  refine wpAnyH_take_at (i := 11) (v := .pointer (some ⟨g, 20, none⟩)) rfl rfl (by kernel_rfl) (by kernel_rfl) (by kernel_rfl) (fun _ _ _ h => h) (Or.inl ⟨by rfl, fun w hS => by go_simp⟩) ⟨(b7_291.out.below y295 b7_291.out.lt).range 0 _ [] (by simp), (b8_291.out.below y295 b8_291.out.lt).range 0 _ [] (by simp), (l291.out.below y295 l291.out.lt).at0⟩ ?_
  simp only [List.setIfInBounds_toArray, List.set_cons_zero, List.set_cons_succ]
  refine wpAnyH_ready (rs := [12]) (by kernel_rfl) (by simp) ?_
  refine AllReadyH.cons rfl (fun KC hK => ?_) AllReadyH.nil
  refine step_store_part rfl (.tmp 74) (.tmp 72) rfl g 20 T295 rfl rfl (FL.out h295.out).1 (FL.out h295.out).2 ((l291.out.below y295 l291.out.lt).there 20 (by decide)) ?_
  intro X296 hX296 ho296
  have LN : LadB X296 g A B C T290 T295 := by rw [hX296]; exact (l291.out.below y295 l291.out.lt).set4 (FL.out h295.out).1
  refine hK.out _ _ ⟨(((b7_291.out.below y295 b7_291.out.lt).grown ho296 (by have h1 := G7'.out; have h2 := HG.out; intro e; injection e with e; omega)).range 0 _ [] (by simp)), (((b8_291.out.below y295 b8_291.out.lt).grown ho296 (by have h1 := G8'.out; have h2 := HG.out; intro e; injection e with e; omega)).range 0 _ [] (by simp)), LN.at0⟩ (fun _ => ?_)
  clear hK KC
  refine wpAnyH_done (by kernel_rfl) ?_ _
  have l297 := Lib.hid (l291.out.below (y295) l291.out.lt)
  clear l291
  have b2_297 := Lib.hid (b2_291.out.below (y295) b2_291.out.lt)
  clear b2_291
  have b3_297 := Lib.hid (b3_291.out.below (y295) b3_291.out.lt)
  clear b3_291
  have b4_297 := Lib.hid (b4_291.out.below (y295) b4_291.out.lt)
  clear b4_291
  have b5_297 := Lib.hid (b5_291.out.below (y295) b5_291.out.lt)
  clear b5_291
  have b6_297 := Lib.hid (b6_291.out.below (y295) b6_291.out.lt)
  clear b6_291
  have b7_297 := Lib.hid (b7_291.out.below (y295) b7_291.out.lt)
  clear b7_291
  have b8_297 := Lib.hid (b8_291.out.below (y295) b8_291.out.lt)
  clear b8_291
  have b2_296 := Lib.hid (b2_297.out.grown ho296 (by have h1 := G2'.out; have h2 := HG.out; intro e; injection e with e; omega))
  clear b2_297
  have b3_296 := Lib.hid (b3_297.out.grown ho296 (by have h1 := G3'.out; have h2 := HG.out; intro e; injection e with e; omega))
  clear b3_297
  have b4_296 := Lib.hid (b4_297.out.grown ho296 (by have h1 := G4'.out; have h2 := HG.out; intro e; injection e with e; omega))
  clear b4_297
  have b5_296 := Lib.hid (b5_297.out.grown ho296 (by have h1 := G5'.out; have h2 := HG.out; intro e; injection e with e; omega))
  clear b5_297
  have b6_296 := Lib.hid (b6_297.out.grown ho296 (by have h1 := G6'.out; have h2 := HG.out; intro e; injection e with e; omega))
  clear b6_297
  have b7_296 := Lib.hid (b7_297.out.grown ho296 (by have h1 := G7'.out; have h2 := HG.out; intro e; injection e with e; omega))
  clear b7_297
  have b8_296 := Lib.hid (b8_297.out.grown ho296 (by have h1 := G8'.out; have h2 := HG.out; intro e; injection e with e; omega))
  clear b8_297
  have l296 : Hid (LadB X296 g A B C T290 T295) := by rw [hX296]; exact l297.out.set4 (FL.out h295.out).1
  clear l297 hX296
  have KO296 : Hid (Only g w X296) := (KO291.out.trans (Only.of_below (y295))).trans ho296
  clear KO291
  clear LN ho296
  go_wp2_with (first | (refine wpList_load_el rfl (.tmp 4) rfl g4 rfl L4 b4_296.out (FL.out h4.out).1 ?_) | (refine wpList_load_el rfl (.tmp 5) rfl g5 rfl L5 b5_296.out (FL.out h5.out).1 ?_))
  refine (c78.out _ _ _ h4 h5).mono ?_
  rintro e w298 ⟨T298, rfl, q298, k298⟩
  have h298 := Lib.hid q298
  clear q298
  have y298 : Below X296.heap.size X296 w298 := k298
  have th299 := (l296.out.below y298 l296.out.lt).there 5 (by decide)
  go_upto_region 7 with (refine wpList_store_part rfl rfl (.tmp 80) (.tmp 78) rfl g 5 T298 rfl rfl (FL.out h298.out).1 (FL.out h298.out).2 th299 ?_; intro X299 hX299 ho299)
  clear th299
  have l300 := Lib.hid (l296.out.below (y298) l296.out.lt)
  clear l296
  have b2_300 := Lib.hid (b2_296.out.below (y298) b2_296.out.lt)
  clear b2_296
  have b3_300 := Lib.hid (b3_296.out.below (y298) b3_296.out.lt)
  clear b3_296
  have b4_300 := Lib.hid (b4_296.out.below (y298) b4_296.out.lt)
  clear b4_296
  have b5_300 := Lib.hid (b5_296.out.below (y298) b5_296.out.lt)
  clear b5_296
  have b6_300 := Lib.hid (b6_296.out.below (y298) b6_296.out.lt)
  clear b6_296
  have b7_300 := Lib.hid (b7_296.out.below (y298) b7_296.out.lt)
  clear b7_296
  have b8_300 := Lib.hid (b8_296.out.below (y298) b8_296.out.lt)
  clear b8_296
  have b2_299 := Lib.hid (b2_300.out.grown ho299 (by have h1 := G2'.out; have h2 := HG.out; intro e; injection e with e; omega))
  clear b2_300
  have b3_299 := Lib.hid (b3_300.out.grown ho299 (by have h1 := G3'.out; have h2 := HG.out; intro e; injection e with e; omega))
  clear b3_300
  have b4_299 := Lib.hid (b4_300.out.grown ho299 (by have h1 := G4'.out; have h2 := HG.out; intro e; injection e with e; omega))
  clear b4_300
  have b5_299 := Lib.hid (b5_300.out.grown ho299 (by have h1 := G5'.out; have h2 := HG.out; intro e; injection e with e; omega))
  clear b5_300
  have b6_299 := Lib.hid (b6_300.out.grown ho299 (by have h1 := G6'.out; have h2 := HG.out; intro e; injection e with e; omega))
  clear b6_300
  have b7_299 := Lib.hid (b7_300.out.grown ho299 (by have h1 := G7'.out; have h2 := HG.out; intro e; injection e with e; omega))
  clear b7_300
  have b8_299 := Lib.hid (b8_300.out.grown ho299 (by have h1 := G8'.out; have h2 := HG.out; intro e; injection e with e; omega))
  clear b8_300
  have l299 : Hid (LadB X299 g A T298 C T290 T295) := by rw [hX299]; exact l300.out.set1 (FL.out h298.out).1
  clear l300 hX299
  have KO299 : Hid (Only g w X299) := (KO296.out.trans (Only.of_below (y298))).trans ho299
  clear KO296
  clear ho299
  go_upto_region 7 with fail
  refine wp_region_any (by kernel_rfl) ?_
  change wpAny _ _ _ _ _ _ _ (World.drew _)
  refine wpAny_of_held (S := fun w' => w'.rangeAt g4 0 L4 ∧ w'.rangeAt g6 0 L6) _ _ _ _ ?_
  have y0 : Below X299.heap.size X299 X299.drew := below_draws X299 1
  refine wpAnyH_take_at (i := 0) (v := .pointer (some ⟨g, 0, none⟩)) rfl rfl (by kernel_rfl) (by kernel_rfl) (by kernel_rfl) (fun _ _ _ h => h) (Or.inl ⟨by rfl, fun w hS => by go_simp⟩) ⟨(b4_299.out.below y0 b4_299.out.lt).range 0 _ [] (by simp), (b6_299.out.below y0 b6_299.out.lt).range 0 _ [] (by simp)⟩ ?_
  simp only [List.setIfInBounds_toArray, List.set_cons_zero, List.set_cons_succ]
  refine wpAnyH_take_at (i := 1) (v := .agg L4.toArray) rfl rfl (by kernel_rfl) (by kernel_rfl) (by kernel_rfl) (fun _ _ _ h => h) (yieldsIf_load_mid (by rfl) 62 (.tmp 4) rfl g4 0 rfl L4 _ (fun w h => h.1) Tryd.underlying62 rfl (by rw [(FL.out h4.out).1]; kernel_rfl)) ⟨(b4_299.out.below y0 b4_299.out.lt).range 0 _ [] (by simp), (b6_299.out.below y0 b6_299.out.lt).range 0 _ [] (by simp)⟩ ?_
  simp only [List.setIfInBounds_toArray, List.set_cons_zero, List.set_cons_succ]
  refine wpAnyH_take_at (i := 2) (v := .agg L6.toArray) rfl rfl (by kernel_rfl) (by kernel_rfl) (by kernel_rfl) (fun _ _ _ h => h) (yieldsIf_load_mid (by rfl) 62 (.tmp 6) rfl g6 0 rfl L6 _ (fun w h => h.2) Tryd.underlying62 rfl (by rw [(FL.out h6.out).1]; kernel_rfl)) ⟨(b4_299.out.below y0 b4_299.out.lt).range 0 _ [] (by simp), (b6_299.out.below y0 b6_299.out.lt).range 0 _ [] (by simp)⟩ ?_
  simp only [List.setIfInBounds_toArray, List.set_cons_zero, List.set_cons_succ]
  refine wpAnyH_take_at (i := 5) (v := .agg L6.toArray) rfl rfl (by kernel_rfl) (by kernel_rfl) (by kernel_rfl) (fun _ _ _ h => h) (yieldsIf_load_mid (by rfl) 62 (.tmp 6) rfl g6 0 rfl L6 _ (fun w h => h.2) Tryd.underlying62 rfl (by rw [(FL.out h6.out).1]; kernel_rfl)) ⟨(b4_299.out.below y0 b4_299.out.lt).range 0 _ [] (by simp), (b6_299.out.below y0 b6_299.out.lt).range 0 _ [] (by simp)⟩ ?_
  simp only [List.setIfInBounds_toArray, List.set_cons_zero, List.set_cons_succ]
  refine wpAnyH_ready (rs := [3]) (by kernel_rfl) (by simp) ?_
  refine AllReadyH.cons rfl (fun KC hK => ?_) AllReadyH.nil
  go_simp
  refine (c84.out _ _ h6).mono ?_
  rintro e v301 ⟨T301, rfl, q301, k301⟩
  have h301 := Lib.hid q301
  have y301 := y0.trans (k301.mono y0.size)
  refine hK.out _ _ ⟨(b4_299.out.below y301 b4_299.out.lt).range 0 _ [] (by simp), (b6_299.out.below y301 b6_299.out.lt).range 0 _ [] (by simp)⟩ (fun _ => ?_)
  clear hK KC q301
  refine wpAnyH_ready (rs := [4]) (by kernel_rfl) (by simp) ?_
  refine AllReadyH.cons rfl (fun KC hK => ?_) AllReadyH.nil
  go_simp
  refine (c85.out _ _ _ h4 h301).mono ?_
  rintro e v302 ⟨T302, rfl, q302, k302⟩
  have h302 := Lib.hid q302
  have y302 := y301.trans (k302.mono y301.size)
  refine hK.out _ _ ⟨(b4_299.out.below y302 b4_299.out.lt).range 0 _ [] (by simp), (b6_299.out.below y302 b6_299.out.lt).range 0 _ [] (by simp)⟩ (fun _ => ?_)
  clear hK KC q302
  refine wpAnyH_ready (rs := [6]) (by kernel_rfl) (by simp) ?_
  refine AllReadyH.cons rfl (fun KC hK => ?_) AllReadyH.nil
  go_simp
  refine (c87.out _ _ _ h302 h6).mono ?_
  rintro e v303 ⟨T303, rfl, q303, k303⟩
  have h303 := Lib.hid q303
  have y303 := y302.trans (k303.mono y302.size)
  refine hK.out _ _ ⟨(b4_299.out.below y303 b4_299.out.lt).range 0 _ [] (by simp), (b6_299.out.below y303 b6_299.out.lt).range 0 _ [] (by simp)⟩ (fun _ => ?_)
  clear hK KC q303
  refine wpAnyH_take_at (i := 7) (v := .pointer (some ⟨g, 0, none⟩)) rfl rfl (by kernel_rfl) (by kernel_rfl) (by kernel_rfl) (fun _ _ _ h => h) (Or.inl ⟨by rfl, fun w hS => by go_simp⟩) ⟨(b4_299.out.below y303 b4_299.out.lt).range 0 _ [] (by simp), (b6_299.out.below y303 b6_299.out.lt).range 0 _ [] (by simp)⟩ ?_
  simp only [List.setIfInBounds_toArray, List.set_cons_zero, List.set_cons_succ]
  refine wpAnyH_take_at (i := 8) (v := .pointer (some ⟨g, 10, none⟩)) rfl rfl (by kernel_rfl) (by kernel_rfl) (by kernel_rfl) (fun _ _ _ h => h) (Or.inl ⟨by rfl, fun w hS => by go_simp⟩) ⟨(b4_299.out.below y303 b4_299.out.lt).range 0 _ [] (by simp), (b6_299.out.below y303 b6_299.out.lt).range 0 _ [] (by simp)⟩ ?_
  simp only [List.setIfInBounds_toArray, List.set_cons_zero, List.set_cons_succ]
  refine wpAnyH_ready (rs := [9]) (by kernel_rfl) (by simp) ?_
  refine AllReadyH.cons rfl (fun KC hK => ?_) AllReadyH.nil
  refine step_store_part rfl (.tmp 89) (.tmp 87) rfl g 10 T303 rfl rfl (FL.out h303.out).1 (FL.out h303.out).2 ((l299.out.below y303 l299.out.lt).there 10 (by decide)) ?_
  intro X304 hX304 ho304
  have LN : LadB X304 g A T298 T303 T290 T295 := by rw [hX304]; exact (l299.out.below y303 l299.out.lt).set2 (FL.out h303.out).1
  refine hK.out _ _ ⟨(((b4_299.out.below y303 b4_299.out.lt).grown ho304 (by have h1 := G4'.out; have h2 := HG.out; intro e; injection e with e; omega)).range 0 _ [] (by simp)), (((b6_299.out.below y303 b6_299.out.lt).grown ho304 (by have h1 := G6'.out; have h2 := HG.out; intro e; injection e with e; omega)).range 0 _ [] (by simp))⟩ (fun _ => ?_)
  clear hK KC
  refine wpAnyH_done (by kernel_rfl) ?_ _
  have l305 := Lib.hid (l299.out.below (y303) l299.out.lt)
  clear l299
  have b2_305 := Lib.hid (b2_299.out.below (y303) b2_299.out.lt)
  clear b2_299
  have b3_305 := Lib.hid (b3_299.out.below (y303) b3_299.out.lt)
  clear b3_299
  have b4_305 := Lib.hid (b4_299.out.below (y303) b4_299.out.lt)
  clear b4_299
  have b5_305 := Lib.hid (b5_299.out.below (y303) b5_299.out.lt)
  clear b5_299
  have b6_305 := Lib.hid (b6_299.out.below (y303) b6_299.out.lt)
  clear b6_299
  have b7_305 := Lib.hid (b7_299.out.below (y303) b7_299.out.lt)
  clear b7_299
  have b8_305 := Lib.hid (b8_299.out.below (y303) b8_299.out.lt)
  clear b8_299
  have b2_304 := Lib.hid (b2_305.out.grown ho304 (by have h1 := G2'.out; have h2 := HG.out; intro e; injection e with e; omega))
  clear b2_305
  have b3_304 := Lib.hid (b3_305.out.grown ho304 (by have h1 := G3'.out; have h2 := HG.out; intro e; injection e with e; omega))
  clear b3_305
  have b4_304 := Lib.hid (b4_305.out.grown ho304 (by have h1 := G4'.out; have h2 := HG.out; intro e; injection e with e; omega))
  clear b4_305
  have b5_304 := Lib.hid (b5_305.out.grown ho304 (by have h1 := G5'.out; have h2 := HG.out; intro e; injection e with e; omega))
  clear b5_305
  have b6_304 := Lib.hid (b6_305.out.grown ho304 (by have h1 := G6'.out; have h2 := HG.out; intro e; injection e with e; omega))
  clear b6_305
  have b7_304 := Lib.hid (b7_305.out.grown ho304 (by have h1 := G7'.out; have h2 := HG.out; intro e; injection e with e; omega))
  clear b7_305
  have b8_304 := Lib.hid (b8_305.out.grown ho304 (by have h1 := G8'.out; have h2 := HG.out; intro e; injection e with e; omega))
  clear b8_305
  have l304 : Hid (LadB X304 g A T298 T303 T290 T295) := by rw [hX304]; exact l305.out.set2 (FL.out h303.out).1
  clear l305 hX304
  have KO304 : Hid (Only g w X304) := (KO299.out.trans (Only.of_below (y303))).trans ho304
  clear KO299
  clear LN ho304
  go_wp2
  go_end0
  exact ⟨rfl, KO304.out, T298, T303, T290, T295, l304.out, h298.out, h303.out, h290.out, h295.out⟩

end Go.Proofs.YtdojalhaklkegaaDoor
