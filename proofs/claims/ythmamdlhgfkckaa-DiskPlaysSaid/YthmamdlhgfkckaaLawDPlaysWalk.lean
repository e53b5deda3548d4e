/-
  orloplaw09.DiskPlays, under DiskOk: it returns true. Conditions: DiskOk (proved of the code elsewhere). Written by gen_dplays.py.
-/
import Derived.Test.YthmamdlhgfkckaaDiskPair
import Derived.Test.YthmamdlhgfkckaaDiskA
import Derived.Deep.CutBlock
import Derived.Deep.DeepCutAuto
namespace Go.Proofs.Ythmamdlhgfkckaa
open Go.RowKit
set_option linter.unusedVariables false

set_option maxRecDepth 100000 in
set_option maxHeartbeats 16000000 in
theorem dplays_walk {Dk : (Nat → Prop) → World → Nat → M.Dsk → Prop} (D : DiskOk Dk) (w : World) (iv : Value) (img : List UInt8) (hi : IsB w iv img) (lv : Value) (l : List M.Step) (hs : IsSteps w lv l) :
    Calls Try.prog 3 #[iv, lv] w fun e w' => e = .returned (.bool true) ∧ Below w.heap.size w w' := by
  have HI := Lib.hid hi
  have HS := Lib.hid hs
  obtain ⟨ia, ic, ei⟩ := hi.shape
  obtain ⟨la, lc, el⟩ := hs.shape
  obtain ⟨n, hn⟩ : ∃ n, n = img.length := ⟨_, rfl⟩
  obtain ⟨q, hq⟩ : ∃ q, q = l.length := ⟨_, rfl⟩
  rw [← hn] at ei
  rw [← hq] at el
  subst ei el
  have HN : Hid (n = img.length) := hn
  have HQ : Hid (q = l.length) := hq
  have HST : Hid (∀ i, i < q → ∃ b off, la = some ⟨b, off, none⟩ ∧ StepAt w b (off + i * 4) (l.getD i M.Step.none)) := by
    obtain ⟨ao, cap, e, _, _, h⟩ := hs
    injection e with e1 e2 e3
    intro i hi
    rcases h with h | ⟨b, off, e4, h⟩
    · rw [h] at hq; simp at hq; omega
    · exact ⟨b, off, by rw [e1, e4], h i (by omega)⟩
  clear hi hs hn hq
  go_enter Try.func3, Try.ntmps3
  go_wp2_with fail
  refine (diskAwake_any D w).mono ?_
  rintro e w2 ⟨rfl, k2⟩
  have K2 := Lib.hid k2
  clear k2
  by_cases h1 : n ≤ 3072
  · have b1 : ¬ (3072 : Int) < (n : Int) := by omega
    have X2 := Lib.hid (small9_any (.slice la q lc) l w2 (by
      obtain ⟨ao, cap, e, h1, h2, h⟩ := HS.out
      refine ⟨ao, cap, e, h1, h2, ?_⟩
      rcases h with h | ⟨b, off, e4, h⟩
      · exact .inl h
      · exact .inr ⟨b, off, e4, fun i hi => (h i hi).below K2.out⟩))
    have H1 := Lib.hid h1
    clear h1
    by_cases hsm : M.small l = true
    · rw [hsm] at X2
      have HSM := Lib.hid hsm
      clear hsm
      go_wp2_with fail
      refine X2.out.mono ?_
      rintro e w3 ⟨rfl, k3⟩
      have K3 : Hid (Below w.heap.size w w3) := K2.out.trans (k3.mono K2.out.size)
      clear k3 X2 K2
      by_cases h3 : n % 256 = 0
      · have X3 := Lib.hid (solo_load (w := w3) D (HI.out.below K3.out) (by rw [← HN.out]; exact h3) (by rw [← HN.out]; have := H1.out; omega) K3.out)
        have H3 := Lib.hid h3
        clear h3
        go_wp2_with fail
        refine X3.out.mono ?_
        rintro e w4 ⟨d, rfl, s4, k4⟩
        have S4 := Lib.hid s4
        have X4 := Lib.hid (refDk_load (w := w4) (HI.out.below s4.under) (by rw [← HN.out]; exact H3.out) (by rw [← HN.out]; have := H1.out; omega))
        clear X3 s4 k4 K3
        go_wp2_with fail
        refine X4.out.mono ?_
        rintro e w5 ⟨r, T, rfl, r5, t5, k5⟩
        have P5 : Hid (Pair Dk RefDk w w5 d (M.dload img) r (M.dload img)) := S4.out.beside (Q := RefDk) D.lasts r5 k5 t5
        clear X4 S4 r5 t5 k5
        go_wp2
        clear b1
        go_loopw [9] (fun i wr => ∃ (k : Nat) (m : M.Dsk), k ≤ 60 ∧ i = .int .i64 (k : Int) ∧ m.wait.length ≤ k ∧ Hid (Pair Dk RefDk w wr d m r m))
          (fun i _ => 60 - numOf i)
        case atStart => exact ⟨0, _, by omega, rfl, Nat.le_refl _, P5⟩
        case round =>
          clear P5
          obtain ⟨wz, rfl⟩ : ∃ x, x = wr := ⟨_, rfl⟩
          obtain ⟨k, m, hk, rfl, hc, ss⟩ := hrel
          by_cases hlt : k < q
          · have a1 : (k : Int) < (q : Int) := by omega
            by_cases h6 : k < 60
            · have a2 : (k : Int) < 60 := by omega
              obtain ⟨b, off, rfl, st⟩ := HST.out k hlt
              have hsmk := M.small_get HSM.out k (by rw [← HQ.out]; exact hlt) h6
              obtain ⟨bo, bc, ko, kc, c0, c1, c2, c3, ib, hnil, iz, wf0, wf1⟩ := st
              have hbw : b < w.heap.size := World.block_lt_of_cell? w _ c0
              have hh : ∀ j, wz.cell? ⟨b, j, none⟩ = w.cell? ⟨b, j, none⟩ := fun j => ss.out.under.cell (p := ⟨b, j, none⟩) hbw
              obtain ⟨a, ha⟩ : ∃ a, a = l.getD k M.Step.none := ⟨_, rfl⟩
              rw [← ha] at hsmk c0 c1 c2 c3 ib iz wf0 wf1
              obtain ⟨kd, hkd⟩ : ∃ x, x = a.kind := ⟨_, rfl⟩
              obtain ⟨at_, hat⟩ : ∃ x, x = a.at_ := ⟨_, rfl⟩
              obtain ⟨by_, hby⟩ : ∃ x, x = a.bytes := ⟨_, rfl⟩
              obtain ⟨kp, hkp⟩ : ∃ x, x = a.keep := ⟨_, rfl⟩
              obtain ⟨n2, hn2⟩ : ∃ x, x = by_.length := ⟨_, rfl⟩
              obtain ⟨n3, hn3⟩ : ∃ x, x = kp.length := ⟨_, rfl⟩
              rw [← hkd] at c0
              rw [← hat] at c1 wf1
              rw [← hby] at c2 ib hsmk
              rw [← hkp] at c3 iz hsmk
              rw [← hn2] at c2 ib
              rw [← hn3] at c3 iz
              rw [← hh] at c0 c1 c2 c3
              have HAT : Hid (-9223372036854775808 ≤ at_ ∧ at_ < 9223372036854775808) := in_i64 wf1
              have HBY : Hid (by_.length ≤ 1000) := hsmk.1
              have HBYL : Hid (by_.length < 1099511627776) := by have := hsmk.1; rw [Hid]; omega
              have IB := Lib.hid ib
              have IZ := Lib.hid iz
              have HNIL : Hid (∀ n c, Value.slice bo n2 bc = .slice none n c → c = 0) := fun n c e => by
                injection e with e1 e2 e3
                rw [← e3]
                exact hnil e1
              have HK : Hid (k < 60 ∧ m.wait.length ≤ k) := ⟨h6, hc⟩
              have HFEW : Hid (m.wait.length < 1000000) := by rw [Hid]; omega
              have g2 : (0 : Int) ≤ (k : Int) := Int.natCast_nonneg k
              have g3 : ((k : Int)).toNat = k := Int.toNat_natCast k
              have g1 : wrap64 ((k : Int) + 1) = ((k + 1 : Nat) : Int) := wrap_next (by omega)
              obtain ⟨y, hy⟩ : ∃ y, y = wz.heap.size := ⟨_, rfl⟩
              obtain ⟨W, hW⟩ : ∃ W, Hid (W = wz.alloc (.cells #[.int .i64 kd, .int .i64 at_, .slice bo n2 bc, .slice ko n3 kc] 35)) := ⟨_, rfl⟩
              have kW : Below wz.heap.size wz W := by rw [hW.out]; exact (Below.refl _ _).alloc (Nat.le_refl _) _
              have BW : Blk W y 35 [.int .i64 kd, .int .i64 at_, .slice bo n2 bc, .slice ko n3 kc] := by rw [hW.out]; exact Blk.newAt _ _ _ _ _ hy rfl
              have PW := Lib.hid (ss.out.free D.lasts refDk_lasts kW (y := y) (by omega) BW.lt)
              have BY := Lib.hid BW
              clear hbw hsmk wf0 wf1 ib hnil iz hlt h6 hk hc ha hkd hat hby hkp hn2 hn3 hh kW BW ss
              go_upto_region 15 with fail
              rw [← hW.out, ← hy]
              clear hW hy c0 c1 c2 c3 g2 g3 a1 a2
              have cy0 : W.cell? ⟨y, 0, none⟩ = some (.int .i64 kd) := BY.out.cell 0
              have cy1 : W.cell? ⟨y, 1, none⟩ = some (.int .i64 at_) := BY.out.cell 1
              have cy2 : W.cell? ⟨y, 2, none⟩ = some (.slice bo n2 bc) := BY.out.cell 2
              have cy3 : W.cell? ⟨y, 3, none⟩ = some (.slice ko n3 kc) := BY.out.cell 3
              have HWW := Lib.hid (M.wait_write m at_ (M.full by_))
              have HWB := Lib.hid (M.wait_write m at_ by_)
              have HWS := Lib.hid (M.wait_sync m)
              go_upto_block 2 with fail
              go_cut [11, 12] from 54 to 206 (fun x0 y0 wx => ∃ (m' : M.Dsk) (c : Int), x0 = .int .i64 c ∧ y0 = .int .i64 c ∧ Hid (m'.wait.length ≤ k + 1) ∧ Hid (Pair Dk RefDk w wx d m' r m'))
              case first =>
                by_cases z0 : kd = 0
                · have zb0 : (kd == 0) = true := by simpa using z0
                  obtain ⟨cw, hcw⟩ : ∃ c, (m.doWrite at_ (M.full by_)).2 = c := ⟨_, rfl⟩
                  go_upto_region 21 with fail
                  refine wp_region_any (by kernel_rfl) ?_
                  change wpAny _ _ _ _ _ _ _ (World.drew _)
                  refine wpAny_of_held (S := fun w' => w'.cell? ⟨y, 1, none⟩ = some (.int .i64 at_) ∧ w'.cell? ⟨y, 2, none⟩ = some (.slice bo n2 bc)) _ _ _ _ ?_
                  have S0 : W.drew.cell? ⟨y, 1, none⟩ = some (.int .i64 at_) ∧ W.drew.cell? ⟨y, 2, none⟩ = some (.slice bo n2 bc) := ⟨BY.out.cell 1, BY.out.cell 2⟩
                  refine wpAnyH_take_at (i := 0) (v := .pointer (some ⟨d, 0, none⟩)) rfl rfl (by kernel_rfl) (by kernel_rfl) (by kernel_rfl) (fun _ _ _ h => h) (Or.inl ⟨by rfl, fun w hS => by go_simp⟩) S0 ?_
                  simp only [List.setIfInBounds_toArray, List.set_cons_zero, List.set_cons_succ]
                  refine wpAnyH_take_at (i := 1) (v := .pointer (some ⟨y, 1, none⟩)) rfl rfl (by kernel_rfl) (by kernel_rfl) (by kernel_rfl) (fun _ _ _ h => h) (Or.inl ⟨by rfl, fun w hS => by go_simp⟩) S0 ?_
                  simp only [List.setIfInBounds_toArray, List.set_cons_zero, List.set_cons_succ]
                  refine wpAnyH_take_at (i := 2) (v := .int .i64 at_) rfl rfl (by kernel_rfl) (by kernel_rfl) (by kernel_rfl) (fun _ _ _ h => h) (Or.inl ⟨by rfl, fun w hS => by have c := hS.1; go_simp⟩) S0 ?_
                  simp only [List.setIfInBounds_toArray, List.set_cons_zero, List.set_cons_succ]
                  refine wpAnyH_take_at (i := 3) (v := .pointer (some ⟨y, 2, none⟩)) rfl rfl (by kernel_rfl) (by kernel_rfl) (by kernel_rfl) (fun _ _ _ h => h) (Or.inl ⟨by rfl, fun w hS => by go_simp⟩) S0 ?_
                  simp only [List.setIfInBounds_toArray, List.set_cons_zero, List.set_cons_succ]
                  refine wpAnyH_take_at (i := 4) (v := .slice bo n2 bc) rfl rfl (by kernel_rfl) (by kernel_rfl) (by kernel_rfl) (fun _ _ _ h => h) (Or.inl ⟨by rfl, fun w hS => by have c := hS.2; go_simp⟩) S0 ?_
                  simp only [List.setIfInBounds_toArray, List.set_cons_zero, List.set_cons_succ]
                  refine wpAnyH_ready (rs := [5]) (by kernel_rfl) (by simp) ?_
                  refine AllReadyH.cons rfl (fun K hK => ?_) AllReadyH.nil
                  go_simp
                  have kd_ : Below W.heap.size W W.drew := drewN_below (Below.refl _ W) 1
                  refine (full_any (.slice bo n2 bc) by_ W.drew (IB.out.below (PW.out.under.trans (kd_.mono PW.out.under.size))) HNIL.out HBY.out).mono ?_
                  rintro e w6 ⟨v6, rfl, o6, k6⟩
                  have k6' : Below W.heap.size W w6 := kd_.trans k6
                  have B6 := BY.out.below k6' BY.out.lt
                  refine hK.out _ _ ⟨B6.cell 1, B6.cell 2⟩ (fun _ => ?_)
                  clear hK K S0
                  refine wpAnyH_ready (rs := [6]) (by kernel_rfl) (by simp) ?_
                  refine AllReadyH.cons rfl (fun K hK => ?_) AllReadyH.nil
                  go_simp
                  have X7 := Lib.hid (PW.out.op (m' := (m.doWrite at_ (M.full by_)).1) D.lasts refDk_lasts k6' (fun T d ht => D.write d at_ v6 (M.full by_) HAT.out o6.isB (out_own o6 fun k h => (ht k h).2) HFEW.out))
                  rw [hcw] at X7
                  refine X7.out.mono ?_
                  rintro e w7 ⟨rfl, p7, e7⟩
                  have P7 := Lib.hid p7
                  have B7 : Hid (Blk w7 y 35 [.int .i64 kd, .int .i64 at_, .slice bo n2 bc, .slice ko n3 kc]) := e7.trans BY.out
                  refine hK.out _ _ ⟨B7.out.cell 1, B7.out.cell 2⟩ (fun _ => ?_)
                  clear hK K kd_ k6 k6' o6 B6 p7 e7 X7 PW BY
                  refine wpAnyH_take_at (i := 7) (v := .int .i64 cw) rfl rfl (by kernel_rfl) (by kernel_rfl) (by kernel_rfl) (fun _ _ _ h => h) (Or.inl ⟨by rfl, fun w hS => by go_simp⟩) ⟨B7.out.cell 1, B7.out.cell 2⟩ ?_
                  simp only [List.setIfInBounds_toArray, List.set_cons_zero, List.set_cons_succ]
                  refine wpAnyH_done (by kernel_rfl) ?_ _
                  go_upto_region 22 with fail
                  refine wp_region_any (by kernel_rfl) ?_
                  change wpAny _ _ _ _ _ _ _ (World.drew _)
                  refine wpAny_of_held (S := fun w' => w'.cell? ⟨y, 1, none⟩ = some (.int .i64 at_) ∧ w'.cell? ⟨y, 2, none⟩ = some (.slice bo n2 bc)) _ _ _ _ ?_
                  have S0 : w7.drew.cell? ⟨y, 1, none⟩ = some (.int .i64 at_) ∧ w7.drew.cell? ⟨y, 2, none⟩ = some (.slice bo n2 bc) := ⟨B7.out.cell 1, B7.out.cell 2⟩
                  refine wpAnyH_take_at (i := 0) (v := .pointer (some ⟨r, 0, none⟩)) rfl rfl (by kernel_rfl) (by kernel_rfl) (by kernel_rfl) (fun _ _ _ h => h) (Or.inl ⟨by rfl, fun w hS => by go_simp⟩) S0 ?_
                  simp only [List.setIfInBounds_toArray, List.set_cons_zero, List.set_cons_succ]
                  refine wpAnyH_take_at (i := 1) (v := .pointer (some ⟨y, 1, none⟩)) rfl rfl (by kernel_rfl) (by kernel_rfl) (by kernel_rfl) (fun _ _ _ h => h) (Or.inl ⟨by rfl, fun w hS => by go_simp⟩) S0 ?_
                  simp only [List.setIfInBounds_toArray, List.set_cons_zero, List.set_cons_succ]
                  refine wpAnyH_take_at (i := 2) (v := .int .i64 at_) rfl rfl (by kernel_rfl) (by kernel_rfl) (by kernel_rfl) (fun _ _ _ h => h) (Or.inl ⟨by rfl, fun w hS => by have c := hS.1; go_simp⟩) S0 ?_
                  simp only [List.setIfInBounds_toArray, List.set_cons_zero, List.set_cons_succ]
                  refine wpAnyH_take_at (i := 3) (v := .pointer (some ⟨y, 2, none⟩)) rfl rfl (by kernel_rfl) (by kernel_rfl) (by kernel_rfl) (fun _ _ _ h => h) (Or.inl ⟨by rfl, fun w hS => by go_simp⟩) S0 ?_
                  simp only [List.setIfInBounds_toArray, List.set_cons_zero, List.set_cons_succ]
                  refine wpAnyH_take_at (i := 4) (v := .slice bo n2 bc) rfl rfl (by kernel_rfl) (by kernel_rfl) (by kernel_rfl) (fun _ _ _ h => h) (Or.inl ⟨by rfl, fun w hS => by have c := hS.2; go_simp⟩) S0 ?_
                  simp only [List.setIfInBounds_toArray, List.set_cons_zero, List.set_cons_succ]
                  refine wpAnyH_ready (rs := [5]) (by kernel_rfl) (by simp) ?_
                  refine AllReadyH.cons rfl (fun K hK => ?_) AllReadyH.nil
                  go_simp
                  have kd_ : Below w7.heap.size w7 w7.drew := drewN_below (Below.refl _ w7) 1
                  refine (full_any (.slice bo n2 bc) by_ w7.drew (IB.out.below (P7.out.under.trans (kd_.mono P7.out.under.size))) HNIL.out HBY.out).mono ?_
                  rintro e w6 ⟨v6, rfl, o6, k6⟩
                  have k6' : Below w7.heap.size w7 w6 := kd_.trans k6
                  have B6 := B7.out.below k6' B7.out.lt
                  refine hK.out _ _ ⟨B6.cell 1, B6.cell 2⟩ (fun _ => ?_)
                  clear hK K S0
                  refine wpAnyH_ready (rs := [6]) (by kernel_rfl) (by simp) ?_
                  refine AllReadyH.cons rfl (fun K hK => ?_) AllReadyH.nil
                  go_simp
                  have Xq := Lib.hid (P7.out.swap.op (m' := (m.doWrite at_ (M.full by_)).1) refDk_lasts D.lasts k6' (fun T d ht => refDk_write d at_ v6 (M.full by_) o6.isB (out_own o6 fun k h => (ht k h).2) HFEW.out))
                  rw [hcw] at Xq
                  refine Xq.out.mono ?_
                  rintro e wq ⟨rfl, pq, eq⟩
                  have Pq := Lib.hid pq.swap
                  have Bq : Hid (Blk wq y 35 [.int .i64 kd, .int .i64 at_, .slice bo n2 bc, .slice ko n3 kc]) := eq.trans B7.out
                  refine hK.out _ _ ⟨Bq.out.cell 1, Bq.out.cell 2⟩ (fun _ => ?_)
                  clear hK K kd_ k6 k6' o6 B6 pq eq Xq P7 B7
                  refine wpAnyH_take_at (i := 7) (v := .int .i64 cw) rfl rfl (by kernel_rfl) (by kernel_rfl) (by kernel_rfl) (fun _ _ _ h => h) (Or.inl ⟨by rfl, fun w hS => by go_simp⟩) ⟨Bq.out.cell 1, Bq.out.cell 2⟩ ?_
                  simp only [List.setIfInBounds_toArray, List.set_cons_zero, List.set_cons_succ]
                  refine wpAnyH_done (by kernel_rfl) ?_ _
                  go_wp2
                  go_meet
                  case rel => exact ⟨_, cw, rfl, rfl, by have := HK.out; have := HWW.out; rw [Hid]; omega, Pq.out.pair⟩
                · have zb0 : (kd == 0) = false := by simpa using z0
                  by_cases z1 : kd = 1
                  · have zb1 : (kd == 1) = true := by simpa using z1
                    obtain ⟨cw, hcw⟩ : ∃ c, m.doSync.2 = c := ⟨_, rfl⟩
                    have X7 := Lib.hid (PW.out.op (m' := m.doSync.1) D.lasts refDk_lasts (Below.refl _ _) (fun T d ht => D.sync d HFEW.out))
                    rw [hcw] at X7
                    go_wp2_with fail
                    refine X7.out.mono ?_
                    rintro e w7 ⟨rfl, p7, e7⟩
                    have P7 := Lib.hid p7
                    have B7 : Hid (Blk w7 y 35 [.int .i64 kd, .int .i64 at_, .slice bo n2 bc, .slice ko n3 kc]) := e7.trans BY.out
                    clear X7 PW BY p7 e7
                    have X8 := Lib.hid (P7.out.swap.op (m' := m.doSync.1) refDk_lasts D.lasts (Below.refl _ _) (fun T d ht => ref_sync d))
                    rw [hcw] at X8
                    go_wp2_with fail
                    refine X8.out.mono ?_
                    rintro e w8 ⟨rfl, p8, e8⟩
                    have P8 := Lib.hid p8.swap
                    have B8 : Hid (Blk w8 y 35 [.int .i64 kd, .int .i64 at_, .slice bo n2 bc, .slice ko n3 kc]) := e8.trans B7.out
                    clear X8 P7 B7 p8 e8
                    go_wp2
                    go_meet
                    case rel => exact ⟨_, cw, rfl, rfl, by have := HK.out; have := HWS.out; rw [Hid]; omega, P8.out.pair⟩
                  · have zb1 : (kd == 1) = false := by simpa using z1
                    by_cases z2 : kd = 2
                    · have zb2 : (kd == 2) = true := by simpa using z2
                      have X7 := Lib.hid (PW.out.op (m' := m.arm at_) D.lasts refDk_lasts (Below.refl _ _) (fun T d ht => D.arm d at_ HAT.out))
                      go_wp2_with fail
                      refine X7.out.mono ?_
                      rintro e w7 ⟨rfl, p7, e7⟩
                      have P7 := Lib.hid p7
                      have B7 : Hid (Blk w7 y 35 [.int .i64 kd, .int .i64 at_, .slice bo n2 bc, .slice ko n3 kc]) := e7.trans BY.out
                      clear X7 PW BY p7 e7
                      have cz1 : w7.cell? ⟨y, 1, none⟩ = some (.int .i64 at_) := B7.out.cell 1
                      have X8 := Lib.hid (P7.out.swap.op (m' := m.arm at_) refDk_lasts D.lasts (Below.refl _ _) (fun T d ht => ref_arm d at_ HAT.out))
                      go_wp2_with fail
                      refine X8.out.mono ?_
                      rintro e w8 ⟨rfl, p8, e8⟩
                      have P8 := Lib.hid p8.swap
                      have B8 : Hid (Blk w8 y 35 [.int .i64 kd, .int .i64 at_, .slice bo n2 bc, .slice ko n3 kc]) := e8.trans B7.out
                      clear X8 P7 B7 p8 e8
                      go_wp2
                      go_meet
                      case rel => exact ⟨_, 0, rfl, rfl, by show m.wait.length ≤ k + 1; have := HK.out; omega, P8.out.pair⟩
                    · have zb2 : (kd == 2) = false := by simpa using z2
                      by_cases z3 : kd = 3
                      · have zb3 : (kd == 3) = true := by simpa using z3
                        have X7 := Lib.hid (PW.out.op (m' := m.crash kp) D.lasts refDk_lasts (Below.refl _ _) (fun T d ht => D.crash d (.slice ko n3 kc) kp (IZ.out.below PW.out.under) (out_z IZ.out fun k h => (ht k h).1) HFEW.out))
                        go_wp2_with fail
                        refine X7.out.mono ?_
                        rintro e w7 ⟨rfl, p7, e7⟩
                        have P7 := Lib.hid p7
                        have B7 : Hid (Blk w7 y 35 [.int .i64 kd, .int .i64 at_, .slice bo n2 bc, .slice ko n3 kc]) := e7.trans BY.out
                        clear X7 PW BY p7 e7
                        have cz3 : w7.cell? ⟨y, 3, none⟩ = some (.slice ko n3 kc) := B7.out.cell 3
                        have X8 := Lib.hid (P7.out.swap.op (m' := m.crash kp) refDk_lasts D.lasts (Below.refl _ _) (fun T d ht => ref_crash d (.slice ko n3 kc) kp (IZ.out.below P7.out.under) (out_z IZ.out fun k h => (ht k h).1)))
                        go_wp2_with fail
                        refine X8.out.mono ?_
                        rintro e w8 ⟨rfl, p8, e8⟩
                        have P8 := Lib.hid p8.swap
                        have B8 : Hid (Blk w8 y 35 [.int .i64 kd, .int .i64 at_, .slice bo n2 bc, .slice ko n3 kc]) := e8.trans B7.out
                        clear X8 P7 B7 p8 e8
                        go_wp2
                        go_meet
                        case rel => exact ⟨_, 0, rfl, rfl, by show 0 ≤ k + 1; omega, P8.out.pair⟩
                      · have zb3 : (kd == 3) = false := by simpa using z3
                        by_cases z4 : kd = 4
                        · have zb4 : (kd == 4) = true := by simpa using z4
                          have X7 := Lib.hid (PW.out.op (m' := m.tamper at_ by_) D.lasts refDk_lasts (Below.refl _ _) (fun T d ht => D.tamper d at_ HAT.out (.slice bo n2 bc) by_ (IB.out.below PW.out.under) (out_in IB.out fun k h => (ht k h).1) HBYL.out))
                          go_wp2_with fail
                          refine X7.out.mono ?_
                          rintro e w7 ⟨rfl, p7, e7⟩
                          have P7 := Lib.hid p7
                          have B7 : Hid (Blk w7 y 35 [.int .i64 kd, .int .i64 at_, .slice bo n2 bc, .slice ko n3 kc]) := e7.trans BY.out
                          clear X7 PW BY p7 e7
                          have cz1 : w7.cell? ⟨y, 1, none⟩ = some (.int .i64 at_) := B7.out.cell 1
                          have cz2 : w7.cell? ⟨y, 2, none⟩ = some (.slice bo n2 bc) := B7.out.cell 2
                          have X8 := Lib.hid (P7.out.swap.op (m' := m.tamper at_ by_) refDk_lasts D.lasts (Below.refl _ _) (fun T d ht => refDk_tamper d at_ HAT.out (.slice bo n2 bc) by_ (IB.out.below P7.out.under) (out_in IB.out fun k h => (ht k h).1) HBYL.out))
                          go_wp2_with fail
                          refine X8.out.mono ?_
                          rintro e w8 ⟨rfl, p8, e8⟩
                          have P8 := Lib.hid p8.swap
                          have B8 : Hid (Blk w8 y 35 [.int .i64 kd, .int .i64 at_, .slice bo n2 bc, .slice ko n3 kc]) := e8.trans B7.out
                          clear X8 P7 B7 p8 e8
                          go_wp2
                          go_meet
                          case rel => exact ⟨_, 0, rfl, rfl, by show m.wait.length ≤ k + 1; have := HK.out; omega, P8.out.pair⟩
                        · have zb4 : (kd == 4) = false := by simpa using z4
                          obtain ⟨cw, hcw⟩ : ∃ c, (m.doWrite at_ by_).2 = c := ⟨_, rfl⟩
                          have X7 := Lib.hid (PW.out.op (m' := (m.doWrite at_ by_).1) D.lasts refDk_lasts (Below.refl _ _) (fun T d ht => D.write d at_ (.slice bo n2 bc) by_ HAT.out (IB.out.below PW.out.under) (out_in IB.out fun k h => (ht k h).1) HFEW.out))
                          rw [hcw] at X7
                          go_wp2_with fail
                          refine X7.out.mono ?_
                          rintro e w7 ⟨rfl, p7, e7⟩
                          have P7 := Lib.hid p7
                          have B7 : Hid (Blk w7 y 35 [.int .i64 kd, .int .i64 at_, .slice bo n2 bc, .slice ko n3 kc]) := e7.trans BY.out
                          clear X7 PW BY p7 e7
                          have cz1 : w7.cell? ⟨y, 1, none⟩ = some (.int .i64 at_) := B7.out.cell 1
                          have cz2 : w7.cell? ⟨y, 2, none⟩ = some (.slice bo n2 bc) := B7.out.cell 2
                          have X8 := Lib.hid (P7.out.swap.op (m' := (m.doWrite at_ by_).1) refDk_lasts D.lasts (Below.refl _ _) (fun T d ht => refDk_write d at_ (.slice bo n2 bc) by_ (IB.out.below P7.out.under) (out_in IB.out fun k h => (ht k h).1) HFEW.out))
                          rw [hcw] at X8
                          go_wp2_with fail
                          refine X8.out.mono ?_
                          rintro e w8 ⟨rfl, p8, e8⟩
                          have P8 := Lib.hid p8.swap
                          have B8 : Hid (Blk w8 y 35 [.int .i64 kd, .int .i64 at_, .slice bo n2 bc, .slice ko n3 kc]) := e8.trans B7.out
                          clear X8 P7 B7 p8 e8
                          go_wp2
                          go_meet
                          case rel => exact ⟨_, cw, rfl, rfl, by have := HK.out; have := HWB.out; rw [Hid]; omega, P8.out.pair⟩
              case rest =>
              obtain ⟨m', c, rfl, rfl, hw', pc⟩ := hcut
              obtain ⟨w9, rfl⟩ : ∃ x, x = wc := ⟨_, rfl⟩
              clear PW BY cy0 cy1 cy2 cy3 HWW HWB HWS IB IZ HNIL HAT HBY HBYL HFEW
              have HFEW : Hid (m'.wait.length < 1000000) := by have := hw'.out; have := HK.out; rw [Hid]; omega
              obtain ⟨⟨sa, sc, wa, wc, e0, e1, e3⟩, hrw⟩ := pc.out.cells
              obtain ⟨N, hN⟩ : ∃ N, N = m'.safe.length := ⟨_, rfl⟩
              obtain ⟨Q, hQ⟩ : ∃ N, N = m'.wait.length := ⟨_, rfl⟩
              obtain ⟨dn, hdn⟩ : ∃ N, N = m'.down := ⟨_, rfl⟩
              rw [← hN] at e0
              rw [← hQ] at e1
              rw [← hdn] at e3
              have HNN : Hid (m'.safe.length = N) := hN.symm
              have HQQ : Hid (m'.wait.length = Q) := hQ.symm
              have HDN : Hid (m'.down = dn) := hdn.symm
              have HSC : Hid (∀ W : World, Below w9.heap.size w9 W → W.cell? ⟨r, 0, none⟩ = some (.slice sa N sc) ∧ W.cell? ⟨r, 1, none⟩ = some (.slice wa Q wc) ∧ W.cell? ⟨r, 3, none⟩ = some (.bool dn)) := fun W k =>
                ⟨(k.cell (p := ⟨r, 0, none⟩) hrw).trans e0, (k.cell (p := ⟨r, 1, none⟩) hrw).trans e1, (k.cell (p := ⟨r, 3, none⟩) hrw).trans e3⟩
              clear hN hQ hdn e0 e1 e3 hrw
              go_upto_region 35 with fail
              refine wp_region_any (by kernel_rfl) ?_
              change wpAny _ _ _ _ _ _ _ (World.drew _)
              refine wpAny_of_held (S := fun W => W.cell? ⟨r, 0, none⟩ = some (.slice sa N sc) ∧ W.cell? ⟨r, 1, none⟩ = some (.slice wa Q wc) ∧ W.cell? ⟨r, 3, none⟩ = some (.bool dn)) _ _ _ _ ?_
              have kd9 : Below w9.heap.size w9 w9.drew := drewN_below (Below.refl _ w9) 1
              have S9 := HSC.out _ kd9
              have P9 := Lib.hid (pc.out.below D.lasts refDk_lasts kd9)
              obtain ⟨wA, hwA⟩ : ∃ x, Hid (x = w9.drew) := ⟨_, rfl⟩
              rw [← hwA.out] at S9 P9 kd9 ⊢
              have KA := Lib.hid kd9
              clear kd9 hwA
              refine wpAnyH_take_at (i := 0) (v := .int .i64 c) rfl rfl (by kernel_rfl) (by kernel_rfl) (by kernel_rfl) (fun _ _ _ h => h) (Or.inl ⟨by rfl, fun w hS => by go_simp⟩) S9 ?_
              simp only [List.setIfInBounds_toArray, List.set_cons_zero, List.set_cons_succ]
              refine wpAnyH_take_at (i := 1) (v := .int .i64 c) rfl rfl (by kernel_rfl) (by kernel_rfl) (by kernel_rfl) (fun _ _ _ h => h) (Or.inl ⟨by rfl, fun w hS => by go_simp⟩) S9 ?_
              simp only [List.setIfInBounds_toArray, List.set_cons_zero, List.set_cons_succ]
              refine wpAnyH_take_at (i := 2) (v := .bool false) rfl rfl (by kernel_rfl) (by kernel_rfl) (by kernel_rfl) (fun _ _ _ h => h) (Or.inl ⟨by rfl, fun w hS => by go_simp⟩) S9 ?_
              simp only [List.setIfInBounds_toArray, List.set_cons_zero, List.set_cons_succ]
              refine wpAnyH_take_at (i := 3) (v := .bool false) rfl rfl (by kernel_rfl) (by kernel_rfl) (by kernel_rfl) (fun _ _ _ h => h) (Or.inl ⟨by rfl, fun w hS => by go_simp⟩) S9 ?_
              simp only [List.setIfInBounds_toArray, List.set_cons_zero, List.set_cons_succ]
              refine wpAnyH_take_at (i := 4) (v := .pointer (some ⟨d, 0, none⟩)) rfl rfl (by kernel_rfl) (by kernel_rfl) (by kernel_rfl) (fun _ _ _ h => h) (Or.inl ⟨by rfl, fun w hS => by go_simp⟩) S9 ?_
              simp only [List.setIfInBounds_toArray, List.set_cons_zero, List.set_cons_succ]
              refine wpAnyH_take_at (i := 6) (v := .pointer (some ⟨r, 0, none⟩)) rfl rfl (by kernel_rfl) (by kernel_rfl) (by kernel_rfl) (fun _ _ _ h => h) (Or.inl ⟨by rfl, fun w hS => by go_simp⟩) S9 ?_
              simp only [List.setIfInBounds_toArray, List.set_cons_zero, List.set_cons_succ]
              refine wpAnyH_take_at (i := 7) (v := .pointer (some ⟨r, 0, none⟩)) rfl rfl (by kernel_rfl) (by kernel_rfl) (by kernel_rfl) (fun _ _ _ h => h) (Or.inl ⟨by rfl, fun w hS => by go_simp⟩) S9 ?_
              simp only [List.setIfInBounds_toArray, List.set_cons_zero, List.set_cons_succ]
              refine wpAnyH_take_at (i := 8) (v := .pointer (some ⟨r, 3, none⟩)) rfl rfl (by kernel_rfl) (by kernel_rfl) (by kernel_rfl) (fun _ _ _ h => h) (Or.inl ⟨by rfl, fun w hS => by go_simp⟩) S9 ?_
              simp only [List.setIfInBounds_toArray, List.set_cons_zero, List.set_cons_succ]
              refine wpAnyH_take_at (i := 9) (v := .bool dn) rfl rfl (by kernel_rfl) (by kernel_rfl) (by kernel_rfl) (fun _ _ _ h => h) (Or.inl ⟨by rfl, fun w hS => by have c := hS.2.2; go_simp⟩) S9 ?_
              simp only [List.setIfInBounds_toArray, List.set_cons_zero, List.set_cons_succ]
              refine wpAnyH_ready (rs := [5]) (by kernel_rfl) (by simp) ?_
              refine AllReadyH.cons rfl (fun K hK => ?_) AllReadyH.nil
              go_simp
              have XB := Lib.hid (P9.out.see D.lasts refDk_lasts (Below.refl _ _) (fun T d => D.down d))
              rw [HDN.out] at XB
              refine XB.out.mono ?_
              rintro e wB ⟨rfl, pB, kB⟩
              have PB := Lib.hid pB
              have KB : Hid (Below w9.heap.size w9 wB) := KA.out.trans (kB.mono KA.out.size)
              have SB := HSC.out wB KB.out
              refine hK.out _ _ SB (fun _ => ?_)
              clear hK K pB XB P9 KA S9
              obtain ⟨P9, rfl⟩ : ∃ x, x = PB := ⟨_, rfl⟩
              obtain ⟨KA, rfl⟩ : ∃ x, x = KB := ⟨_, rfl⟩
              obtain ⟨S9, rfl⟩ : ∃ x, x = SB := ⟨_, rfl⟩
              clear kB
              refine wpAnyH_take_at (i := 10) (v := .bool false) rfl rfl (by kernel_rfl) (by kernel_rfl) (by kernel_rfl) (fun _ _ _ h => h) (Or.inl ⟨by rfl, fun w hS => by go_simp⟩) S9 ?_
              simp only [List.setIfInBounds_toArray, List.set_cons_zero, List.set_cons_succ]
              refine wpAnyH_take_at (i := 11) (v := .bool false) rfl rfl (by kernel_rfl) (by kernel_rfl) (by kernel_rfl) (fun _ _ _ h => h) (Or.inl ⟨by rfl, fun w hS => by go_simp⟩) S9 ?_
              simp only [List.setIfInBounds_toArray, List.set_cons_zero, List.set_cons_succ]
              refine wpAnyH_take_at (i := 12) (v := .bool false) rfl rfl (by kernel_rfl) (by kernel_rfl) (by kernel_rfl) (fun _ _ _ h => h) (Or.inl ⟨by rfl, fun w hS => by go_simp⟩) S9 ?_
              simp only [List.setIfInBounds_toArray, List.set_cons_zero, List.set_cons_succ]
              refine wpAnyH_take_at (i := 13) (v := .pointer (some ⟨d, 0, none⟩)) rfl rfl (by kernel_rfl) (by kernel_rfl) (by kernel_rfl) (fun _ _ _ h => h) (Or.inl ⟨by rfl, fun w hS => by go_simp⟩) S9 ?_
              simp only [List.setIfInBounds_toArray, List.set_cons_zero, List.set_cons_succ]
              refine wpAnyH_take_at (i := 15) (v := .pointer (some ⟨r, 0, none⟩)) rfl rfl (by kernel_rfl) (by kernel_rfl) (by kernel_rfl) (fun _ _ _ h => h) (Or.inl ⟨by rfl, fun w hS => by go_simp⟩) S9 ?_
              simp only [List.setIfInBounds_toArray, List.set_cons_zero, List.set_cons_succ]
              refine wpAnyH_take_at (i := 16) (v := .pointer (some ⟨r, 0, none⟩)) rfl rfl (by kernel_rfl) (by kernel_rfl) (by kernel_rfl) (fun _ _ _ h => h) (Or.inl ⟨by rfl, fun w hS => by go_simp⟩) S9 ?_
              simp only [List.setIfInBounds_toArray, List.set_cons_zero, List.set_cons_succ]
              refine wpAnyH_take_at (i := 17) (v := .pointer (some ⟨r, 1, none⟩)) rfl rfl (by kernel_rfl) (by kernel_rfl) (by kernel_rfl) (fun _ _ _ h => h) (Or.inl ⟨by rfl, fun w hS => by go_simp⟩) S9 ?_
              simp only [List.setIfInBounds_toArray, List.set_cons_zero, List.set_cons_succ]
              refine wpAnyH_take_at (i := 18) (v := .slice wa Q wc) rfl rfl (by kernel_rfl) (by kernel_rfl) (by kernel_rfl) (fun _ _ _ h => h) (Or.inl ⟨by rfl, fun w hS => by have c := hS.2.1; go_simp⟩) S9 ?_
              simp only [List.setIfInBounds_toArray, List.set_cons_zero, List.set_cons_succ]
              refine wpAnyH_take_at (i := 19) (v := .int .i64 (Q : Int)) rfl rfl (by kernel_rfl) (by kernel_rfl) (by kernel_rfl) (fun _ _ _ h => h) (Or.inl ⟨by rfl, fun w hS => by go_simp⟩) S9 ?_
              simp only [List.setIfInBounds_toArray, List.set_cons_zero, List.set_cons_succ]
              refine wpAnyH_ready (rs := [14]) (by kernel_rfl) (by simp) ?_
              refine AllReadyH.cons rfl (fun K hK => ?_) AllReadyH.nil
              go_simp
              have XC := Lib.hid (P9.out.see D.lasts refDk_lasts (Below.refl _ _) (fun T d => D.waiting d))
              rw [HQQ.out] at XC
              refine XC.out.mono ?_
              rintro e wC ⟨rfl, pC, kC⟩
              have PC := Lib.hid pC
              have KC : Hid (Below w9.heap.size w9 wC) := KA.out.trans (kC.mono KA.out.size)
              have SC := HSC.out wC KC.out
              refine hK.out _ _ SC (fun _ => ?_)
              clear hK K pC XC P9 KA S9
              obtain ⟨P9, rfl⟩ : ∃ x, x = PC := ⟨_, rfl⟩
              obtain ⟨KA, rfl⟩ : ∃ x, x = KC := ⟨_, rfl⟩
              obtain ⟨S9, rfl⟩ : ∃ x, x = SC := ⟨_, rfl⟩
              clear kC
              refine wpAnyH_take_at (i := 20) (v := .bool false) rfl rfl (by kernel_rfl) (by kernel_rfl) (by kernel_rfl) (fun _ _ _ h => h) (Or.inl ⟨by rfl, fun w hS => by go_simp⟩) S9 ?_
              simp only [List.setIfInBounds_toArray, List.set_cons_zero, List.set_cons_succ]
              refine wpAnyH_take_at (i := 21) (v := .bool false) rfl rfl (by kernel_rfl) (by kernel_rfl) (by kernel_rfl) (fun _ _ _ h => h) (Or.inl ⟨by rfl, fun w hS => by go_simp⟩) S9 ?_
              simp only [List.setIfInBounds_toArray, List.set_cons_zero, List.set_cons_succ]
              refine wpAnyH_take_at (i := 22) (v := .bool false) rfl rfl (by kernel_rfl) (by kernel_rfl) (by kernel_rfl) (fun _ _ _ h => h) (Or.inl ⟨by rfl, fun w hS => by go_simp⟩) S9 ?_
              simp only [List.setIfInBounds_toArray, List.set_cons_zero, List.set_cons_succ]
              refine wpAnyH_take_at (i := 23) (v := .pointer (some ⟨d, 0, none⟩)) rfl rfl (by kernel_rfl) (by kernel_rfl) (by kernel_rfl) (fun _ _ _ h => h) (Or.inl ⟨by rfl, fun w hS => by go_simp⟩) S9 ?_
              simp only [List.setIfInBounds_toArray, List.set_cons_zero, List.set_cons_succ]
              refine wpAnyH_take_at (i := 25) (v := .pointer (some ⟨r, 0, none⟩)) rfl rfl (by kernel_rfl) (by kernel_rfl) (by kernel_rfl) (fun _ _ _ h => h) (Or.inl ⟨by rfl, fun w hS => by go_simp⟩) S9 ?_
              simp only [List.setIfInBounds_toArray, List.set_cons_zero, List.set_cons_succ]
              refine wpAnyH_ready (rs := [24]) (by kernel_rfl) (by simp) ?_
              refine AllReadyH.cons rfl (fun K hK => ?_) AllReadyH.nil
              go_simp
              have XE := Lib.hid (P9.out.see D.lasts refDk_lasts (Below.refl _ _) (R := fun e w' => ∃ r, e = .returned r ∧ IsB w' r m'.image) (fun T d => (D.image d).mono fun e w' ⟨r, he, ho, k⟩ => ⟨⟨r, he, ho.isB⟩, k⟩))
              refine XE.out.mono ?_
              rintro e wE ⟨⟨rE, rfl, iE⟩, pE, kE⟩
              have PE := Lib.hid pE
              have KE : Hid (Below w9.heap.size w9 wE) := KA.out.trans (kE.mono KA.out.size)
              have SE := HSC.out wE KE.out
              refine hK.out _ _ SE (fun _ => ?_)
              clear hK K pE XE P9 KA S9
              obtain ⟨P9, rfl⟩ : ∃ x, x = PE := ⟨_, rfl⟩
              obtain ⟨KA, rfl⟩ : ∃ x, x = KE := ⟨_, rfl⟩
              obtain ⟨S9, rfl⟩ : ∃ x, x = SE := ⟨_, rfl⟩
              clear kE
              refine wpAnyH_ready (rs := [26]) (by kernel_rfl) (by simp) ?_
              refine AllReadyH.cons rfl (fun K hK => ?_) AllReadyH.nil
              go_simp
              have XF := Lib.hid (P9.out.swap.see refDk_lasts D.lasts (Below.refl _ _) (fun T d => refDk_same d rE m'.image iE))
              rw [decide_eq_true rfl] at XF
              refine XF.out.mono ?_
              rintro e wF ⟨rfl, pF, kF⟩
              have PF := Lib.hid pF.swap
              have KF : Hid (Below w9.heap.size w9 wF) := KA.out.trans (kF.mono KA.out.size)
              have SF := HSC.out wF KF.out
              refine hK.out _ _ SF (fun _ => ?_)
              clear hK K pF XF P9 KA S9
              obtain ⟨P9, rfl⟩ : ∃ x, x = PF := ⟨_, rfl⟩
              obtain ⟨KA, rfl⟩ : ∃ x, x = KF := ⟨_, rfl⟩
              obtain ⟨S9, rfl⟩ : ∃ x, x = SF := ⟨_, rfl⟩
              clear kF iE
              refine wpAnyH_take_at (i := 27) (v := .bool false) rfl rfl (by kernel_rfl) (by kernel_rfl) (by kernel_rfl) (fun _ _ _ h => h) (Or.inl ⟨by rfl, fun w hS => by go_simp⟩) S9 ?_
              simp only [List.setIfInBounds_toArray, List.set_cons_zero, List.set_cons_succ]
              refine wpAnyH_take_at (i := 28) (v := .bool false) rfl rfl (by kernel_rfl) (by kernel_rfl) (by kernel_rfl) (fun _ _ _ h => h) (Or.inl ⟨by rfl, fun w hS => by go_simp⟩) S9 ?_
              simp only [List.setIfInBounds_toArray, List.set_cons_zero, List.set_cons_succ]
              refine wpAnyH_take_at (i := 29) (v := .bool false) rfl rfl (by kernel_rfl) (by kernel_rfl) (by kernel_rfl) (fun _ _ _ h => h) (Or.inl ⟨by rfl, fun w hS => by go_simp⟩) S9 ?_
              simp only [List.setIfInBounds_toArray, List.set_cons_zero, List.set_cons_succ]
              refine wpAnyH_take_at (i := 30) (v := .pointer (some ⟨d, 0, none⟩)) rfl rfl (by kernel_rfl) (by kernel_rfl) (by kernel_rfl) (fun _ _ _ h => h) (Or.inl ⟨by rfl, fun w hS => by go_simp⟩) S9 ?_
              simp only [List.setIfInBounds_toArray, List.set_cons_zero, List.set_cons_succ]
              refine wpAnyH_take_at (i := 32) (v := .pointer (some ⟨r, 0, none⟩)) rfl rfl (by kernel_rfl) (by kernel_rfl) (by kernel_rfl) (fun _ _ _ h => h) (Or.inl ⟨by rfl, fun w hS => by go_simp⟩) S9 ?_
              simp only [List.setIfInBounds_toArray, List.set_cons_zero, List.set_cons_succ]
              refine wpAnyH_take_at (i := 33) (v := .pointer (some ⟨r, 0, none⟩)) rfl rfl (by kernel_rfl) (by kernel_rfl) (by kernel_rfl) (fun _ _ _ h => h) (Or.inl ⟨by rfl, fun w hS => by go_simp⟩) S9 ?_
              simp only [List.setIfInBounds_toArray, List.set_cons_zero, List.set_cons_succ]
              refine wpAnyH_take_at (i := 34) (v := .pointer (some ⟨r, 0, none⟩)) rfl rfl (by kernel_rfl) (by kernel_rfl) (by kernel_rfl) (fun _ _ _ h => h) (Or.inl ⟨by rfl, fun w hS => by go_simp⟩) S9 ?_
              simp only [List.setIfInBounds_toArray, List.set_cons_zero, List.set_cons_succ]
              refine wpAnyH_take_at (i := 35) (v := .slice sa N sc) rfl rfl (by kernel_rfl) (by kernel_rfl) (by kernel_rfl) (fun _ _ _ h => h) (Or.inl ⟨by rfl, fun w hS => by have c := hS.1; go_simp⟩) S9 ?_
              simp only [List.setIfInBounds_toArray, List.set_cons_zero, List.set_cons_succ]
              refine wpAnyH_take_at (i := 36) (v := .int .i64 (N : Int)) rfl rfl (by kernel_rfl) (by kernel_rfl) (by kernel_rfl) (fun _ _ _ h => h) (Or.inl ⟨by rfl, fun w hS => by go_simp⟩) S9 ?_
              simp only [List.setIfInBounds_toArray, List.set_cons_zero, List.set_cons_succ]
              refine wpAnyH_ready (rs := [31]) (by kernel_rfl) (by simp) ?_
              refine AllReadyH.cons rfl (fun K hK => ?_) AllReadyH.nil
              go_simp
              have XG := Lib.hid (P9.out.see D.lasts refDk_lasts (Below.refl _ _) (fun T d => D.blocks d))
              rw [HNN.out] at XG
              refine XG.out.mono ?_
              rintro e wG ⟨rfl, pG, kG⟩
              have PG := Lib.hid pG
              have KG : Hid (Below w9.heap.size w9 wG) := KA.out.trans (kG.mono KA.out.size)
              have SG := HSC.out wG KG.out
              refine hK.out _ _ SG (fun _ => ?_)
              clear hK K pG XG P9 KA S9
              obtain ⟨P9, rfl⟩ : ∃ x, x = PG := ⟨_, rfl⟩
              obtain ⟨KA, rfl⟩ : ∃ x, x = KG := ⟨_, rfl⟩
              obtain ⟨S9, rfl⟩ : ∃ x, x = SG := ⟨_, rfl⟩
              clear kG
              refine wpAnyH_take_at (i := 37) (v := .bool false) rfl rfl (by kernel_rfl) (by kernel_rfl) (by kernel_rfl) (fun _ _ _ h => h) (Or.inl ⟨by rfl, fun w hS => by go_simp⟩) S9 ?_
              simp only [List.setIfInBounds_toArray, List.set_cons_zero, List.set_cons_succ]
              refine wpAnyH_take_at (i := 38) (v := .bool false) rfl rfl (by kernel_rfl) (by kernel_rfl) (by kernel_rfl) (fun _ _ _ h => h) (Or.inl ⟨by rfl, fun w hS => by go_simp⟩) S9 ?_
              simp only [List.setIfInBounds_toArray, List.set_cons_zero, List.set_cons_succ]
              refine wpAnyH_done (by kernel_rfl) ?_ _
              clear S9
              have HNF : Hid (N ≤ 2176) := by rw [Hid, ← HNN.out]; exact (P9.out.okay D.lasts).few
              go_wp2
              go_loopw [13] (fun i wr => ∃ j : Nat, j ≤ N + 2 ∧ i = .int .i64 ((j : Int) - 1) ∧ Hid (Pair Dk RefDk w wr d m' r m'))
                (fun i _ => N + 2 - (intOf i + 1).toNat)
              case atStart => exact ⟨0, by omega, rfl, P9⟩
              case round =>
                clear P9 KA pc HSC
                obtain ⟨wy, rfl⟩ : ∃ x, x = wr := ⟨_, rfl⟩
                obtain ⟨j, hj, rfl, pp⟩ := hrel
                obtain ⟨⟨sa, sc, wa, wc, e0, _, _⟩, _⟩ := pp.out.cells
                rw [HNN.out] at e0
                obtain ⟨x, hx⟩ : ∃ x, x = (j : Int) - 1 := ⟨_, rfl⟩
                rw [← hx]
                by_cases hlt : j ≤ N + 1
                · have a1 : x ≤ (N : Int) := by omega
                  have HX : Hid (-9223372036854775808 ≤ x ∧ x < 9223372036854775808) := by have := HNF.out; rw [Hid]; omega
                  have HJ : Hid (j ≤ N + 1 ∧ x = (j : Int) - 1) := ⟨hlt, hx⟩
                  have g4 : wrap64 (x + 1) = x + 1 := by have := HNF.out; unfold wrap64; omega
                  have HG4 : Hid (wrap64 (x + 1) = ((j + 1 : Nat) : Int) - 1) := by rw [Hid, g4]; clear g4; omega
                  have HM4 : Hid (N + 2 - (wrap64 (x + 1) + 1).toNat < N + 2 - (x + 1).toNat) := by rw [Hid, g4]; clear g4; omega
                  clear g4
                  obtain ⟨b2, hb2⟩ : ∃ b, (m'.doRead x).1 = b := ⟨_, rfl⟩
                  obtain ⟨c2, hc2⟩ : ∃ b, (m'.doRead x).2 = b := ⟨_, rfl⟩
                  have X1 := Lib.hid (pp.out.see D.lasts refDk_lasts (Below.refl _ _) (R := fun e w' => ∃ r, e = .returned (.tuple #[r, .int .i64 (m'.doRead x).2]) ∧ IsB w' r (m'.doRead x).1) (fun T d => (D.read d HFEW.out x HX.out).mono fun e w' ⟨r, he, hb, h1, h2, k⟩ => ⟨⟨r, he, hb⟩, k⟩))
                  rw [hb2, hc2] at X1
                  clear hlt hx hj pp
                  go_wp2_with fail
                  refine X1.out.mono ?_
                  rintro e w10 ⟨⟨r10, rfl, i10⟩, p10, k10⟩
                  have P10 := Lib.hid p10
                  have I10 := Lib.hid i10
                  have X2 := Lib.hid (p10.swap.see refDk_lasts D.lasts (Below.refl _ _) (R := fun e w' => ∃ r, e = .returned (.tuple #[r, .int .i64 (m'.doRead x).2]) ∧ IsB w' r (m'.doRead x).1) (fun T d => (refDk_read d x).mono fun e w' ⟨r, he, hb, k⟩ => ⟨⟨r, he, hb⟩, k⟩))
                  rw [hb2, hc2] at X2
                  clear X1 i10 p10 k10 e0
                  go_wp2_with fail
                  refine X2.out.mono ?_
                  rintro e w11 ⟨⟨r11, rfl, i11⟩, p11, k11⟩
                  have P11 := Lib.hid p11.swap
                  have X3 := Lib.hid (requal_b r10 r11 b2 b2 w11 (I10.out.below k11) i11)
                  rw [decide_eq_true rfl] at X3
                  clear X2 i11 p11 k11 P10 I10 hb2 hc2
                  go_wp2_with fail
                  refine X3.out.mono ?_
                  rintro e w12 ⟨rfl, k12⟩
                  have P12 := Lib.hid (P11.out.below D.lasts refDk_lasts k12)
                  clear X3 k12 P11
                  go_wp2
                  go_roundw
                  case rel => exact ⟨j + 1, by have := HJ.out; omega, by rw [HG4.out], P12⟩
                  case measure => exact HM4.out
                · have a1 : ¬ x ≤ (N : Int) := by omega
                  have HM : Hid (m'.wait.length ≤ k + 1) := hw'
                  clear hlt hx hj
                  go_wp2
                  go_roundw
                  case rel => exact ⟨k + 1, m', HK.out.1, by first | rw [g1] | rfl, HM.out, pp⟩
                  case measure => first | rw [g1] | skip
                                  clear g1 a1
                                  have := HK.out
                                  simp only [numOf, Int.toNat_natCast]
                                  omega
            · have a2 : ¬ (k : Int) < 60 := by omega
              go_wp2
              go_ret
              exact ⟨rfl, ss.out.under⟩
          · have a1 : ¬ (k : Int) < (q : Int) := by omega
            go_wp2
            go_ret
            exact ⟨rfl, ss.out.under⟩
      · have X3 := Lib.hid (D.load_no (w := w3) (HI.out.below K3.out) (fun h => h3 (by rw [HN.out]; exact h.1)))
        have HNO : Hid (¬ (img.length % 256 = 0 ∧ img.length ≤ 557056)) := fun h => h3 (by rw [HN.out]; exact h.1)
        clear h3
        go_wp2_with fail
        refine X3.out.mono ?_
        rintro e w4 ⟨rfl, k4⟩
        have K4 : Hid (Below w.heap.size w w4) := K3.out.trans (k4.mono K3.out.size)
        have X4 := Lib.hid (refDk_no (w := w4) (HI.out.below K4.out) HNO.out)
        clear X3 k4 K3
        go_wp2_with fail
        refine X4.out.mono ?_
        rintro e w5 ⟨rfl, rfl⟩
        clear X4
        go_wp2
        go_ret
        exact ⟨rfl, K4.out⟩
    · rw [Bool.not_eq_true] at hsm
      rw [hsm] at X2
      go_wp2_with fail
      refine X2.out.mono ?_
      rintro e w3 ⟨rfl, k3⟩
      have K3 := K2.out.trans (k3.mono K2.out.size)
      clear X2 k3
      go_wp2
      go_ret
      exact ⟨rfl, K3⟩
  · have b1 : (3072 : Int) < (n : Int) := by omega
    clear h1
    go_wp2
    go_ret
    exact ⟨rfl, K2.out⟩

end Go.Proofs.Ythmamdlhgfkckaa
