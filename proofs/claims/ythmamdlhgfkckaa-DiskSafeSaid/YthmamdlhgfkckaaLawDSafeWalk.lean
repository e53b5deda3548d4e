/-
  orloplaw09.DiskSafe, under DiskOk: it returns true. Conditions: DiskOk (proved of the code elsewhere).
-/
import Derived.Test.YthmamdlhgfkckaaDiskRow
import Derived.Test.YthmamdlhgfkckaaDiskA
import Derived.Deep.CutBlock
import Derived.Deep.DeepCutAuto
namespace Go.Proofs.Ythmamdlhgfkckaa
open Go.RowKit
set_option linter.unusedVariables false

/-- A region of reads of a step, a Full and a Write: what it needs of each world. -/
def Reads2 (at_ : Int) (v : Value) (b o1 o2 : Nat) (w : World) : Prop := w.cell? ⟨b, o1, none⟩ = some (.int .i64 at_) ∧ w.cell? ⟨b, o2, none⟩ = some v

set_option maxRecDepth 100000 in
set_option maxHeartbeats 8000000 in
theorem dsafe_walk {Dk : (Nat → Prop) → World → Nat → M.Dsk → Prop} (D : DiskOk Dk) (w : World) (iv : Value) (img : List UInt8) (hi : IsB w iv img) (lv : Value) (l : List M.Step) (hs : IsSteps w lv l) :
    Calls Try.prog 4 #[iv, lv] w fun e w' => e = .returned (.bool true) ∧ Below w.heap.size w w' := by
  have HI := Lib.hid hi
  have HS := Lib.hid hs
  obtain ⟨ia, ic, ei⟩ := hi.shape
  obtain ⟨la, lc, el⟩ := hs.shape
  obtain ⟨n, hn⟩ : ∃ n, n = img.length := ⟨_, rfl⟩
  obtain ⟨q, hq⟩ : ∃ q, q = l.length := ⟨_, rfl⟩
  rw [← hn] at ei
  rw [← hq] at el
  subst ei el
  have HN : Hid (n = img.length) := hn
  have HQ : Hid (q = l.length) := hq
  have HST : Hid (∀ i, i < q → ∃ b off, la = some ⟨b, off, none⟩ ∧ StepAt w b (off + i * 4) (l.getD i M.Step.none)) := by
    obtain ⟨ao, cap, e, _, _, h⟩ := hs
    injection e with e1 e2 e3
    intro i hi
    rcases h with h | ⟨b, off, e4, h⟩
    · rw [h] at hq; simp at hq; omega
    · exact ⟨b, off, by rw [e1, e4], h i (by omega)⟩
  clear hi hs hn hq
  go_enter Try.func4, Try.ntmps4
  go_wp2_with fail
  refine (diskAwake_any D w).mono ?_
  rintro e w2 ⟨rfl, k2⟩
  have K2 := Lib.hid k2
  clear k2
  by_cases h1 : n ≤ 3072
  · have b1 : ¬ (3072 : Int) < (n : Int) := by omega
    have X2 := Lib.hid (small9_any (.slice la q lc) l w2 (by
      obtain ⟨ao, cap, e, h1, h2, h⟩ := HS.out
      refine ⟨ao, cap, e, h1, h2, ?_⟩
      rcases h with h | ⟨b, off, e4, h⟩
      · exact .inl h
      · exact .inr ⟨b, off, e4, fun i hi => (h i hi).below K2.out⟩))
    have H1 := Lib.hid h1
    clear h1
    by_cases hsm : M.small l = true
    · rw [hsm] at X2
      have HSM := Lib.hid hsm
      clear hsm
      go_wp2_with fail
      refine X2.out.mono ?_
      rintro e w3 ⟨rfl, k3⟩
      have K3 : Hid (Below w.heap.size w w3) := K2.out.trans (k3.mono K2.out.size)
      clear k3 X2 K2
      by_cases h3 : n % 256 = 0
      · have X3 := Lib.hid (solo_load (w := w3) D (HI.out.below K3.out) (by rw [← HN.out]; exact h3) (by rw [← HN.out]; have := H1.out; omega) K3.out)
        have HOK : Hid ((M.dload img).Ok ∧ (M.dload img).safe.flatten = img) := M.dload_ok img (by rw [← HN.out]; exact h3) (by rw [← HN.out]; have := H1.out; omega)
        have H3 := Lib.hid h3
        obtain ⟨s, hs⟩ : ∃ s, Hid (s = (M.dload img).safe) := ⟨_, rfl⟩
        have hid0 : M.dload img = M.idle s [] := by rw [hs.out]; rfl
        rw [hid0] at X3 HOK
        have HSI : Hid (s.flatten = img) := HOK.out.2
        have HOS : Hid ((M.idle s []).Ok) := HOK.out.1
        clear h3 hid0 HOK hs
        go_wp2_with fail
        refine X3.out.mono ?_
        rintro e w4 ⟨d, rfl, s4, k4⟩
        have S4 := Lib.hid s4
        clear X3 s4 k4 K3 b1
        go_upto_block 0 with fail
        go_cut [7, 8] from 31 to 54 (fun i y wx => ∃ c : List (Nat × List UInt8), Hid (c.length ≤ 60) ∧ Hid (Solo Dk w wx d (M.idle s c)))
        case first =>
          go_wp2
          go_loopw [7] (fun i wr => ∃ (k : Nat) (c : List (Nat × List UInt8)), k ≤ 60 ∧ i = .int .i64 (k : Int) ∧ c.length ≤ k ∧ Hid (Solo Dk w wr d (M.idle s c)))
            (fun i _ => 60 - numOf i)
          case atStart => exact ⟨0, [], by omega, rfl, by simp, S4⟩
          case round =>
            clear S4
            obtain ⟨wz, rfl⟩ : ∃ x, x = wr := ⟨_, rfl⟩
            obtain ⟨k, c, hk, rfl, hc, ss⟩ := hrel
            by_cases hlt : k < q
            · have a1 : (k : Int) < (q : Int) := by omega
              by_cases h6 : k < 60
              · have a2 : (k : Int) < 60 := by omega
                obtain ⟨b, off, rfl, st⟩ := HST.out k hlt
                have hsmk := M.small_get HSM.out k (by rw [← HQ.out]; exact hlt) h6
                have kz := ss.out.under
                obtain ⟨bo, bc, ko, kc, c0, c1, c2, c3, ib, hnil, iz, wf0, wf1⟩ := st.below kz
                obtain ⟨a, ha⟩ : ∃ a, a = l.getD k M.Step.none := ⟨_, rfl⟩
                rw [← ha] at hsmk c0 c1 c2 c3 ib iz wf0 wf1
                obtain ⟨kd, hkd⟩ : ∃ x, x = a.kind := ⟨_, rfl⟩
                obtain ⟨at_, hat⟩ : ∃ x, x = a.at_ := ⟨_, rfl⟩
                obtain ⟨by_, hby⟩ : ∃ x, x = a.bytes := ⟨_, rfl⟩
                obtain ⟨n2, hn2⟩ : ∃ x, x = by_.length := ⟨_, rfl⟩
                obtain ⟨n3, hn3⟩ : ∃ x, x = a.keep.length := ⟨_, rfl⟩
                rw [← hkd] at c0
                rw [← hat] at c1 wf1
                rw [← hby] at c2 ib hsmk
                rw [← hn2] at c2 ib
                rw [← hn3] at c3
                have HAT : Hid (-9223372036854775808 ≤ at_ ∧ at_ < 9223372036854775808) := in_i64 wf1
                have HBY : Hid (by_.length ≤ 1000) := hsmk.1
                have IB := Lib.hid ib
                have HNIL : Hid (∀ n c, Value.slice bo n2 bc = .slice none n c → c = 0) := fun n c e => by
                  injection e with e1 e2 e3
                  rw [← e3]
                  exact hnil e1
                have HK : Hid (k < 60 ∧ c.length ≤ k) := ⟨h6, hc⟩
                have g2 : (0 : Int) ≤ (k : Int) := Int.natCast_nonneg k
                have g3 : ((k : Int)).toNat = k := Int.toNat_natCast k
                have g1 : wrap64 ((k : Int) + 1) = ((k + 1 : Nat) : Int) := wrap_next (by omega)
                clear st kz hsmk wf0 wf1 ib hnil iz hlt h6 hk hc ha hkd hat hby hn2 hn3
                by_cases hz : kd = 0
                · subst hz
                  obtain ⟨y, hy⟩ : ∃ y, y = wz.heap.size := ⟨_, rfl⟩
                  obtain ⟨W, hW⟩ : ∃ W, Hid (W = wz.alloc (.cells #[.int .i64 0, .int .i64 at_, .slice bo n2 bc, .slice ko n3 kc] 35)) := ⟨_, rfl⟩
                  have kW : Below wz.heap.size wz W := by rw [hW.out]; exact (Below.refl _ _).alloc (Nat.le_refl _) _
                  have BW : Blk W y 35 [.int .i64 0, .int .i64 at_, .slice bo n2 bc, .slice ko n3 kc] := by rw [hW.out]; exact Blk.newAt _ _ _ _ _ hy rfl
                  have SW := Lib.hid (ss.out.below D.lasts kW)
                  have IW := Lib.hid (IB.out.below kW)
                  go_upto_region 13 with fail
                  rw [← hW.out, ← hy]
                  have HY := Lib.hid hy
                  clear hW hy c0 c1 c2 c3 g2 g3 a1 a2
                  refine wp_region_any (by kernel_rfl) ?_
                  change wpAny _ _ _ _ _ _ _ (World.drew _)
                  refine wpAny_of_held (S := fun w' => w'.cell? ⟨y, 1, none⟩ = some (.int .i64 at_) ∧ w'.cell? ⟨y, 2, none⟩ = some (.slice bo n2 bc)) _ _ _ _ ?_
                  have S0 : W.drew.cell? ⟨y, 1, none⟩ = some (.int .i64 at_) ∧ W.drew.cell? ⟨y, 2, none⟩ = some (.slice bo n2 bc) := ⟨BW.cell 1, BW.cell 2⟩
                  refine wpAnyH_take_at (i := 0) (v := .pointer (some ⟨d, 0, none⟩)) rfl rfl (by kernel_rfl) (by kernel_rfl) (by kernel_rfl) (fun _ _ _ h => h) (Or.inl ⟨by rfl, fun w hS => by go_simp⟩) S0 ?_
                  simp only [List.setIfInBounds_toArray, List.set_cons_zero, List.set_cons_succ]
                  refine wpAnyH_take_at (i := 1) (v := .pointer (some ⟨y, 1, none⟩)) rfl rfl (by kernel_rfl) (by kernel_rfl) (by kernel_rfl) (fun _ _ _ h => h) (Or.inl ⟨by rfl, fun w hS => by go_simp⟩) S0 ?_
                  simp only [List.setIfInBounds_toArray, List.set_cons_zero, List.set_cons_succ]
                  refine wpAnyH_take_at (i := 2) (v := .int .i64 at_) rfl rfl (by kernel_rfl) (by kernel_rfl) (by kernel_rfl) (fun _ _ _ h => h) (Or.inl ⟨by rfl, fun w hS => by have c := hS.1; go_simp⟩) S0 ?_
                  simp only [List.setIfInBounds_toArray, List.set_cons_zero, List.set_cons_succ]
                  refine wpAnyH_take_at (i := 3) (v := .pointer (some ⟨y, 2, none⟩)) rfl rfl (by kernel_rfl) (by kernel_rfl) (by kernel_rfl) (fun _ _ _ h => h) (Or.inl ⟨by rfl, fun w hS => by go_simp⟩) S0 ?_
                  simp only [List.setIfInBounds_toArray, List.set_cons_zero, List.set_cons_succ]
                  refine wpAnyH_take_at (i := 4) (v := .slice bo n2 bc) rfl rfl (by kernel_rfl) (by kernel_rfl) (by kernel_rfl) (fun _ _ _ h => h) (Or.inl ⟨by rfl, fun w hS => by have c := hS.2; go_simp⟩) S0 ?_
                  simp only [List.setIfInBounds_toArray, List.set_cons_zero, List.set_cons_succ]
                  refine wpAnyH_ready (rs := [5]) (by kernel_rfl) (by simp) ?_
                  refine AllReadyH.cons rfl (fun K hK => ?_) AllReadyH.nil
                  go_simp
                  have kd : Below W.heap.size W W.drew := drewN_below (Below.refl _ W) 1
                  refine (full_any (.slice bo n2 bc) by_ W.drew (IW.out.below kd) HNIL.out HBY.out).mono ?_
                  rintro e w5 ⟨v5, rfl, o5, k5⟩
                  have k5' : Below W.heap.size W w5 := kd.trans k5
                  have B5 := BW.below k5' BW.lt
                  refine hK.out _ _ ⟨B5.cell 1, B5.cell 2⟩ (fun _ => ?_)
                  clear hK K S0
                  refine wpAnyH_ready (rs := [6]) (by kernel_rfl) (by simp) ?_
                  refine AllReadyH.cons rfl (fun K hK => ?_) AllReadyH.nil
                  go_simp
                  obtain ⟨c', hc', hlc⟩ := M.idle_some s c at_ (M.full by_)
                  refine (ss.out.write2 D (kW.trans (k5'.mono kW.size)) at_ HAT.out (o5.mono kW.size) (show c.length < 1000000 by have := HK.out; omega)).mono ?_
                  rintro e w6 ⟨rfl, s6, hst⟩
                  have B6 : Blk w6 y 35 [.int .i64 0, .int .i64 at_, .slice bo n2 bc, .slice ko n3 kc] := (hst y (by rw [HY.out]; exact Nat.le_refl _) B5.lt).trans B5
                  rw [hc'] at s6
                  have S6 := Lib.hid s6
                  have HC6 : Hid (c'.length ≤ k + 1) := by have := HK.out; rw [Hid]; omega
                  refine hK.out _ _ ⟨B6.cell 1, B6.cell 2⟩ (fun _ => ?_)
                  clear hK K hc' hlc s6 SW IW BW kW kd k5 k5' o5 ss IB hst B5 B6
                  refine wpAnyH_done (by kernel_rfl) ?_ _
                  go_wp2
                  go_roundw
                  case rel => exact ⟨k + 1, c', by have := HK.out; omega, by first | rw [g1] | rfl, HC6.out, S6⟩
                  case measure => have := HK.out; simp only [numOf, Int.toNat_natCast]; omega
                · have z1 : (kd == 0) = false := by simpa using hz
                  have SN : Hid (Solo Dk w (wz.alloc (.cells #[.int .i64 kd, .int .i64 at_, .slice bo n2 bc, .slice ko n3 kc] 35)) d (M.idle s c)) := ss.out.below D.lasts ((Below.refl _ _).alloc (Nat.le_refl _) _)
                  go_wp2
                  go_roundw
                  case rel => exact ⟨k + 1, c, by have := HK.out; omega, by first | rw [g1] | rfl, by have := HK.out; omega, SN⟩
                  case measure => have := HK.out; simp only [numOf]; omega
              · have a2 : ¬ (k : Int) < 60 := by omega
                go_wp2
                go_meet
                case rel => exact ⟨c, by rw [Hid]; omega, ss⟩
            · have a1 : ¬ (k : Int) < (q : Int) := by omega
              go_wp2
              go_meet
              case rel => exact ⟨c, by rw [Hid]; omega, ss⟩
        case rest =>
        obtain ⟨c, hcl, sc⟩ := hcut
        obtain ⟨w5, rfl⟩ : ∃ x, x = wc := ⟨_, rfl⟩
        clear S4
        have X5 := Lib.hid (sc.out.crash D (Below.refl _ _) (.slice none 0 0) [] (IsZ.nil _) (fun h => absurd rfl h) (show c.length < 1000000 by have := hcl.out; omega))
        rw [M.idle_crash, M.kept_nil] at X5
        clear sc hcl
        go_wp2_with fail
        refine X5.out.mono ?_
        rintro e w6 ⟨rfl, s6⟩
        have S6 := Lib.hid s6
        clear X5 s6
        go_wp2_with fail
        refine (S6.out.image D).mono ?_
        rintro e w7 ⟨⟨r7, rfl, o7⟩, s7, k7⟩
        rw [show (M.idle s []).image = img from HSI.out] at o7
        have S7 := Lib.hid s7
        have X7 := Lib.hid (requal_b r7 (.slice ia n ic) img img w7 o7.isB (HI.out.below s7.under))
        rw [decide_eq_true rfl] at X7
        clear s7 k7 o7 S6
        go_wp2_with fail
        refine X7.out.mono ?_
        rintro e w8 ⟨rfl, k8⟩
        have S8 := Lib.hid (S7.out.below D.lasts k8)
        clear X7 k8 S7
        go_upto_block 2 with fail
        go_cut [9] from 62 to 90 (fun i wx => ∃ c : List (Nat × List UInt8), Hid (c.length ≤ 60) ∧ Hid (Solo Dk w wx d (M.idle s c)))
        case first =>
          go_wp2
          go_loopw [9] (fun i wr => ∃ (k : Nat) (c : List (Nat × List UInt8)), k ≤ 60 ∧ i = .int .i64 (k : Int) ∧ c.length ≤ k ∧ Hid (Solo Dk w wr d (M.idle s c)))
            (fun i _ => 60 - numOf i)
          case atStart => exact ⟨0, [], by omega, rfl, by simp, S8⟩
          case round =>
            clear S8
            obtain ⟨wz, rfl⟩ : ∃ x, x = wr := ⟨_, rfl⟩
            obtain ⟨k, c, hk, rfl, hc, ss⟩ := hrel
            by_cases hlt : k < q
            · have a1 : (k : Int) < (q : Int) := by omega
              by_cases h6 : k < 60
              · have a2 : (k : Int) < 60 := by omega
                obtain ⟨b, off, rfl, st⟩ := HST.out k hlt
                have hsmk := M.small_get HSM.out k (by rw [← HQ.out]; exact hlt) h6
                have kz := ss.out.under
                have hbw : b < w.heap.size := by
                  obtain ⟨_, _, _, _, c0, _⟩ := st
                  exact World.block_lt_of_cell? w _ c0
                obtain ⟨bo, bc, ko, kc, c0, c1, c2, c3, ib, hnil, iz, wf0, wf1⟩ := st.below kz
                obtain ⟨a, ha⟩ : ∃ a, a = l.getD k M.Step.none := ⟨_, rfl⟩
                rw [← ha] at hsmk c0 c1 c2 c3 ib iz wf0 wf1
                obtain ⟨kd, hkd⟩ : ∃ x, x = a.kind := ⟨_, rfl⟩
                obtain ⟨at_, hat⟩ : ∃ x, x = a.at_ := ⟨_, rfl⟩
                obtain ⟨by_, hby⟩ : ∃ x, x = a.bytes := ⟨_, rfl⟩
                obtain ⟨n2, hn2⟩ : ∃ x, x = by_.length := ⟨_, rfl⟩
                rw [← hkd] at c0
                rw [← hat] at c1 wf1
                rw [← hby] at c2 ib hsmk
                rw [← hn2] at c2 ib
                have HAT : Hid (-9223372036854775808 ≤ at_ ∧ at_ < 9223372036854775808) := in_i64 wf1
                have HBY : Hid (by_.length ≤ 1000) := hsmk.1
                have IB := Lib.hid ib
                have HNIL : Hid (∀ n c, Value.slice bo n2 bc = .slice none n c → c = 0) := fun n c e => by
                  injection e with e1 e2 e3
                  rw [← e3]
                  exact hnil e1
                have HK : Hid (k < 60 ∧ c.length ≤ k) := ⟨h6, hc⟩
                have g2 : (0 : Int) ≤ (k : Int) := Int.natCast_nonneg k
                have g3 : ((k : Int)).toNat = k := Int.toNat_natCast k
                have g1 : wrap64 ((k : Int) + 1) = ((k + 1 : Nat) : Int) := wrap_next (by omega)
                have HBW := Lib.hid hbw
                clear st kz hsmk wf0 wf1 ib hnil iz hlt h6 hk hc ha hkd hat hby hn2 hbw
                by_cases hz : kd = 0
                · subst hz
                  go_upto_region 21 with fail
                  refine wp_region_any (by kernel_rfl) ?_
                  change wpAny _ _ _ _ _ _ _ (World.drew _)
                  refine wpAny_of_held (S := fun w' => w'.cell? ⟨b, off + k * 4 + 1, none⟩ = some (.int .i64 at_) ∧ w'.cell? ⟨b, off + k * 4 + 2, none⟩ = some (.slice bo n2 bc)) _ _ _ _ ?_
                  have S0 : wz.drew.cell? ⟨b, off + k * 4 + 1, none⟩ = some (.int .i64 at_) ∧ wz.drew.cell? ⟨b, off + k * 4 + 2, none⟩ = some (.slice bo n2 bc) := ⟨c1, c2⟩
                  refine wpAnyH_take_at (i := 0) (v := .pointer (some ⟨d, 0, none⟩)) rfl rfl (by kernel_rfl) (by kernel_rfl) (by kernel_rfl) (fun _ _ _ h => h) (Or.inl ⟨by rfl, fun w hS => by go_simp⟩) S0 ?_
                  simp only [List.setIfInBounds_toArray, List.set_cons_zero, List.set_cons_succ]
                  refine wpAnyH_take_at (i := 1) (v := .slice (some ⟨b, off, none⟩) q lc) rfl rfl (by kernel_rfl) (by kernel_rfl) (by kernel_rfl) (fun _ _ _ h => h) (Or.inl ⟨by rfl, fun w hS => by go_simp⟩) S0 ?_
                  simp only [List.setIfInBounds_toArray, List.set_cons_zero, List.set_cons_succ]
                  refine wpAnyH_take_at (i := 2) (v := .int .i64 (k : Int)) rfl rfl (by kernel_rfl) (by kernel_rfl) (by kernel_rfl) (fun _ _ _ h => h) (Or.inl ⟨by rfl, fun w hS => by go_simp⟩) S0 ?_
                  simp only [List.setIfInBounds_toArray, List.set_cons_zero, List.set_cons_succ]
                  refine wpAnyH_take_at (i := 3) (v := .pointer (some ⟨b, off + k * 4, none⟩)) rfl rfl (by kernel_rfl) (by kernel_rfl) (by kernel_rfl) (fun _ _ _ h => h) (Or.inl ⟨by rfl, fun w hS => by go_simp⟩) S0 ?_
                  simp only [List.setIfInBounds_toArray, List.set_cons_zero, List.set_cons_succ]
                  refine wpAnyH_take_at (i := 4) (v := .pointer (some ⟨b, off + k * 4 + 1, none⟩)) rfl rfl (by kernel_rfl) (by kernel_rfl) (by kernel_rfl) (fun _ _ _ h => h) (Or.inl ⟨by rfl, fun w hS => by go_simp⟩) S0 ?_
                  simp only [List.setIfInBounds_toArray, List.set_cons_zero, List.set_cons_succ]
                  refine wpAnyH_take_at (i := 5) (v := .int .i64 at_) rfl rfl (by kernel_rfl) (by kernel_rfl) (by kernel_rfl) (fun _ _ _ h => h) (Or.inl ⟨by rfl, fun w hS => by have c := hS.1; go_simp⟩) S0 ?_
                  simp only [List.setIfInBounds_toArray, List.set_cons_zero, List.set_cons_succ]
                  refine wpAnyH_take_at (i := 6) (v := .slice (some ⟨b, off, none⟩) q lc) rfl rfl (by kernel_rfl) (by kernel_rfl) (by kernel_rfl) (fun _ _ _ h => h) (Or.inl ⟨by rfl, fun w hS => by go_simp⟩) S0 ?_
                  simp only [List.setIfInBounds_toArray, List.set_cons_zero, List.set_cons_succ]
                  refine wpAnyH_take_at (i := 7) (v := .int .i64 (k : Int)) rfl rfl (by kernel_rfl) (by kernel_rfl) (by kernel_rfl) (fun _ _ _ h => h) (Or.inl ⟨by rfl, fun w hS => by go_simp⟩) S0 ?_
                  simp only [List.setIfInBounds_toArray, List.set_cons_zero, List.set_cons_succ]
                  refine wpAnyH_take_at (i := 8) (v := .pointer (some ⟨b, off + k * 4, none⟩)) rfl rfl (by kernel_rfl) (by kernel_rfl) (by kernel_rfl) (fun _ _ _ h => h) (Or.inl ⟨by rfl, fun w hS => by go_simp⟩) S0 ?_
                  simp only [List.setIfInBounds_toArray, List.set_cons_zero, List.set_cons_succ]
                  refine wpAnyH_take_at (i := 9) (v := .pointer (some ⟨b, off + k * 4 + 2, none⟩)) rfl rfl (by kernel_rfl) (by kernel_rfl) (by kernel_rfl) (fun _ _ _ h => h) (Or.inl ⟨by rfl, fun w hS => by go_simp⟩) S0 ?_
                  simp only [List.setIfInBounds_toArray, List.set_cons_zero, List.set_cons_succ]
                  refine wpAnyH_take_at (i := 10) (v := .slice bo n2 bc) rfl rfl (by kernel_rfl) (by kernel_rfl) (by kernel_rfl) (fun _ _ _ h => h) (Or.inl ⟨by rfl, fun w hS => by have c := hS.2; go_simp⟩) S0 ?_
                  simp only [List.setIfInBounds_toArray, List.set_cons_zero, List.set_cons_succ]
                  refine wpAnyH_ready (rs := [11]) (by kernel_rfl) (by simp) ?_
                  refine AllReadyH.cons rfl (fun K hK => ?_) AllReadyH.nil
                  go_simp
                  have kd : Below wz.heap.size wz wz.drew := drewN_below (Below.refl _ wz) 1
                  refine (full_any (.slice bo n2 bc) by_ wz.drew (IB.out.below kd) HNIL.out HBY.out).mono ?_
                  rintro e w5 ⟨v5, rfl, o5, k5⟩
                  have k5' : Below wz.heap.size wz w5 := kd.trans k5
                  have hbz : b < wz.heap.size := Nat.lt_of_lt_of_le HBW.out ss.out.under.size
                  refine hK.out _ _ ⟨(k5'.cell (p := ⟨b, off + k * 4 + 1, none⟩) hbz).trans c1, (k5'.cell (p := ⟨b, off + k * 4 + 2, none⟩) hbz).trans c2⟩ (fun _ => ?_)
                  clear hK K S0
                  refine wpAnyH_ready (rs := [12]) (by kernel_rfl) (by simp) ?_
                  refine AllReadyH.cons rfl (fun K hK => ?_) AllReadyH.nil
                  go_simp
                  obtain ⟨c', hc', hlc⟩ := M.idle_some s c at_ (M.full by_)
                  refine (ss.out.write D k5' at_ HAT.out o5 (show c.length < 1000000 by have := HK.out; omega)).mono ?_
                  rintro e w6 ⟨rfl, s6⟩
                  rw [hc'] at s6
                  have S6 := Lib.hid s6
                  have HC6 : Hid (c'.length ≤ k + 1) := by have := HK.out; rw [Hid]; omega
                  have hh : ∀ j, w6.cell? ⟨b, j, none⟩ = wz.cell? ⟨b, j, none⟩ := fun j => by
                    rw [s6.under.cell (p := ⟨b, j, none⟩) HBW.out, ss.out.under.cell (p := ⟨b, j, none⟩) HBW.out]
                  refine hK.out _ _ ⟨(hh _).trans c1, (hh _).trans c2⟩ (fun _ => ?_)
                  clear hK K hc' hlc s6 kd k5 k5' o5 ss IB hh hbz c0 c1 c2 c3
                  refine wpAnyH_done (by kernel_rfl) ?_ _
                  go_wp2
                  go_roundw
                  case rel => exact ⟨k + 1, c', by have := HK.out; omega, by first | rw [g1] | rfl, HC6.out, S6⟩
                  case measure => have := HK.out; simp only [numOf, Int.toNat_natCast]; omega
                · have z1 : (kd == 0) = false := by simpa using hz
                  go_wp2
                  go_roundw
                  case rel => exact ⟨k + 1, c, by have := HK.out; omega, by first | rw [g1] | rfl, by have := HK.out; omega, ss⟩
                  case measure => have := HK.out; simp only [numOf]; omega
              · have a2 : ¬ (k : Int) < 60 := by omega
                go_wp2
                go_meet
                case rel => exact ⟨c, by rw [Hid]; omega, ss⟩
            · have a1 : ¬ (k : Int) < (q : Int) := by omega
              go_wp2
              go_meet
              case rel => exact ⟨c, by rw [Hid]; omega, ss⟩
        case rest =>
        obtain ⟨c, hcl, sc⟩ := hcut
        obtain ⟨w9, rfl⟩ : ∃ x, x = wc := ⟨_, rfl⟩
        clear S8
        have HOC := Lib.hid (sc.out.okay D.lasts)
        obtain ⟨N, hN⟩ : ∃ N, Hid (N = s.length) := ⟨_, rfl⟩
        obtain ⟨L, hL⟩ : ∃ L, Hid (L = M.laid s c) := ⟨_, rfl⟩
        have HLL : Hid (L.length = N) := by rw [Hid, hL.out, M.laid_len, hN.out]
        have HF : Hid (N ≤ 2176) := by rw [Hid, hN.out]; exact HOC.out.few
        have HRD : Hid (∀ j, j < N → (M.idle s c).doRead (j : Int) = (L.getD j [], 0) ∧ (L.getD j []).length = 256) := by
          intro j hj
          have hj' : j < s.length := by rw [← hN.out]; exact hj
          have hok : 0 ≤ (j : Int) ∧ (j : Int) < ((M.idle s c).safe.length : Int) := ⟨by omega, by show (j : Int) < (s.length : Int); omega⟩
          rw [M.Dsk.doRead, if_pos hok, Int.toNat_natCast, hL.out, M.laid_get j c s hj']
          refine ⟨rfl, M.seen_length j c _ ?_ fun x hx => (HOC.out.wat x hx).2⟩
          rw [List.getD_eq_getElem?_getD, List.getElem?_eq_getElem hj']
          exact HOS.out.full _ (List.getElem_mem hj')
        have HLF : Hid (∀ j, j ≤ N → (L.take j).flatten.length = 256 * j) := by
          intro j hj
          rw [flat_length _ (fun b hb => ?_), List.length_take, HLL.out, Nat.min_eq_left hj]
          obtain ⟨i, hi, rfl⟩ := List.mem_take_iff_getElem.1 hb
          have hi2 : i < N := by have := HLL.out; omega
          have := (HRD.out i hi2).2
          rw [List.getD_eq_getElem?_getD, List.getElem?_eq_getElem (by rw [HLL.out]; exact hi2)] at this
          exact this
        have HSB : Hid (((M.idle s c).safe.length : Int) = (N : Int)) := by rw [Hid, hN.out]; rfl
        go_wp2
        go_loopw [10, 11] (fun v i wr => ∃ j : Nat, j ≤ N ∧ i = .int .i64 (j : Int) ∧ Hid (Own wr w9.heap.size v (L.take j).flatten) ∧ Hid (Below w9.heap.size w9 wr))
          (fun _ i _ => N - numOf i)
        case atStart => exact ⟨0, by omega, rfl, World.ownsRow_nil _ _ _ _, Below.refl _ _⟩
        case round =>
          obtain ⟨wz, rfl⟩ : ∃ x, x = wr := ⟨_, rfl⟩
          obtain ⟨j, hj, rfl, oo, kk⟩ := hrel
          have SZ := Lib.hid (sc.out.below D.lasts kk.out)
          have XB := Lib.hid (SZ.out.blocks D)
          rw [HSB.out] at XB
          go_wp2_with fail
          refine XB.out.mono ?_
          rintro e w10 ⟨rfl, s10, k10⟩
          have S10 := Lib.hid s10
          have K10 : Hid (Below w9.heap.size w9 w10) := kk.out.trans (k10.mono kk.out.size)
          have O10 := Lib.hid (oo.out.below k10)
          clear XB SZ s10 k10 oo kk
          by_cases hlt : j < N
          · have a1 : (j : Int) < (N : Int) := by omega
            have HJ := Lib.hid hlt
            have XR := Lib.hid (S10.out.read D (show c.length < 1000000 by have := hcl.out; omega) (j : Int) (by have := HF.out; omega))
            rw [(HRD.out j hlt).1] at XR
            have HR256 := Lib.hid (HRD.out j hlt).2
            have HTK : Hid ((L.take j).flatten ++ L.getD j [] = (L.take (j + 1)).flatten) := (flat_take _ _ (by rw [HLL.out]; exact hlt)).symm
            have HLN : Hid ((L.take j).flatten.length + (L.getD j []).length ≤ 140737488355328) := by rw [Hid, HLF.out j hj, HR256.out]; have := HF.out; omega
            have g1 : wrap64 ((j : Int) + 1) = ((j + 1 : Nat) : Int) := wrap_next (by have := HF.out; omega)
            obtain ⟨x, hx⟩ : ∃ x, x = L.getD j [] := ⟨_, rfl⟩
            rw [← hx] at XR HTK HLN
            clear hlt hj hx HR256
            go_wp2_with fail
            refine XR.out.mono ?_
            rintro e w11 ⟨⟨r11, rfl, i11, n11⟩, s11, k11⟩
            have I11 := Lib.hid i11
            have N11 := Lib.hid n11
            have K11 : Hid (Below w9.heap.size w9 w11) := K10.out.trans (k11.mono K10.out.size)
            have O11 := Lib.hid (O10.out.below k11)
            clear XR S10 O10 K10 i11 n11 s11 k11
            go_wp2_with (at_builtin; go_must (refine wpList_app _ rfl _ _ rfl w9.heap.size _ (L.take j).flatten rfl O11.out _ x rfl I11.out N11.out HLN.out K11.out.size ?_))
            intro v1 w12 o1 k1 _
            rw [HTK.out] at o1
            have O1 := Lib.hid o1
            have K1 : Hid (Below w9.heap.size w9 w12) := K11.out.trans k1
            clear o1 k1 O11 K11 I11 N11 HTK HLN
            go_wp2
            go_roundw
            case rel => exact ⟨j + 1, by have := HJ.out; omega, by first | rw [g1] | rfl, O1, K1⟩
            case measure => have := HJ.out; simp only [numOf, Int.toNat_natCast]; omega
          · obtain rfl : j = N := by omega
            have a1 : ¬ (j : Int) < (j : Int) := by omega
            have e1 : (L.take j).flatten = L.flatten := by rw [← HLL.out, List.take_length]
            have SR := Lib.hid (sc.out.with D.lasts K10.out O10.out)
            rw [e1] at SR
            have XS := Lib.hid (SR.out.op (m' := (M.idle s c).doSync.1) D.lasts (fun T d _ => D.sync d (show c.length < 1000000 by have := hcl.out; omega)))
            rw [M.idle_sync, ← hL.out] at XS
            clear hlt hj e1 S10 O10 K10
            go_wp2_with fail
            refine XS.out.mono ?_
            rintro e w11 ⟨rfl, s11⟩
            have S11 := Lib.hid s11
            clear XS SR s11
            go_wp2_with fail
            refine (S11.out.see D.lasts (R := fun e w' => ∃ r, e = .returned r ∧ Own w' w11.heap.size r (M.idle L []).image) (fun T d => (D.image d).mono fun e w' ⟨r, he, ho, k⟩ => ⟨⟨r, he, ho⟩, k⟩)).mono ?_
            rintro e w12 ⟨⟨r12, rfl, o12⟩, s12, k12⟩
            have o12' : Own w12 w11.heap.size r12 L.flatten := o12
            have S12 := Lib.hid s12
            have X12 := Lib.hid (requal_b r12 _ L.flatten L.flatten w12 o12'.isB s12.row)
            rw [decide_eq_true rfl] at X12
            clear s12 k12 o12 o12' S11
            go_wp2_with fail
            refine X12.out.mono ?_
            rintro e w13 ⟨rfl, k13⟩
            have S13 := Lib.hid (S12.out.below D.lasts k13)
            clear X12 k13 S12
            go_wp2_with fail
            refine (S13.out.see D.lasts (fun T d => D.waiting d)).mono ?_
            rintro e w14 ⟨rfl, s14, k14⟩
            have S14 := Lib.hid s14
            have HW0 : Hid (((M.idle L []).wait.length : Int) = 0) := rfl
            rw [HW0.out]
            clear s14 k14 S13
            have XC := Lib.hid (S14.out.op (m' := M.idle L []) D.lasts (fun T d _ => D.crash d (.slice none 0 0) [] (IsZ.nil _) (fun h => absurd rfl h) (show 0 < 1000000 by decide)))
            go_wp2_with fail
            refine XC.out.mono ?_
            rintro e w15 ⟨rfl, s15⟩
            have S15 := Lib.hid s15
            clear XC s15 S14
            go_wp2_with fail
            refine (S15.out.see D.lasts (R := fun e w' => ∃ r, e = .returned r ∧ Own w' w15.heap.size r (M.idle L []).image) (fun T d => (D.image d).mono fun e w' ⟨r, he, ho, k⟩ => ⟨⟨r, he, ho⟩, k⟩)).mono ?_
            rintro e w16 ⟨⟨r16, rfl, o16⟩, s16, k16⟩
            have o16' : Own w16 w15.heap.size r16 L.flatten := o16
            have S16 := Lib.hid s16
            have X16 := Lib.hid (requal_b r16 _ L.flatten L.flatten w16 o16'.isB s16.row)
            rw [decide_eq_true rfl] at X16
            clear s16 k16 o16 o16' S15
            go_wp2_with fail
            refine X16.out.mono ?_
            rintro e w17 ⟨rfl, k17⟩
            have K17 := (S16.out.below D.lasts k17).under
            clear X16 k17 S16
            go_wp2
            go_ret
            exact ⟨rfl, K17⟩
      · have X3 := Lib.hid (D.load_no (w := w3) (HI.out.below K3.out) (fun h => h3 (by rw [HN.out]; exact h.1)))
        clear h3
        go_wp2_with fail
        refine X3.out.mono ?_
        rintro e w4 ⟨rfl, k4⟩
        have K4 := K3.out.trans (k4.mono K3.out.size)
        clear X3 k4
        go_wp2
        go_ret
        exact ⟨rfl, K4⟩
    · rw [Bool.not_eq_true] at hsm
      rw [hsm] at X2
      go_wp2_with fail
      refine X2.out.mono ?_
      rintro e w3 ⟨rfl, k3⟩
      have K3 := K2.out.trans (k3.mono K2.out.size)
      clear X2 k3
      go_wp2
      go_ret
      exact ⟨rfl, K3⟩
  · have b1 : (3072 : Int) < (n : Int) := by omega
    clear h1
    go_wp2
    go_ret
    exact ⟨rfl, K2.out⟩

end Go.Proofs.Ythmamdlhgfkckaa
