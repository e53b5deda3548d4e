/-
  orloplaw09.DiskEnds, under DiskOk: it returns true. Conditions: DiskOk (proved of the code elsewhere).
-/
import Derived.Test.YthmamdlhgfkckaaDiskRow
import Derived.Test.YthmamdlhgfkckaaDiskA
import Derived.Test.YthmamdlhgfkckaaLawLaterWalk
import Derived.Deep.CutBlock
import Derived.Deep.DeepCutAuto
namespace Go.Proofs.Ythmamdlhgfkckaa
open Go.RowKit
set_option linter.unusedVariables false

namespace M
theorem armed_write (s : List (List UInt8)) (c : List (Nat × List UInt8)) (l i : Nat) (b : List UInt8) (hi : i < s.length) (hb : b.length = 256) : (⟨s, c, l + 2, false⟩ : Dsk).doWrite (i : Int) b = (⟨s, c ++ [(i, b)], l + 1, false⟩, 0) := by
  have hok : 0 ≤ (i : Int) ∧ (i : Int) < ((⟨s, c, l + 2, false⟩ : Dsk).safe.length : Int) ∧ b.length = 256 := by
    refine ⟨by omega, ?_, hb⟩
    show (i : Int) < (s.length : Int)
    omega
  rw [Dsk.doWrite, if_pos hok, if_neg (show ¬ (⟨s, c, l + 2, false⟩ : Dsk).down = true from Bool.false_ne_true), Int.toNat_natCast, Dsk.write, Dsk.goes, if_neg (show ¬ l + 2 = 0 by omega), if_neg (show ¬ l + 2 = 1 by omega)]
  rfl

theorem gone_write (s : List (List UInt8)) (c : List (Nat × List UInt8)) (i : Nat) (b : List UInt8) (hi : i < s.length) (hb : b.length = 256) : (⟨s, c, 0, true⟩ : Dsk).doWrite (i : Int) b = (⟨s, c, 0, true⟩, 11) := by
  have hok : 0 ≤ (i : Int) ∧ (i : Int) < ((⟨s, c, 0, true⟩ : Dsk).safe.length : Int) ∧ b.length = 256 := by
    refine ⟨by omega, ?_, hb⟩
    show (i : Int) < (s.length : Int)
    omega
  rw [Dsk.doWrite, if_pos hok, if_pos (show (⟨s, c, 0, true⟩ : Dsk).down = true from rfl)]
end M

set_option maxRecDepth 100000 in
set_option maxHeartbeats 8000000 in
theorem dends_walk {Dk : (Nat → Prop) → World → Nat → M.Dsk → Prop} (D : DiskOk Dk) (w : World) (n : Int) (hn : (Lit.int .i64 n).wf = true) (a : Nat) (ha : a < 256) :
    Calls Try.prog 5 #[.int .i64 n, .int .u8 (a : Int)] w fun e w' => e = .returned (.bool true) ∧ Below w.heap.size w w' := by
  have HN := Lib.hid (in_i64 hn)
  obtain ⟨W, hW⟩ : ∃ W, W = min n.toNat 2176 := ⟨_, rfl⟩
  obtain ⟨S, hS⟩ : ∃ S, Hid (S = List.replicate W M.zero256) := ⟨_, rfl⟩
  have HSL : Hid (S.length = W) := by rw [Hid, hS.out, List.length_replicate]
  have HD : Hid (M.dnew n.toNat = M.idle S []) := by rw [Hid, M.dnew, ← hW, hS.out]; rfl
  have HW : Hid (W ≤ 2176) := by rw [Hid]; omega
  have HZ : Hid (S.flatten = List.replicate (256 * W) 0) := by rw [Hid, hS.out, M.zero256, List.flatten_replicate_replicate, Nat.mul_comm]
  obtain ⟨v, hv⟩ : ∃ v : Int, v = if n < 0 then 0 else n := ⟨_, rfl⟩
  have m2 : (if 2176 < v then (2176 : Int) else v) = (W : Int) := by
    rw [hv]
    split <;> split at * <;> omega
  have m1 : (if n < 0 then (0 : Int) else n) = v := hv.symm
  obtain ⟨l, hl⟩ : ∃ l, l = 256 * W := ⟨_, rfl⟩
  have HLL : Hid (l = 256 * W) := hl
  clear hn hW hv hl
  go_enter Try.func5, Try.ntmps5
  go_wp2_with fail
  refine (diskAwake_any D w).mono ?_
  rintro e w2 ⟨rfl, k2⟩
  have K2 := Lib.hid k2
  clear k2
  have X2 := Lib.hid (solo_new (w := w2) D n HN.out K2.out)
  rw [HD.out] at X2
  go_wp2_with fail
  refine X2.out.mono ?_
  rintro e w3 ⟨d, rfl, s3⟩
  have S3 := Lib.hid s3
  clear X2 s3
  go_upto_region 5 with fail
  have t5 : wrap64 (256 * (W : Int)) = (l : Int) := by rw [HLL.out]; have := HW.out; unfold wrap64; omega
  have XB := Lib.hid (S3.out.blocks D)
  have HSB : Hid (((M.idle S []).safe.length : Int) = (W : Int)) := by rw [Hid]; exact congrArg Int.ofNat HSL.out
  rw [HSB.out] at XB
  go_wp2_with fail
  refine XB.out.mono ?_
  rintro e w4 ⟨rfl, s4, k4⟩
  have S4 := Lib.hid s4
  clear XB S3 s4 k4 m1 m2
  have hIL : (M.idle S []).image.length = l := by show S.flatten.length = l; rw [HZ.out, List.length_replicate, HLL.out]
  go_wp2_with fail
  refine (S4.out.image D).mono ?_
  rintro e w5 ⟨⟨r5, rfl, o5⟩, s5, k5⟩
  have S5 := Lib.hid s5
  obtain ⟨a5, c5, e5⟩ := o5.shape'
  rw [hIL] at e5
  subst e5
  clear S4 o5 s5 k5 hIL
  by_cases hw0 : W = 0
  · subst hw0
    have hS0 : S = [] := List.eq_nil_of_length_eq_zero HSL.out
    subst hS0
    have hl0 : l = 0 := HLL.out
    subst hl0
    go_wp2_with fail
    refine (full_any _ [] w5 (IsB.nil w5) (by intro n c e; cases e; rfl) (by decide)).mono ?_
    rintro e w6 ⟨v6, rfl, o6, k6⟩
    have X6 := Lib.hid (S5.out.write D k6 0 (by decide) o6 (by decide))
    rw [M.idle_write_no [] [] 0 _ (by simp)] at X6
    clear o6 k6 S5
    go_wp2_with fail
    refine X6.out.mono ?_
    rintro e w7 ⟨rfl, s7⟩
    have X7 := Lib.hid (s7.sync D (by decide))
    rw [M.idle_sync] at X7
    clear X6 s7
    go_wp2_with fail
    refine X7.out.mono ?_
    rintro e w8 ⟨rfl, s8⟩
    have K8 := s8.under
    clear X7 s8
    go_wp2
    go_ret
    exact ⟨rfl, K8⟩
  · have w0 : ¬ (W : Int) = 0 := by omega
    have w1 : ((W : Int) == 0) = false := by simpa using w0
    have w2' : ¬ W = 0 := hw0
    have HWP : Hid (0 < W) := by rw [Hid]; omega
    obtain ⟨r, hr⟩ : ∃ r, r = a % 40 := ⟨_, rfl⟩
    obtain ⟨k, hk⟩ : ∃ k, k = r + 1 := ⟨_, rfl⟩
    have HK : Hid (k = r + 1) := hk
    have HR : Hid (r < 40) := by rw [Hid]; omega
    have q1 : (a : Int).tmod 40 = (r : Int) := by rw [Int.tmod_eq_emod_of_nonneg (by omega)]; omega
    have q1' : (a : Int) % 40 = (r : Int) := by omega
    have q2 : wrap64 (1 + (r : Int)) = (k : Int) := by unfold wrap64; omega
    have q3 : (1 : Int) + (r : Int) = (k : Int) := by omega
    have XA := Lib.hid (S5.out.arm D (k : Int) (by omega))
    have ea : (M.idle S []).arm (k : Int) = ⟨S, [], r + 1, false⟩ := by rw [M.Dsk.arm, Int.toNat_natCast, hk]; rfl
    rw [ea] at XA
    clear S5 hw0 hr hk ea
    go_wp2_with fail
    refine XA.out.mono ?_
    rintro e w6 ⟨rfl, s6⟩
    have S6 := Lib.hid s6
    clear XA s6 q1 q1' q2 q3 t5
    go_wp2
    go_loopw [8] (fun i wr => ∃ (t : Nat) (c : List (Nat × List UInt8)), t ≤ r ∧ i = .int .i64 ((t + 1 : Nat) : Int) ∧ c.length = t ∧ Hid (Solo Dk w wr d ⟨S, c, r + 1 - t, false⟩))
      (fun i _ => 50 - numOf i)
    case atStart => exact ⟨0, [], by omega, rfl, rfl, S6⟩
    case round =>
      clear S6
      obtain ⟨wz, rfl⟩ : ∃ x, x = wr := ⟨_, rfl⟩
      obtain ⟨t, c, ht, rfl, hc, ss⟩ := hrel
      by_cases hlt : t < r
      · have a1 : ((t + 1 : Nat) : Int) < (k : Int) := by have := HK.out; omega
        obtain ⟨p, hp⟩ : ∃ p, p = (t + 1) % W := ⟨_, rfl⟩
        have HP : Hid (p < W) := by rw [Hid, hp]; exact Nat.mod_lt _ HWP.out
        have p1 : (((t + 1 : Nat) : Int)).tmod (W : Int) = (p : Int) := by rw [Int.tmod_eq_emod_of_nonneg (by omega), hp]; rfl
        have p1' : (((t + 1 : Nat) : Int)) % (W : Int) = (p : Int) := by rw [hp]; rfl
        have HT : Hid (t < r) := hlt
        have g1 : wrap64 (((t + 1 : Nat) : Int) + 1) = ((t + 1 + 1 : Nat) : Int) := wrap_next (by have := HR.out; omega)
        obtain ⟨y, hy⟩ : ∃ y, y = t + 1 := ⟨_, rfl⟩
        rw [← hy] at a1 p1 p1' g1 ⊢
        have HY : Hid (y = t + 1) := hy
        have HC : Hid (c.length = t) := hc
        have EL : Hid (r + 1 - t = (r - t - 1) + 2) := by rw [Hid]; omega
        have EL2 : Hid ((r - t - 1) + 1 = r + 1 - (t + 1)) := by rw [Hid]; omega
        have HSW : Hid (Solo Dk w wz d ⟨S, c, (r - t - 1) + 2, false⟩) := by rw [Hid, ← EL.out]; exact ss.out
        clear hp hlt ht hc hy ss
        go_upto_region 14 with fail
        refine wp_region_any (by kernel_rfl) ?_
        change wpAny _ _ _ _ _ _ _ (World.drew _)
        refine wpAny_of_held (S := fun _ => True) _ _ _ _ ?_
        refine wpAnyH_take_at (i := 0) (v := .pointer (some ⟨d, 0, none⟩)) rfl rfl (by kernel_rfl) (by kernel_rfl) (by kernel_rfl) (fun _ _ _ h => h) (Or.inl ⟨by rfl, fun w hS => by go_simp⟩) trivial ?_
        simp only [List.setIfInBounds_toArray, List.set_cons_zero, List.set_cons_succ]
        refine wpAnyH_take_at (i := 1) (v := .int .i64 (y : Int)) rfl rfl (by kernel_rfl) (by kernel_rfl) (by kernel_rfl) (fun _ _ _ h => h) (Or.inl ⟨by rfl, fun w hS => by go_simp⟩) trivial ?_
        simp only [List.setIfInBounds_toArray, List.set_cons_zero, List.set_cons_succ]
        refine wpAnyH_take_at (i := 2) (v := .int .i64 (W : Int)) rfl rfl (by kernel_rfl) (by kernel_rfl) (by kernel_rfl) (fun _ _ _ h => h) (Or.inl ⟨by rfl, fun w hS => by go_simp⟩) trivial ?_
        simp only [List.setIfInBounds_toArray, List.set_cons_zero, List.set_cons_succ]
        refine wpAnyH_take_at (i := 3) (v := .int .i64 (p : Int)) rfl rfl (by kernel_rfl) (by kernel_rfl) (by kernel_rfl) (fun _ _ _ h => h) (Or.inl ⟨by rfl, fun w hS => by go_simp⟩) trivial ?_
        simp only [List.setIfInBounds_toArray, List.set_cons_zero, List.set_cons_succ]
        refine wpAnyH_ready (rs := [4]) (by kernel_rfl) (by simp) ?_
        refine AllReadyH.cons rfl (fun K hK => ?_) AllReadyH.nil
        go_simp
        refine hK.out _ _ trivial (fun _ => ?_)
        clear hK K
        refine wpAnyH_ready (rs := [5]) (by kernel_rfl) (by simp) ?_
        refine AllReadyH.cons rfl (fun K hK => ?_) AllReadyH.nil
        go_simp
        have kd : Below wz.heap.size wz wz.drew := drewN_below (Below.refl _ wz) 1
        refine (full_one wz.drew 1).mono ?_
        rintro e w7 ⟨v7, rfl, o7, k7⟩
        have k7' : Below wz.heap.size wz w7 := kd.trans k7
        have X7 := Lib.hid (HSW.out.write D k7' (p : Int) (by have := HP.out; have := HW.out; omega) o7 (show c.length < 1000000 by have := HC.out; have := HT.out; have := HR.out; omega))
        rw [M.armed_write S c (r - t - 1) p _ (by rw [HSL.out]; exact HP.out) (M.full_length _), EL2.out] at X7
        refine hK.out _ _ trivial (fun _ => ?_)
        clear hK K kd k7 k7' o7
        refine wpAnyH_ready (rs := [6]) (by kernel_rfl) (by simp) ?_
        refine AllReadyH.cons rfl (fun K hK => ?_) AllReadyH.nil
        go_simp
        refine X7.out.mono ?_
        rintro e w8 ⟨rfl, s8⟩
        have S8 := Lib.hid s8
        refine hK.out _ _ trivial (fun _ => ?_)
        clear hK K s8 X7 HSW
        refine wpAnyH_take_at (i := 7) (v := .bool false) rfl rfl (by kernel_rfl) (by kernel_rfl) (by kernel_rfl) (fun _ _ _ h => h) (Or.inl ⟨by rfl, fun w hS => by go_simp⟩) trivial ?_
        simp only [List.setIfInBounds_toArray, List.set_cons_zero, List.set_cons_succ]
        refine wpAnyH_take_at (i := 8) (v := .bool false) rfl rfl (by kernel_rfl) (by kernel_rfl) (by kernel_rfl) (fun _ _ _ h => h) (Or.inl ⟨by rfl, fun w hS => by go_simp⟩) trivial ?_
        simp only [List.setIfInBounds_toArray, List.set_cons_zero, List.set_cons_succ]
        refine wpAnyH_take_at (i := 9) (v := .pointer (some ⟨d, 0, none⟩)) rfl rfl (by kernel_rfl) (by kernel_rfl) (by kernel_rfl) (fun _ _ _ h => h) (Or.inl ⟨by rfl, fun w hS => by go_simp⟩) trivial ?_
        simp only [List.setIfInBounds_toArray, List.set_cons_zero, List.set_cons_succ]
        refine wpAnyH_ready (rs := [10]) (by kernel_rfl) (by simp) ?_
        refine AllReadyH.cons rfl (fun K hK => ?_) AllReadyH.nil
        go_simp
        refine (S8.out.down D).mono ?_
        rintro e w9 ⟨rfl, s9, k9⟩
        have S9 := Lib.hid s9
        refine hK.out _ _ trivial (fun _ => ?_)
        clear hK K s9 k9 S8
        refine wpAnyH_take_at (i := 11) (v := .bool false) rfl rfl (by kernel_rfl) (by kernel_rfl) (by kernel_rfl) (fun _ _ _ h => h) (Or.inl ⟨by rfl, fun w hS => by go_simp⟩) trivial ?_
        simp only [List.setIfInBounds_toArray, List.set_cons_zero, List.set_cons_succ]
        refine wpAnyH_done (by kernel_rfl) ?_ _
        have HY2 : Hid (y + 1 = t + 1 + 1) := by rw [Hid, HY.out]
        have HC2 : Hid ((c ++ [(p, M.full [1])]).length = t + 1) := by rw [Hid, List.length_append, HC.out]; rfl
        go_wp2
        go_roundw
        case rel => exact ⟨t + 1, _, HT.out, by first | rw [g1, HY2.out] | (rw [← HY2.out]; rfl), HC2.out, S9⟩
        case measure => rw [g1]; clear g1 p1 p1'; have := HT.out; have := HR.out; have := HY.out; simp only [numOf, Int.toNat_natCast]; omega
      · obtain rfl : t = r := by omega
        have a1 : ¬ ((t + 1 : Nat) : Int) < (k : Int) := by have := HK.out; omega
        have HC : Hid (c.length = t) := hc
        have HSW : Hid (Solo Dk w wz d ⟨S, c, 1, false⟩) := by have := ss.out; rwa [show t + 1 - t = 1 by omega] at this
        have HFEW : Hid (c.length < 1000000) := by rw [Hid, hc]; have := HR.out; omega
        have XS := Lib.hid (HSW.out.sync D HFEW.out)
        rw [show (⟨S, c, 1, false⟩ : M.Dsk).doSync = (⟨S, c, 0, true⟩, 11) from rfl] at XS
        have q4 : wrap64 ((k : Int) - 1) = (t : Int) := by have := HK.out; have := HR.out; unfold wrap64; omega
        clear hlt ht hc ss HSW
        go_wp2_with fail
        refine XS.out.mono ?_
        rintro e w7 ⟨rfl, s7⟩
        have S7 := Lib.hid s7
        clear XS s7
        go_wp2_with fail
        refine (S7.out.down D).mono ?_
        rintro e w8 ⟨rfl, s8, k8⟩
        have S8 := Lib.hid s8
        clear S7 s8 k8
        go_wp2_with fail
        refine (full_any _ [] w8 (IsB.nil w8) (by intro n c e; cases e; rfl) (by decide)).mono ?_
        rintro e w9 ⟨v9, rfl, o9, k9⟩
        have X9 := Lib.hid (S8.out.write D k9 0 (by decide) o9 HFEW.out)
        have e9 := M.gone_write S c 0 (M.full []) (by rw [HSL.out]; exact HWP.out) (M.full_length _)
        rw [show ((0 : Nat) : Int) = 0 from rfl] at e9
        rw [e9] at X9
        clear S8 o9 k9 e9
        go_wp2_with fail
        refine X9.out.mono ?_
        rintro e w10 ⟨rfl, s10⟩
        have X10 := Lib.hid (s10.sync D HFEW.out)
        rw [show (⟨S, c, 0, true⟩ : M.Dsk).doSync = (⟨S, c, 0, true⟩, 11) from rfl] at X10
        clear X9 s10
        go_wp2_with fail
        refine X10.out.mono ?_
        rintro e w11 ⟨rfl, s11⟩
        have X11 := Lib.hid (s11.waiting D)
        have HWC : Hid ((((⟨S, c, 0, true⟩ : M.Dsk).wait.length : Nat) : Int) = (t : Int)) := by rw [Hid]; exact congrArg Int.ofNat HC.out
        rw [HWC.out] at X11
        clear X10 s11
        go_wp2_with fail
        refine X11.out.mono ?_
        rintro e w12 ⟨rfl, s12, k12⟩
        have X12 := Lib.hid (s12.crash D (Below.refl _ _) (.slice none 0 0) [] (IsZ.nil _) (fun h => absurd rfl h) HFEW.out)
        have e12 : (⟨S, c, 0, true⟩ : M.Dsk).crash [] = M.idle S [] := by rw [M.Dsk.crash, M.kept_nil]; rfl
        rw [e12] at X12
        clear X11 s12 k12 e12
        go_wp2_with fail
        refine X12.out.mono ?_
        rintro e w13 ⟨rfl, s13⟩
        have S13 := Lib.hid s13
        clear X12 s13 q4
        go_upto_region 19 with fail
        obtain ⟨ZC, hZC⟩ := make_run l (by rw [HLL.out]; have := HW.out; omega)
        have hmk : ∀ w : World, (Instr.makeSlice 22 (.int .i64 (l : Int)) (.int .i64 (l : Int))).run Try.prog w = .ok (.slice (some ⟨w.heap.size, 0, none⟩) l l) (w.alloc (.cells ZC 5)) := fun w => (hZC w).1
        have HMK : Hid (∀ w : World, Own (w.alloc (.cells ZC 5)) w.heap.size (.slice (some ⟨w.heap.size, 0, none⟩) l l) S.flatten) := fun w => by rw [HZ.out, ← HLL.out]; exact (hZC w).2
        have t5 : wrap64 (256 * (W : Int)) = (l : Int) := by rw [HLL.out]; have := HW.out; unfold wrap64; omega
        have t6 : IntKind.i64.wrap (256 * (W : Int)) = (l : Int) := by rw [IntKind.wrap_i64, HLL.out]; have := HW.out; omega
        clear hZC
        refine wp_region_any (by kernel_rfl) ?_
        change wpAny _ _ _ _ _ _ _ (World.drew _)
        refine wpAny_of_held (S := fun _ => True) _ _ _ _ ?_
        have SD := Lib.hid (S13.out.below D.lasts (drewN_below (Below.refl _ w13) 1))
        clear S13
        refine wpAnyH_take_at (i := 0) (v := .pointer (some ⟨d, 0, none⟩)) rfl rfl (by kernel_rfl) (by kernel_rfl) (by kernel_rfl) (fun _ _ _ h => h) (Or.inl ⟨by rfl, fun w hS => by go_simp⟩) trivial ?_
        simp only [List.setIfInBounds_toArray, List.set_cons_zero, List.set_cons_succ]
        refine wpAnyH_ready (rs := [1]) (by kernel_rfl) (by simp) ?_
        refine AllReadyH.cons rfl (fun K hK => ?_) AllReadyH.nil
        go_simp
        have XD := Lib.hid (SD.out.down D)
        rw [show (M.idle S []).down = false from rfl] at XD
        refine XD.out.mono ?_
        rintro e w14 ⟨rfl, s14, k14⟩
        have S14 := Lib.hid s14
        refine hK.out _ _ trivial (fun _ => ?_)
        clear hK K s14 k14 SD XD
        refine wpAnyH_take_at (i := 2) (v := .bool true) rfl rfl (by kernel_rfl) (by kernel_rfl) (by kernel_rfl) (fun _ _ _ h => h) (Or.inl ⟨by rfl, fun w hS => by go_simp⟩) trivial ?_
        simp only [List.setIfInBounds_toArray, List.set_cons_zero, List.set_cons_succ]
        refine wpAnyH_take_at (i := 3) (v := .bool true) rfl rfl (by kernel_rfl) (by kernel_rfl) (by kernel_rfl) (fun _ _ _ h => h) (Or.inl ⟨by rfl, fun w hS => by go_simp⟩) trivial ?_
        simp only [List.setIfInBounds_toArray, List.set_cons_zero, List.set_cons_succ]
        refine wpAnyH_take_at (i := 4) (v := .pointer (some ⟨d, 0, none⟩)) rfl rfl (by kernel_rfl) (by kernel_rfl) (by kernel_rfl) (fun _ _ _ h => h) (Or.inl ⟨by rfl, fun w hS => by go_simp⟩) trivial ?_
        simp only [List.setIfInBounds_toArray, List.set_cons_zero, List.set_cons_succ]
        refine wpAnyH_ready (rs := [5]) (by kernel_rfl) (by simp) ?_
        refine AllReadyH.cons rfl (fun K hK => ?_) AllReadyH.nil
        go_simp
        have X15 := Lib.hid (S14.out.sync D (show 0 < 1000000 by decide))
        rw [M.idle_sync] at X15
        refine X15.out.mono ?_
        rintro e w15 ⟨rfl, s15⟩
        have S15 : Hid (Solo Dk w w15 d (M.idle S [])) := s15
        refine hK.out _ _ trivial (fun _ => ?_)
        clear hK K s15 X15 S14
        refine wpAnyH_take_at (i := 6) (v := .bool true) rfl rfl (by kernel_rfl) (by kernel_rfl) (by kernel_rfl) (fun _ _ _ h => h) (Or.inl ⟨by rfl, fun w hS => by go_simp⟩) trivial ?_
        simp only [List.setIfInBounds_toArray, List.set_cons_zero, List.set_cons_succ]
        refine wpAnyH_take_at (i := 7) (v := .bool true) rfl rfl (by kernel_rfl) (by kernel_rfl) (by kernel_rfl) (fun _ _ _ h => h) (Or.inl ⟨by rfl, fun w hS => by go_simp⟩) trivial ?_
        simp only [List.setIfInBounds_toArray, List.set_cons_zero, List.set_cons_succ]
        refine wpAnyH_take_at (i := 8) (v := .bool true) rfl rfl (by kernel_rfl) (by kernel_rfl) (by kernel_rfl) (fun _ _ _ h => h) (Or.inl ⟨by rfl, fun w hS => by go_simp⟩) trivial ?_
        simp only [List.setIfInBounds_toArray, List.set_cons_zero, List.set_cons_succ]
        refine wpAnyH_take_at (i := 9) (v := .pointer (some ⟨d, 0, none⟩)) rfl rfl (by kernel_rfl) (by kernel_rfl) (by kernel_rfl) (fun _ _ _ h => h) (Or.inl ⟨by rfl, fun w hS => by go_simp⟩) trivial ?_
        simp only [List.setIfInBounds_toArray, List.set_cons_zero, List.set_cons_succ]
        refine wpAnyH_take_at (i := 11) (v := .int .i64 (W : Int)) rfl rfl (by kernel_rfl) (by kernel_rfl) (by kernel_rfl) (fun _ _ _ h => h) (Or.inl ⟨by rfl, fun w hS => by go_simp⟩) trivial ?_
        simp only [List.setIfInBounds_toArray, List.set_cons_zero, List.set_cons_succ]
        refine wpAnyH_take_at (i := 12) (v := .int .i64 (l : Int)) rfl rfl (by kernel_rfl) (by kernel_rfl) (by kernel_rfl) (fun _ _ _ h => h) (Or.inl ⟨by rfl, fun w hS => by go_simp⟩) trivial ?_
        simp only [List.setIfInBounds_toArray, List.set_cons_zero, List.set_cons_succ]
        refine wpAnyH_ready (rs := [10, 13]) (by kernel_rfl) (by simp) ?_
        refine AllReadyH.cons rfl (fun K hK => ?_) (AllReadyH.cons rfl (fun K hK => ?_) AllReadyH.nil)
        · go_simp
          refine (S15.out.image D).mono ?_
          rintro e w16 ⟨⟨r16, rfl, o16⟩, s16, k16⟩
          have o16' : Own w16 w15.heap.size r16 S.flatten := o16
          refine hK.out _ _ trivial (fun _ => ?_)
          clear hK K
          refine wpAnyH_ready (rs := [13]) (by kernel_rfl) (by simp) ?_
          refine AllReadyH.cons rfl (fun K hK => ?_) AllReadyH.nil
          go_simp
          have kA : Below w16.heap.size w16 (w16.alloc (.cells ZC 5)) := (Below.refl _ _).alloc (Nat.le_refl _) _
          have SQ := Lib.hid (s16.below D.lasts kA)
          have XE := Lib.hid (requal_b r16 _ S.flatten S.flatten _ (o16'.isB.below kA) (HMK.out w16).isB)
          rw [decide_eq_true rfl] at XE
          refine hK.out _ _ trivial (fun _ => ?_)
          clear hK K kA s16 k16 o16 o16' S15
          refine wpAnyH_ready (rs := [14]) (by kernel_rfl) (by simp) ?_
          refine AllReadyH.cons rfl (fun K hK => ?_) AllReadyH.nil
          go_simp
          refine XE.out.mono ?_
          rintro e wE ⟨rfl, kE⟩
          have SE := Lib.hid (SQ.out.below D.lasts kE)
          refine hK.out _ _ trivial (fun _ => ?_)
          clear hK K kE XE SQ
          refine wpAnyH_take_at (i := 15) (v := .bool true) rfl rfl (by kernel_rfl) (by kernel_rfl) (by kernel_rfl) (fun _ _ _ h => h) (Or.inl ⟨by rfl, fun w hS => by go_simp⟩) trivial ?_
          simp only [List.setIfInBounds_toArray, List.set_cons_zero, List.set_cons_succ]
          refine wpAnyH_take_at (i := 16) (v := .bool true) rfl rfl (by kernel_rfl) (by kernel_rfl) (by kernel_rfl) (fun _ _ _ h => h) (Or.inl ⟨by rfl, fun w hS => by go_simp⟩) trivial ?_
          simp only [List.setIfInBounds_toArray, List.set_cons_zero, List.set_cons_succ]
          refine wpAnyH_done (by kernel_rfl) ?_ _
          have KE := SE.out.under
          clear SE
          go_wp2
          go_ret
          exact ⟨rfl, KE⟩
        · go_simp
          have kA : Below w15.heap.size w15 (w15.alloc (.cells ZC 5)) := (Below.refl _ _).alloc (Nat.le_refl _) _
          have SA := Lib.hid (S15.out.below D.lasts kA)
          have OA := Lib.hid (HMK.out w15)
          obtain ⟨wA, hwA⟩ : ∃ x, Hid (x = w15.alloc (.cells ZC 5)) := ⟨_, rfl⟩
          rw [← hwA.out] at SA OA ⊢
          refine hK.out _ _ trivial (fun _ => ?_)
          clear hK K kA hwA
          refine wpAnyH_ready (rs := [10]) (by kernel_rfl) (by simp) ?_
          refine AllReadyH.cons rfl (fun K hK => ?_) AllReadyH.nil
          go_simp
          refine (SA.out.image D).mono ?_
          rintro e w16 ⟨⟨r16, rfl, o16⟩, s16, k16⟩
          have o16' : Own w16 wA.heap.size r16 S.flatten := o16
          have SQ := Lib.hid s16
          have XE := Lib.hid (requal_b r16 _ S.flatten S.flatten w16 o16'.isB (OA.out.isB.below k16))
          rw [decide_eq_true rfl] at XE
          refine hK.out _ _ trivial (fun _ => ?_)
          clear hK K s16 k16 o16 o16' S15 SA OA
          refine wpAnyH_ready (rs := [14]) (by kernel_rfl) (by simp) ?_
          refine AllReadyH.cons rfl (fun K hK => ?_) AllReadyH.nil
          go_simp
          refine XE.out.mono ?_
          rintro e wE ⟨rfl, kE⟩
          have SE := Lib.hid (SQ.out.below D.lasts kE)
          refine hK.out _ _ trivial (fun _ => ?_)
          clear hK K kE XE SQ
          refine wpAnyH_take_at (i := 15) (v := .bool true) rfl rfl (by kernel_rfl) (by kernel_rfl) (by kernel_rfl) (fun _ _ _ h => h) (Or.inl ⟨by rfl, fun w hS => by go_simp⟩) trivial ?_
          simp only [List.setIfInBounds_toArray, List.set_cons_zero, List.set_cons_succ]
          refine wpAnyH_take_at (i := 16) (v := .bool true) rfl rfl (by kernel_rfl) (by kernel_rfl) (by kernel_rfl) (fun _ _ _ h => h) (Or.inl ⟨by rfl, fun w hS => by go_simp⟩) trivial ?_
          simp only [List.setIfInBounds_toArray, List.set_cons_zero, List.set_cons_succ]
          refine wpAnyH_done (by kernel_rfl) ?_ _
          have KE := SE.out.under
          clear SE
          go_wp2
          go_ret
          exact ⟨rfl, KE⟩

end Go.Proofs.Ythmamdlhgfkckaa
