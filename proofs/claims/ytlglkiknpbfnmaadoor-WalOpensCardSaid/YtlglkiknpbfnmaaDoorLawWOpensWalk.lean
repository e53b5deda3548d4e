/-
  orloplaw10.WalOpens, under the journal's face: it returns true. Conditions: WalCalls, WalMath (proved of the code elsewhere).
-/
import Derived.Test.YtlglkiknpbfnmaaDoorLawWTwiceWalk
import Derived.Test.YtlglkiknpbfnmaaDoorZeros
import Derived.Test.YtlglkiknpbfnmaaDoorPkDisk
namespace Go.Proofs.YtlglkiknpbfnmaaDoor
open Go.RowKit
set_option linter.unusedVariables false

section
variable {Ld : World → Prop} {Wl : World → Nat → Nat → Prop} {O : M.Dsk → M.Dsk × Int} {C : M.Dsk → M.CL → M.Dsk × Int} {Clean : List (List UInt8) → Prop} {Rec : List (List UInt8) → List (List UInt8)}

set_option maxRecDepth 100000 in
set_option maxHeartbeats 16000000 in
theorem wopens_walk (W : WalCalls Ld Wl O C) (X : WalMath O C Clean Rec) (w : World) (hL : Ld w) (iv : Value) (img : List UInt8) (hi : IsB w iv img) (hnil : ∀ n c, iv = .slice none n c → c = 0) (t : Nat) (ht8 : t < 256) :
    Calls Tryd.prog 4 #[iv, .int .u8 (t : Int)] w fun e w' => e = .returned (.bool true) ∧ Below w.heap.size w w' := by
  have HI := Lib.hid hi
  have HNIL := Lib.hid hnil
  have HL := Lib.hid hL
  obtain ⟨ia, ic, rfl⟩ := hi.shape
  obtain ⟨q, hq⟩ : ∃ q, q = img.length := ⟨_, rfl⟩
  rw [← hq] at HI HNIL ⊢
  have HQ : Hid (img.length = q) := hq.symm
  have w8 : IntKind.i64.wrap (t : Int) = (t : Int) := by rw [IntWalk.i64_in _ (by omega)]
  have w8' : wrap64 (t : Int) = (t : Int) := by unfold wrap64; omega
  have W8 := Lib.hid w8
  have W8' := Lib.hid w8'
  obtain ⟨u, hu⟩ : ∃ u, u = t % 4 := ⟨_, rfl⟩
  have HU : Hid ((t : Int).tmod 4 = (u : Int) ∧ (t : Int) % 4 = (u : Int)) := ⟨by clear w8 w8'; rw [Int.tmod_eq_emod_of_nonneg (by omega)]; omega, by clear w8 w8'; omega⟩
  have HU4 : Hid (u < 4) := by rw [Hid]; clear w8 w8'; omega
  clear hi hnil hL hq w8 w8' hu ht8
  go_enter Tryd.func4, Tryd.ntmps4
  go_wp2_with fail
  refine (awake10_any W X w HL.out).mono ?_
  rintro e w1 ⟨rfl, k1⟩
  have K1 := Lib.hid k1
  clear k1
  by_cases hq : q ≤ 15360
  · have b0 : ¬ (15360 : Int) < (q : Int) := by omega
    have HQL := Lib.hid hq
    clear hq
    have E1 : Hid (Own (w1.alloc (.cells #[] 5)) w1.heap.size (.slice (some ⟨w1.heap.size, 0, none⟩) 0 0) []) := own_empty w1
    have KA : Hid (Below w1.heap.size w1 (w1.alloc (.cells #[] 5))) := (Below.refl _ _).alloc (Nat.le_refl _) _
    go_wp2_with (at_builtin; go_must (refine wpList_app _ rfl _ _ rfl w1.heap.size _ [] rfl E1.out _ img rfl ?c1 HNIL.out (by have := HQ.out; have := HQL.out; simp; omega) KA.out.size ?_))
    case c1 => exact (HI.out.below K1.out).below KA.out
    intro v2 w2 o2 k2 _
    have O2 : Hid (Own w2 w1.heap.size v2 (img ++ List.replicate 0 0)) := by rw [List.replicate_zero, List.append_nil]; exact o2
    have K2 : Hid (Below w1.heap.size w1 w2) := KA.out.trans (k2.mono (Nat.le_refl _))
    obtain ⟨va, vc, rfl⟩ := o2.shape'
    rw [HQ.out]
    rw [HQ.out] at O2
    clear o2 k2 E1 KA
    obtain ⟨P, hP⟩ : ∃ P, P = (256 - q % 256) % 256 := ⟨_, rfl⟩
    have HP : Hid (P < 256 ∧ (q + P) % 256 = 0) := ⟨by omega, by omega⟩
    clear hP
    go_wp2
    go_loopw [5] (fun v wr => ∃ (j : Nat) (a : Option Addr) (c : Nat), v = .slice a (q + j) c ∧ Hid (j ≤ P) ∧ Hid (Own wr w1.heap.size (.slice a (q + j) c) (img ++ List.replicate j 0)) ∧ Hid (Below w1.heap.size w1 wr))
      (fun v _ => P + q - lenOf9 v)
    case atStart => exact ⟨0, va, vc, rfl, Nat.zero_le _, O2, K2⟩
    case round =>
      clear O2 K2
      obtain ⟨wz, rfl⟩ : ∃ x, x = wr := ⟨_, rfl⟩
      obtain ⟨j, a, c, rfl, hj, oo, kk⟩ := hrel
      obtain ⟨n, hn⟩ : ∃ n, n = q + j := ⟨_, rfl⟩
      rw [← hn] at oo ⊢
      have HN := Lib.hid hn
      obtain ⟨r, hr⟩ : ∃ r, r = n % 256 := ⟨_, rfl⟩
      have t1 : (n : Int).tmod 256 = (r : Int) := by rw [Int.tmod_eq_emod_of_nonneg (by omega)]; omega
      have t1' : (n : Int) % 256 = (r : Int) := by omega
      by_cases hz : r = 0
      · have t3 : ((r : Int) != 0) = false := by rw [hz]; rfl
        have H256 : Hid (n % 256 = 0) := by rw [Hid, ← hr, hz]
        have HNL : Hid (n ≤ 15616) := by rw [Hid]; have := hj.out; have := HP.out; have := HQL.out; omega
        obtain ⟨F, hF⟩ : ∃ F, F = img ++ List.replicate j 0 := ⟨_, rfl⟩
        rw [← hF] at oo
        have HF : Hid (F.length = n) := by rw [Hid, hF, List.length_append, List.length_replicate, HQ.out, hn]
        clear hr hz hn hF hj
        go_upto_region 8 with fail
        clear t1 t1' t3
        go_wp2
        go_loopw [5, 6] (fun v i wr => ∃ (j : Nat) (a : Option Addr) (c : Nat), v = .slice a (n + 256 * j) c ∧ i = .int .i64 (j : Int) ∧ Hid (j ≤ u) ∧ Hid (Own wr w1.heap.size (.slice a (n + 256 * j) c) (F ++ List.replicate (256 * j) 0)) ∧ Hid (Below w1.heap.size w1 wr))
          (fun v i _ => u - numOf i)
        case atStart => exact ⟨0, a, c, rfl, rfl, Nat.zero_le _, by rw [Nat.mul_zero, List.replicate_zero, List.append_nil]; exact oo.out, kk⟩
        case round =>
          clear oo kk
          obtain ⟨wy, rfl⟩ : ∃ x, x = wr := ⟨_, rfl⟩
          obtain ⟨j2, a2, c2, rfl, rfl, hj2, oo, kk⟩ := hrel
          obtain ⟨n2, hn2⟩ : ∃ n2, n2 = n + 256 * j2 := ⟨_, rfl⟩
          rw [← hn2] at oo ⊢
          have HN2 := Lib.hid hn2
          have w8 := W8.out
          have w8' := W8'.out
          have t1 := HU.out.1
          have t1' := HU.out.2
          by_cases hlt : j2 < u
          · have b1 : (j2 : Int) < (u : Int) := by clear w8 w8' t1 t1'; omega
            have HLT := Lib.hid hlt
            have HFL : Hid ((F ++ List.replicate (256 * j2) (0 : UInt8)).length + 256 ≤ 140737488355328) := by rw [Hid, List.length_append, List.length_replicate, HF.out]; have := HNL.out; have := HU4.out; clear w8 w8' t1 t1'; omega
            clear hn2 hlt
            go_upto_region 11 with fail
            clear w8 w8' t1 t1'
            obtain ⟨z, hz⟩ : ∃ z : Nat, Hid (z = 256) := ⟨_, rfl⟩
            go_wp2_with (at_builtin; go_must (refine wpList_app_zeros _ rfl _ _ rfl w1.heap.size _ (F ++ List.replicate (256 * j2) 0) rfl oo.out z (by rw [hz.out]; rfl) (by rw [hz.out]; exact HFL.out) kk.out.size ?_))
            intro v3 w3 o3 k3
            have e2 : 256 * j2 + z = 256 * (j2 + 1) := by rw [hz.out, Nat.mul_add, Nat.mul_one]
            rw [e2] at o3
            obtain ⟨a3, c3, rfl⟩ := o3.shape'
            have e3 : (F ++ List.replicate (256 * (j2 + 1)) (0 : UInt8)).length = n + 256 * (j2 + 1) := by rw [List.length_append, List.length_replicate, HF.out]
            rw [e3] at o3 ⊢
            have O3 := Lib.hid o3
            have K3 : Hid (Below w1.heap.size w1 w3) := kk.out.trans k3
            have n3 : wrap64 ((j2 : Int) + 1) = ((j2 + 1 : Nat) : Int) := by have := HU4.out; have := HLT.out; unfold wrap64; omega
            have N3 := Lib.hid n3
            clear o3 k3 e2 e3 oo kk n3 b1
            go_wp2
            go_roundw
            case rel => exact ⟨j2 + 1, a3, c3, rfl, by rw [N3.out], HLT.out, O3.out, K3⟩
            case measure =>
              rw [N3.out]
              have := HLT.out
              show u - (((j2 + 1 : Nat) : Int)).toNat < u - ((j2 : Int)).toNat
              omega
          · have b1 : ¬ (j2 : Int) < (u : Int) := by clear w8 w8' t1 t1'; omega
            obtain ⟨G, hG⟩ : ∃ G, G = F ++ List.replicate (256 * j2) (0 : UInt8) := ⟨_, rfl⟩
            rw [← hG] at oo
            have HGL : Hid (G.length = n2 ∧ n2 % 256 = 0 ∧ n2 ≤ 16384) := by
              have h1 := HNL.out
              have h2 := HU4.out
              have h3 := H256.out
              have h4 := hj2.out
              clear w8 w8' t1 t1'
              exact ⟨by rw [hG, List.length_append, List.length_replicate, HF.out, hn2], by omega, by omega⟩
            clear hn2 hlt hG
            go_upto_region 12 with fail
            clear w8 w8' t1 t1' b1
            have KW : Hid (Below w.heap.size w wy) := K1.out.trans (kk.out.mono K1.out.size)
            have XL := Lib.hid (st_load (w0 := w) (K := fun _ => True) oo.out.isB (by rw [HGL.out.1]; exact HGL.out.2.1) (by rw [HGL.out.1]; have := HGL.out.2.2; omega) KW.out (fun _ _ => trivial))
            obtain ⟨s, hs⟩ : ∃ s, s = (M.dload G).safe := ⟨_, rfl⟩
            have hd : M.dload G = M.lit s 0 := by rw [hs]; rfl
            have HSL : Hid (256 * s.length = n2) := by
              have := M.dload_ok G (by rw [HGL.out.1]; exact HGL.out.2.1) (by rw [HGL.out.1]; have := HGL.out.2.2; omega)
              rw [Hid, hs, ← flat_length _ this.1.full, this.2, HGL.out.1]
            rw [hd] at XL
            clear hs hd oo kk
            go_wp2_with fail
            refine XL.out.mono ?_
            rintro e w4 ⟨g, rfl, s4⟩
            have S4 := Lib.hid s4
            clear s4 XL KW
            by_cases h42 : s.length ≤ 42
            · have b2 : (n2 : Int) ≤ 10752 := by have := HSL.out; omega
              have XO := Lib.hid (S4.out.open_no W HL.out h42)
              clear h42
              go_wp2_with fail
              refine XO.out.mono ?_
              rintro e w5 ⟨rfl, k5⟩
              have K5 := (S4.out.below k5).under
              clear XO S4 k5
              go_wp2
              go_ret
              exact ⟨rfl, K5⟩
            · have b2 : ¬ (n2 : Int) ≤ 10752 := by have := HSL.out; omega
              have H42 : Hid (42 < s.length) := by rw [Hid]; omega
              have XO := Lib.hid (open_new W X HL.out S4.out H42.out)
              clear h42
              go_wp2_with fail
              refine XO.out.mono ?_
              rintro e w5 ⟨gw, s', rfl, s5, l5, r5, c5⟩
              have S5 : Hid (St w w5 g (M.lit s' 0) (fun x => Wl x gw g)) := s5.mono fun x h => h.2
              have L5 := Lib.hid l5
              have C5 := Lib.hid c5
              clear XO S4 s5 l5 r5 c5
              obtain ⟨bn, hbn⟩ : ∃ b, b = s'.length - 42 := ⟨_, rfl⟩
              have HB42 : Hid (42 < s'.length) := by rw [Hid, L5.out]; exact H42.out
              have BL : Hid (∀ w', St w w' g (M.lit s' 0) (fun x => Wl x gw g) → Calls Tryd.prog 23 #[.pointer (some ⟨gw, 0, none⟩)] w' fun e w2 => e = .returned (.int .i64 (bn : Int)) ∧ Below w'.heap.size w' w2) := fun w' st => by
                have h := st.wblocks W (fun h => h) (show 42 < (M.lit s' 0).safe.length from HB42.out)
                rw [show (M.lit s' 0).safe = s' from rfl, ← hbn] at h
                exact h
              have HBN := Lib.hid hbn
              have d1 : (n2 : Int).tdiv 256 = (s'.length : Int) := by rw [Int.tdiv_eq_ediv_of_nonneg (by omega)]; have := HSL.out; have := L5.out; omega
              have d1' : (n2 : Int) / 256 = (s'.length : Int) := by have := HSL.out; have := L5.out; omega
              obtain ⟨sl, hsl⟩ : ∃ sl, sl = s'.length := ⟨_, rfl⟩
              rw [← hsl] at d1 d1'
              have d2 : wrap64 (sl : Int) = (sl : Int) := by have := HSL.out; have := L5.out; have := HGL.out.2.2; clear d1 d1'; unfold wrap64; omega
              have d3 : wrap64 (bn : Int) = (bn : Int) := by have := HSL.out; have := L5.out; have := HGL.out.2.2; have := HB42.out; clear d1 d1' d2; unfold wrap64; omega
              have d3' : (sl : Int) - 42 = (bn : Int) := by have := HB42.out; clear d1 d1' d2 d3; omega
              clear hbn hsl
              go_upto_region 18 with fail
              go_wp2_with fail
              refine (BL.out _ S5.out).mono ?_
              rintro e w6 ⟨rfl, k6⟩
              have S6 := Lib.hid (S5.out.below k6)
              clear S5 k6
              go_wp2_with fail
              refine (BL.out _ S6.out).mono ?_
              rintro e w7 ⟨rfl, k7⟩
              have S7 := Lib.hid (S6.out.below k7)
              clear S6 k7 d1 d1' d2 d3 d3'
              have RN := Lib.hid (S7.out.wread_no W (fun h => h) HB42.out (bn : Int) (by rw [show (M.lit s' 0).safe = s' from rfl, ← HBN.out]; omega))
              go_wp2_with fail
              refine RN.out.mono ?_
              rintro e w8 ⟨rfl, k8⟩
              have S8 := Lib.hid (S7.out.below k8)
              clear S7 k8 RN
              have RN := Lib.hid (S8.out.wread_no W (fun h => h) HB42.out (-1) (by omega))
              go_wp2_with fail
              refine RN.out.mono ?_
              rintro e w9 ⟨rfl, k9⟩
              have S9 := Lib.hid (S8.out.below k9)
              clear S8 k9 RN
              obtain ⟨ZC, hZC⟩ := make_run 256 (by decide)
              have hmk : ∀ w : World, (Instr.makeSlice 34 (.int .i64 256) (.int .i64 256)).run Tryd.prog w = .ok (.slice (some ⟨w.heap.size, 0, none⟩) 256 256) (w.alloc (.cells ZC 5)) := fun w => (hZC w).1
              have HMK : Hid (∀ w : World, Own (w.alloc (.cells ZC 5)) w.heap.size (.slice (some ⟨w.heap.size, 0, none⟩) 256 256) M.zero256) := fun w => (hZC w).2
              have HMD : Hid (∀ w : World, Own (w.alloc (.cells ZC 5)).drew w.heap.size (.slice (some ⟨w.heap.size, 0, none⟩) 256 256) M.zero256) := fun w => (hZC w).2
              have WN : Hid (∀ (W' : World) (p : Nat), St w W' g (M.lit s' 0) (fun x => Wl x gw g) → IsB W' (.slice (some ⟨p, 0, none⟩) 256 256) M.zero256 → Calls Tryd.prog 25 #[.pointer (some ⟨gw, 0, none⟩), .int .i64 (bn : Int), .slice (some ⟨p, 0, none⟩) 256 256] W' fun e w2 => e = .returned (.int .i64 1) ∧ Below W'.heap.size W' w2) := fun W' p st ib => by
                have hb1 := HBN.out
                have hb2 := L5.out
                have hb3 := HSL.out
                have hb4 := HGL.out.2.2
                refine st.wwrite_no W (fun h => h) (show 42 < (M.lit s' 0).safe.length from HB42.out) (bn : Int) (by omega) _ M.zero256 (fun _ => ib) ?_
                rw [show (M.lit s' 0).safe = s' from rfl, ← hb1]
                omega
              clear hZC
              go_upto_region 22 with fail
              refine wp_region_any (by kernel_rfl) ?_
              change wpAny _ _ _ _ _ _ _ (World.drew _)
              refine wpAny_of_held (S := fun w' => Below w9.heap.size w9 w') _ _ _ _ ?_
              have S0 : Below w9.heap.size w9 w9.drew := (Below.refl _ _).drew
              refine wpAnyH_take_at (i := 0) (v := .int .i64 1) rfl rfl (by kernel_rfl) (by kernel_rfl) (by kernel_rfl) (fun _ _ _ h => h) (Or.inl ⟨by rfl, fun w hS => by go_simp⟩) S0 ?_
              simp only [List.setIfInBounds_toArray, List.set_cons_zero, List.set_cons_succ]
              refine wpAnyH_take_at (i := 1) (v := .bool false) rfl rfl (by kernel_rfl) (by kernel_rfl) (by kernel_rfl) (fun _ _ _ h => h) (Or.inl ⟨by rfl, fun w hS => by go_simp⟩) S0 ?_
              simp only [List.setIfInBounds_toArray, List.set_cons_zero, List.set_cons_succ]
              refine wpAnyH_take_at (i := 2) (v := .bool false) rfl rfl (by kernel_rfl) (by kernel_rfl) (by kernel_rfl) (fun _ _ _ h => h) (Or.inl ⟨by rfl, fun w hS => by go_simp⟩) S0 ?_
              simp only [List.setIfInBounds_toArray, List.set_cons_zero, List.set_cons_succ]
              refine wpAnyH_take_at (i := 3) (v := .int .i64 1) rfl rfl (by kernel_rfl) (by kernel_rfl) (by kernel_rfl) (fun _ _ _ h => h) (Or.inl ⟨by rfl, fun w hS => by go_simp⟩) S0 ?_
              simp only [List.setIfInBounds_toArray, List.set_cons_zero, List.set_cons_succ]
              refine wpAnyH_take_at (i := 4) (v := .bool false) rfl rfl (by kernel_rfl) (by kernel_rfl) (by kernel_rfl) (fun _ _ _ h => h) (Or.inl ⟨by rfl, fun w hS => by go_simp⟩) S0 ?_
              simp only [List.setIfInBounds_toArray, List.set_cons_zero, List.set_cons_succ]
              refine wpAnyH_take_at (i := 5) (v := .bool false) rfl rfl (by kernel_rfl) (by kernel_rfl) (by kernel_rfl) (fun _ _ _ h => h) (Or.inl ⟨by rfl, fun w hS => by go_simp⟩) S0 ?_
              simp only [List.setIfInBounds_toArray, List.set_cons_zero, List.set_cons_succ]
              refine wpAnyH_take_at (i := 6) (v := .bool false) rfl rfl (by kernel_rfl) (by kernel_rfl) (by kernel_rfl) (fun _ _ _ h => h) (Or.inl ⟨by rfl, fun w hS => by go_simp⟩) S0 ?_
              simp only [List.setIfInBounds_toArray, List.set_cons_zero, List.set_cons_succ]
              refine wpAnyH_take_at (i := 7) (v := .pointer (some ⟨gw, 0, none⟩)) rfl rfl (by kernel_rfl) (by kernel_rfl) (by kernel_rfl) (fun _ _ _ h => h) (Or.inl ⟨by rfl, fun w hS => by go_simp⟩) S0 ?_
              simp only [List.setIfInBounds_toArray, List.set_cons_zero, List.set_cons_succ]
              refine wpAnyH_take_at (i := 8) (v := .pointer (some ⟨gw, 0, none⟩)) rfl rfl (by kernel_rfl) (by kernel_rfl) (by kernel_rfl) (fun _ _ _ h => h) (Or.inl ⟨by rfl, fun w hS => by go_simp⟩) S0 ?_
              simp only [List.setIfInBounds_toArray, List.set_cons_zero, List.set_cons_succ]
              refine wpAnyH_ready (rs := [9, 10]) (by kernel_rfl) (by simp) ?_
              refine AllReadyH.cons rfl (fun K hK => ?_) (AllReadyH.cons rfl (fun K hK => ?_) AllReadyH.nil)
              focus
                go_simp
                refine (BL.out _ (S9.out.below S0)).mono ?_
                rintro e w10 ⟨rfl, k10⟩
                have S1 : Below w9.heap.size w9 w10 := S0.trans (k10.mono S0.size)
                refine hK.out _ _ S1 (fun _ => ?_)
                clear hK K S0 k10
                refine wpAnyH_ready (rs := [10]) (by kernel_rfl) (by simp) ?_
                refine AllReadyH.cons rfl (fun K hK => ?_) AllReadyH.nil
                go_simp
                obtain ⟨wQ, hwQ⟩ : ∃ x, Hid (x = w10.alloc (.cells ZC 5)) := ⟨_, rfl⟩
                obtain ⟨pQ, hpQ⟩ : ∃ x, Hid (x = w10.heap.size) := ⟨_, rfl⟩
                have kq : Below w10.heap.size w10 wQ := by rw [hwQ.out]; exact (Below.refl _ _).alloc (Nat.le_refl _) _
                have iq := (HMK.out w10).isB
                rw [← hwQ.out, ← hpQ.out] at iq
                have S2 : Below w9.heap.size w9 wQ := S1.trans (kq.mono S1.size)
                rw [← hwQ.out, ← hpQ.out]
                refine hK.out _ _ S2 (fun _ => ?_)
                have IQ := Lib.hid iq
                have SQ := Lib.hid (S9.out.below S2)
                clear hK K S1 kq iq hwQ hpQ
              rotate_left
              focus
                go_simp
                obtain ⟨wP, hwP⟩ : ∃ x, Hid (x = (w9.alloc (.cells ZC 5)).drew) := ⟨_, rfl⟩
                obtain ⟨pQ, hpQ⟩ : ∃ x, Hid (x = w9.heap.size) := ⟨_, rfl⟩
                have kq : Below w9.heap.size w9 wP := by rw [hwP.out]; exact drewN_below ((Below.refl _ w9).alloc (Nat.le_refl _) _) 1
                have iq := (HMD.out w9).isB
                rw [← hwP.out, ← hpQ.out] at iq
                rw [← hwP.out, ← hpQ.out]
                refine hK.out _ _ kq (fun _ => ?_)
                clear hK K S0
                refine wpAnyH_ready (rs := [9]) (by kernel_rfl) (by simp) ?_
                refine AllReadyH.cons rfl (fun K hK => ?_) AllReadyH.nil
                go_simp
                refine (BL.out _ (S9.out.below kq)).mono ?_
                rintro e wQ ⟨rfl, k10⟩
                have S2 : Below w9.heap.size w9 wQ := kq.trans (k10.mono kq.size)
                refine hK.out _ _ S2 (fun _ => ?_)
                have IQ := Lib.hid (iq.below k10)
                have SQ := Lib.hid (S9.out.below S2)
                clear hK K kq iq k10 hwP hpQ
              all_goals
                clear S9 HMK HMD hmk
                refine wpAnyH_ready (rs := [11]) (by kernel_rfl) (by simp) ?_
                refine AllReadyH.cons rfl (fun K hK => ?_) AllReadyH.nil
                go_simp
                refine (WN.out _ _ SQ.out IQ.out).mono ?_
                rintro e w11 ⟨rfl, k11⟩
                have S3 : Below w9.heap.size w9 w11 := S2.trans (k11.mono S2.size)
                refine hK.out _ _ S3 (fun _ => ?_)
                have SR := Lib.hid (SQ.out.below k11)
                clear hK K S2 k11 SQ IQ WN
                refine wpAnyH_take_at (i := 12) (v := .bool false) rfl rfl (by kernel_rfl) (by kernel_rfl) (by kernel_rfl) (fun _ _ _ h => h) (Or.inl ⟨by rfl, fun w hS => by go_simp⟩) S3 ?_
                simp only [List.setIfInBounds_toArray, List.set_cons_zero, List.set_cons_succ]
                refine wpAnyH_take_at (i := 13) (v := .bool false) rfl rfl (by kernel_rfl) (by kernel_rfl) (by kernel_rfl) (fun _ _ _ h => h) (Or.inl ⟨by rfl, fun w hS => by go_simp⟩) S3 ?_
                simp only [List.setIfInBounds_toArray, List.set_cons_zero, List.set_cons_succ]
                refine wpAnyH_done (by kernel_rfl) ?_ _
                have SE := Lib.hid (seen10_any W SR.out (fun x h => h) (show 42 < (M.lit s' 0).safe.length from HB42.out) (by show 0 < 1000000; decide))
                rw [M.shows_lit] at SE
                clear S3 BL
                go_wp2_with fail
                refine SE.out.mono ?_
                rintro e w12 ⟨v12, r12, rfl, o12, k12⟩
                have S12 : Hid (St w w12 g (M.lit s' 0) (fun x => Wl x gw g ∧ IsLL x v12 (s'.drop 42) r12)) := SR.out.gain k12 o12.gains
                clear SE SR o12 k12
                go_wp2_with fail
                refine (S12.out.crash (.slice none 0 0) [] (IsZ.nil w)).mono ?_
                rintro e w13 ⟨rfl, s13⟩
                rw [M.lit_crash] at s13
                have S13 := Lib.hid s13
                clear S12 s13
                go_wp2_with fail
                refine (open_new W X HL.out S13.out HB42.out).mono ?_
                rintro e w14 ⟨gv, s2, rfl, s14, l14, r14, c14⟩
                have S14 : Hid (St w w14 g (M.lit s2 0) (fun x => Wl x gv g ∧ IsLL x v12 (s2.drop 42) r12)) := s14.mono fun x h => ⟨h.2, by rw [r14, X.recs _ C5.out]; exact h.1.2⟩
                have L14 : Hid (42 < s2.length) := by rw [Hid, l14]; exact HB42.out
                have SE := Lib.hid (seen10_any W S14.out (fun x h => h.1) (show 42 < (M.lit s2 0).safe.length from L14.out) (by show 0 < 1000000; decide))
                rw [M.shows_lit] at SE
                clear S13 s14 l14 r14 c14
                go_wp2_with fail
                refine SE.out.mono ?_
                rintro e w15 ⟨v15, r15, rfl, o15, k15⟩
                have S15 := Lib.hid (S14.out.below k15)
                have SM := Lib.hid (rsame10_any v15 v12 _ _ r15 r12 w15 o15.isLL S15.out.now.2)
                rw [decide_eq_true rfl] at SM
                clear S14 SE o15 k15
                go_wp2_with fail
                refine SM.out.mono ?_
                rintro e w16 ⟨rfl, k16⟩
                have S16 := Lib.hid (S15.out.below k16)
                clear SM S15 k16
                go_wp2_with fail
                refine S16.out.image.mono ?_
                rintro e w17 ⟨r17, rfl, s17⟩
                have S17 := Lib.hid s17
                have OK17 := s17.okay
                have AH := Lib.hid (rahead_any r17 s2 w17 s17.now.2 OK17.full OK17.few)
                clear S16 s17 OK17
                go_wp2_with fail
                refine AH.out.mono ?_
                rintro e w18 ⟨v18, r18, rfl, o18, k18⟩
                have S18 := Lib.hid (S17.out.below k18)
                have SM := Lib.hid (rsame10_any v18 v12 _ _ r18 r12 w18 o18.isLL S18.out.now.1.2)
                rw [decide_eq_true rfl] at SM
                clear S17 AH o18 k18
                go_wp2_with fail
                refine SM.out.mono ?_
                rintro e w19 ⟨rfl, k19⟩
                have K19 := (S18.out.below k19).under
                clear SM S18 k19
                go_wp2
                go_ret
                exact ⟨rfl, K19⟩
      · have t2 : ¬ (r : Int) = 0 := by omega
        have t3 : ((r : Int) != 0) = true := by simpa using t2
        have HJ2 : Hid (j + 1 ≤ P) := by
          have h1 := hj.out
          have h2 := HP.out.2
          rw [Hid]
          by_cases e : j = P
          · rw [e] at hn; rw [← hn, ← hr] at h2; exact absurd h2 hz
          · omega
        have I1 : IsB (wz.alloc (.cells #[.int .u8 0] 5)) (.slice (some ⟨wz.heap.size, 0, none⟩) 1 1) [0] := isB_one wz 5 0 0 rfl
        have HBL : Hid ((img ++ List.replicate j 0).length + 1 ≤ 140737488355328) := by rw [Hid, List.length_append, List.length_replicate, HQ.out]; have := hj.out; have := HP.out; have := HQL.out; omega
        clear hr hz hn
        go_upto_region 7 with fail
        clear t1 t1' t3
        go_wp2_with (at_builtin; go_must (refine wpList_app _ rfl _ _ rfl w1.heap.size _ (img ++ List.replicate j 0) rfl (oo.out.below ((Below.refl _ _).alloc (Nat.le_refl _) _)) _ [0] rfl I1 (by intro n c e; cases e) HBL.out (kk.out.alloc kk.out.size _).size ?_))
        intro v3 w3 o3 k3 _
        have e2 : img ++ (List.replicate j 0 ++ [0]) = img ++ List.replicate (j + 1) 0 := by rw [← List.replicate_succ']
        rw [e2] at o3
        obtain ⟨a3, c3, rfl⟩ := o3.shape'
        have e3 : (img ++ List.replicate (j + 1) (0 : UInt8)).length = q + (j + 1) := by rw [List.length_append, List.length_replicate, HQ.out]
        rw [e3] at o3 ⊢
        have O3 := Lib.hid o3
        have K3 : Hid (Below w1.heap.size w1 w3) := (kk.out.alloc kk.out.size (.cells #[.int .u8 (0 : Int)] 5)).trans k3
        clear o3 k3 e2 e3 I1 oo kk
        go_wp2
        go_roundw
        case rel => exact ⟨j + 1, a3, c3, rfl, HJ2.out, O3.out, K3⟩
        case measure =>
          have := HJ2.out
          have := HN.out
          show P + q - (q + (j + 1)) < P + q - n
          omega
  · have b0 : (15360 : Int) < (q : Int) := by omega
    clear hq
    go_wp2
    go_ret
    exact ⟨rfl, K1.out⟩

end

end Go.Proofs.YtlglkiknpbfnmaaDoor
