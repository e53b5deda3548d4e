/-
  CONTRACT OF (field.Elem).Invert: the power p - 2. Conditions: the cells are an element's. (Written by gen_finv.py.)
-/
import Derived.Test.YtdojalhaklkegaaDoorFieldI
import Derived.Test.YtdojalhaklkegaaDoorPn17
namespace Go.Proofs.YtdojalhaklkegaaDoor
open Go.RowKit
set_option linter.unusedVariables false

theorem pow_sqs (x a n q : Nat) : (x ^ a % q) ^ (2 ^ n) % q = x ^ (a * 2 ^ n) % q := by rw [← Nat.pow_mod, Nat.pow_mul]

theorem pow_plus (x a b q : Nat) : (x ^ a % q) * (x ^ b % q) % q = x ^ (a + b) % q := by rw [← Nat.mul_mod, ← Nat.pow_add]

/-- The powers on their way. -/
def Pows (e1 e3 e4 e5 e6 e7 e8 e9 e10 e11 e12 e13 e14 : Nat) : Prop :=
  e1 = 1 ∧ e3 = e1 + e1 ∧ e4 = e3 * 2 ^ 2 + e1 ∧ e5 = e4 + e3 ∧ e6 = (e5 + e5) + e4 ∧ e7 = e6 * 2 ^ 5 + e6 ∧ e8 = e7 * 2 ^ 10 + e7 ∧ e9 = e8 * 2 ^ 20 + e8 ∧ e10 = e9 * 2 ^ 10 + e7 ∧ e11 = e10 * 2 ^ 50 + e10 ∧ e12 = e11 * 2 ^ 100 + e11 ∧ e13 = e12 * 2 ^ 50 + e10 ∧ e14 = e13 * 2 ^ 5 + e5

theorem pows_all {e1 e3 e4 e5 e6 e7 e8 e9 e10 e11 e12 e13 e14 : Nat} (h : Pows e1 e3 e4 e5 e6 e7 e8 e9 e10 e11 e12 e13 e14) : e14 = M.Q - 2 := by
  obtain ⟨rfl, rfl, rfl, rfl, rfl, rfl, rfl, rfl, rfl, rfl, rfl, rfl, rfl⟩ := h
  decide +kernel

set_option maxRecDepth 100000 in
set_option maxHeartbeats 8000000 in
theorem finvert_any (A : List Value) (x : Nat) (w : World) (hA : Fl A x) :
    Calls Tryd.prog 62 #[.agg A.toArray] w (GivesE Fl w (x ^ (M.Q - 2) % M.Q)) := by
  obtain ⟨P, hP⟩ : ∃ P : Nat → Nat, Hid (P = fun e => x ^ e % M.Q) := ⟨_, rfl⟩
  obtain ⟨e1, he1⟩ : ∃ e, e = 1 := ⟨_, rfl⟩
  obtain ⟨e3, he3⟩ : ∃ e, e = e1 + e1 := ⟨_, rfl⟩
  obtain ⟨e4, he4⟩ : ∃ e, e = e3 * 2 ^ 2 + e1 := ⟨_, rfl⟩
  obtain ⟨e5, he5⟩ : ∃ e, e = e4 + e3 := ⟨_, rfl⟩
  obtain ⟨e6, he6⟩ : ∃ e, e = (e5 + e5) + e4 := ⟨_, rfl⟩
  obtain ⟨e7, he7⟩ : ∃ e, e = e6 * 2 ^ 5 + e6 := ⟨_, rfl⟩
  obtain ⟨e8, he8⟩ : ∃ e, e = e7 * 2 ^ 10 + e7 := ⟨_, rfl⟩
  obtain ⟨e9, he9⟩ : ∃ e, e = e8 * 2 ^ 20 + e8 := ⟨_, rfl⟩
  obtain ⟨e10, he10⟩ : ∃ e, e = e9 * 2 ^ 10 + e7 := ⟨_, rfl⟩
  obtain ⟨e11, he11⟩ : ∃ e, e = e10 * 2 ^ 50 + e10 := ⟨_, rfl⟩
  obtain ⟨e12, he12⟩ : ∃ e, e = e11 * 2 ^ 100 + e11 := ⟨_, rfl⟩
  obtain ⟨e13, he13⟩ : ∃ e, e = e12 * 2 ^ 50 + e10 := ⟨_, rfl⟩
  obtain ⟨e14, he14⟩ : ∃ e, e = e13 * 2 ^ 5 + e5 := ⟨_, rfl⟩
  have HE : Hid (Pows e1 e3 e4 e5 e6 e7 e8 e9 e10 e11 e12 e13 e14) := ⟨he1, he3, he4, he5, he6, he7, he8, he9, he10, he11, he12, he13, he14⟩
  have HR : Hid (x ^ (M.Q - 2) % M.Q = P e14) := by rw [Hid, hP.out, pows_all HE.out]
  have H1 : Hid (Fl A (P e1)) := by rw [hP.out, he1]; show Fl A (x ^ 1 % M.Q); rw [Nat.pow_one, Nat.mod_eq_of_lt hA.lt]; exact hA
  have CM : Hid (∀ K L a b c w, Fl K (P a) → Fl L (P b) → c = a + b → Calls Tryd.prog 61 #[.agg K.toArray, .agg L.toArray] w (GivesE Fl w (P c))) := by
    rw [hP.out]
    intro K L a b c w h1 h2 h3
    have := fmul_any K L _ _ w h1 h2
    rw [pow_plus, ← h3] at this
    exact this
  have CS : Hid (∀ K a w, Fl K (P a) → Calls Tryd.prog 87 #[.agg K.toArray] w (GivesE Fl w (P (a + a)))) := by
    rw [hP.out]
    intro K a w h1
    have := fsquare_any K _ w h1
    rw [pow_plus] at this
    exact this
  have CQ : Hid (∀ K a (n : Nat) w, Fl K (P a) → n < 1000 → Calls Tryd.prog 94 #[.agg K.toArray, .int .i64 (n : Int)] w (GivesE Fl w (P (a * 2 ^ n)))) := by
    rw [hP.out]
    intro K a n w h1 h2
    have := fsquared_any K _ n w h1 h2
    rw [pow_sqs] at this
    exact this
  rw [HR.out]
  have HAl : Hid (A.length = 5) := hA.len
  clear hA hP HR he1 he3 he4 he5 he6 he7 he8 he9 he10 he11 he12 he13 he14
  obtain ⟨g1, hg1⟩ : ∃ g, g = w.heap.size := ⟨_, rfl⟩
  obtain ⟨W, hW⟩ : ∃ W, Hid (W = (w.alloc (.cells A.toArray 62)).alloc (.cells z5.toArray 62)) := ⟨_, rfl⟩
  have B1 : Hid (Blk W g1 62 A) := by rw [hW.out, hg1]; exact (Blk.newAt _ _ _ _ _ rfl rfl).alloc _
  have B2 : Hid (Blk W (g1 + 1) 62 z5) := by rw [hW.out, hg1]; exact Blk.newAt _ _ _ _ _ (by simp) rfl
  have K0 : Hid (Below w.heap.size w W) := by rw [hW.out]; exact ((Below.refl _ _).alloc (Nat.le_refl _) _).alloc (by simp) _
  have HG : Hid (w.heap.size ≤ g1 + 1) := by rw [Hid]; omega
  go_enter Tryd.func62, Tryd.ntmps62
  go_upto_region 1 with fail
  rw [← z5_arr, ← hW.out, ← hg1]
  clear hW hg1
  go_wp2_with (first | (refine wpList_load_el rfl (.tmp 1) rfl g1 rfl A B1.out HAl.out ?_))
  refine (CS.out A e1 _ H1.out).mono ?_
  rintro e w3 ⟨L3, rfl, h3, k3⟩
  rw [← HE.out.2.1] at h3
  have H3 := Lib.hid h3
  have HX3 : Hid (g1 + 1 < w3.heap.size) := Nat.lt_of_lt_of_le B2.out.lt k3.size
  obtain ⟨g3, hg3⟩ : ∃ v, v = w3.heap.size := ⟨_, rfl⟩
  have N3 : Blk (w3.alloc (.cells z5.toArray 62)) g3 62 z5 := Blk.newAt _ _ _ _ _ hg3 rfl
  rw [← hg3] at HX3
  go_upto_region 2 with (rw [← z5_arr, ← hg3]; refine wpList_store_el rfl rfl (.tmp 3) (.tmp 15) rfl g3 rfl L3 z5 rfl N3 z5_len h3.len h3.one ?_; intro X3 hb3 ho3)
  have U3 : Below W.heap.size W X3 := (k3.alloc k3.size _).trans (ho3.below (by have := k3.size; simp; omega) (by have := k3.size; omega))
  have KK3 : Hid (Below w.heap.size w X3) := K0.out.trans (U3.mono K0.out.size)
  have Q1 : Hid (Blk X3 g1 62 A) := B1.out.below U3 B1.out.lt
  have Q2 : Hid (Blk X3 (g1 + 1) 62 z5) := B2.out.below U3 B2.out.lt
  clear B1
  clear B2
  have B1 := Q1
  clear Q1
  have B2 := Q2
  clear Q2
  have B3 : Hid (Blk X3 g3 62 L3) := hb3
  clear hb3 ho3 h3 N3 hg3 k3 U3 K0
  go_upto_region 2 with fail
  go_cut [4] from 14 (fun s wx => ∃ (gd : Nat) (L : List Value), s = .pointer (some ⟨gd, 0, none⟩) ∧ Hid (Fl L (P e4)) ∧ Hid (Blk wx gd 62 L) ∧ Hid (Below X3.heap.size X3 wx) ∧ Hid (X3.heap.size ≤ gd))
  case first =>
    refine wp_region_any (by kernel_rfl) ?_
    change wpAny _ _ _ _ _ _ _ (World.drew _)
    refine wpAny_of_held (S := fun w' => w'.rangeAt g3 0 L3 ∧ w'.rangeAt g1 0 A) _ _ _ _ ?_
    have y0 : Below X3.heap.size X3 X3.drew := below_draws X3 1
    refine wpAnyH_take_at (i := 0) (v := .agg L3.toArray) rfl rfl (by kernel_rfl) (by kernel_rfl) (by kernel_rfl) (fun _ _ _ h => h) (yieldsIf_load_mid (by rfl) 62 (.tmp 3) rfl g3 0 rfl L3 _ (fun w h => h.1) Tryd.underlying62 rfl (by rw [H3.out.len]; kernel_rfl)) ⟨(B3.out.below y0 B3.out.lt).range 0 _ [] (by simp), (B1.out.below y0 B1.out.lt).range 0 _ [] (by simp)⟩ ?_
    simp only [List.setIfInBounds_toArray, List.set_cons_zero, List.set_cons_succ]
    refine wpAnyH_take_at (i := 2) (v := .agg A.toArray) rfl rfl (by kernel_rfl) (by kernel_rfl) (by kernel_rfl) (fun _ _ _ h => h) (yieldsIf_load_mid (by rfl) 62 (.tmp 1) rfl g1 0 rfl A _ (fun w h => h.2) Tryd.underlying62 rfl (by rw [HAl.out]; kernel_rfl)) ⟨(B3.out.below y0 B3.out.lt).range 0 _ [] (by simp), (B1.out.below y0 B1.out.lt).range 0 _ [] (by simp)⟩ ?_
    simp only [List.setIfInBounds_toArray, List.set_cons_zero, List.set_cons_succ]
    refine wpAnyH_ready (rs := [1, 4]) (by kernel_rfl) (by simp) ?_
    refine AllReadyH.cons rfl (fun KC hK => ?_) (AllReadyH.cons rfl (fun KC hK => ?_) AllReadyH.nil)
    · skip
      go_simp
      refine (CQ.out L3 e3 2 _ H3.out (by decide)).mono ?_
      rintro e v1 ⟨T1, rfl, hT1, zc1⟩
      have y1 := y0.trans (zc1.mono y0.size)
      refine hK _ _ ⟨(B3.out.below y1 B3.out.lt).range 0 _ [] (by simp), (B1.out.below y1 B1.out.lt).range 0 _ [] (by simp)⟩ (fun _ => ?_)
      clear hK KC
      refine wpAnyH_ready (rs := [3, 4]) (by kernel_rfl) (by simp) ?_
      refine AllReadyH.cons rfl (fun KC hK => ?_) (AllReadyH.cons rfl (fun KC hK => ?_) AllReadyH.nil)
      · skip
        go_simp
        refine (CM.out T1 A (e3 * 2 ^ 2) e1 e4 _ hT1 H1.out HE.out.2.2.1).mono ?_
        rintro e v2 ⟨T2, rfl, hT2, zc2⟩
        have y2 := y1.trans (zc2.mono y1.size)
        refine hK _ _ ⟨(B3.out.below y2 B3.out.lt).range 0 _ [] (by simp), (B1.out.below y2 B1.out.lt).range 0 _ [] (by simp)⟩ (fun _ => ?_)
        clear hK KC
        refine wpAnyH_ready (rs := [4]) (by kernel_rfl) (by simp) ?_
        refine AllReadyH.cons rfl (fun KC hK => ?_) AllReadyH.nil
        go_simp
        obtain ⟨gd, hgd⟩ : ∃ v, v = v2.heap.size := ⟨_, rfl⟩
        rw [← z5_arr, ← hgd]
        have hgl : X3.heap.size ≤ gd := by rw [hgd]; exact y2.size
        have N0 : Hid (Blk (v2.alloc (.cells z5.toArray 62)) gd 62 z5) := Blk.newAt _ _ _ _ _ hgd rfl
        have y3 : Below X3.heap.size X3 (v2.alloc (.cells z5.toArray 62)) := y2.alloc y2.size _
        obtain ⟨v3, hv3⟩ : ∃ v, v = v2.alloc (.cells z5.toArray 62) := ⟨_, rfl⟩
        rw [← hv3] at y3 N0 ⊢
        refine hK _ _ ⟨(B3.out.below y3 B3.out.lt).range 0 _ [] (by simp), (B1.out.below y3 B1.out.lt).range 0 _ [] (by simp)⟩ (fun _ => ?_)
        clear hK KC hgd hv3
        refine wpAnyH_ready (rs := [5]) (by kernel_rfl) (by simp) ?_
        refine AllReadyH.cons rfl (fun KC hK => ?_) AllReadyH.nil
        refine step_store_blk rfl 62 (.tmp 4) (.tmp 19) rfl gd T2.toArray rfl rfl 62 z5 N0.out (by rw [List.size_toArray, hT2.len]; kernel_rfl) (by rw [List.size_toArray, hT2.len, z5_len]) hT2.one ?_
        intro w3 hb3 ho3
        have ye : Below X3.heap.size X3 w3 := y3.trans (ho3.below y3.size hgl)
        refine hK _ _ ⟨((B3.out.below ye B3.out.lt)).range 0 _ [] (by simp), ((B1.out.below ye B1.out.lt)).range 0 _ [] (by simp)⟩ (fun _ => ?_)
        clear hK KC
        refine wpAnyH_done (by kernel_rfl) ?_ _
        go_wp2_with fail
        go_meet
        case rel => exact ⟨gd, T2, rfl, hT2, hb3, ye, hgl⟩
      · skip
        go_simp
        obtain ⟨gd, hgd⟩ : ∃ v, v = v1.heap.size := ⟨_, rfl⟩
        rw [← z5_arr, ← hgd]
        have hgl : X3.heap.size ≤ gd := by rw [hgd]; exact y1.size
        have N0 : Hid (Blk (v1.alloc (.cells z5.toArray 62)) gd 62 z5) := Blk.newAt _ _ _ _ _ hgd rfl
        have y4 : Below X3.heap.size X3 (v1.alloc (.cells z5.toArray 62)) := y1.alloc y1.size _
        obtain ⟨v4, hv4⟩ : ∃ v, v = v1.alloc (.cells z5.toArray 62) := ⟨_, rfl⟩
        rw [← hv4] at y4 N0 ⊢
        refine hK _ _ ⟨(B3.out.below y4 B3.out.lt).range 0 _ [] (by simp), (B1.out.below y4 B1.out.lt).range 0 _ [] (by simp)⟩ (fun _ => ?_)
        clear hK KC hgd hv4
        refine wpAnyH_ready (rs := [3]) (by kernel_rfl) (by simp) ?_
        refine AllReadyH.cons rfl (fun KC hK => ?_) AllReadyH.nil
        go_simp
        refine (CM.out T1 A (e3 * 2 ^ 2) e1 e4 _ hT1 H1.out HE.out.2.2.1).mono ?_
        rintro e v5 ⟨T2, rfl, hT2, zc5⟩
        have y5 := y4.trans (zc5.mono y4.size)
        have N0 : Hid (Blk v5 gd 62 z5) := N0.out.below zc5 N0.out.lt
        refine hK _ _ ⟨(B3.out.below y5 B3.out.lt).range 0 _ [] (by simp), (B1.out.below y5 B1.out.lt).range 0 _ [] (by simp)⟩ (fun _ => ?_)
        clear hK KC
        refine wpAnyH_ready (rs := [5]) (by kernel_rfl) (by simp) ?_
        refine AllReadyH.cons rfl (fun KC hK => ?_) AllReadyH.nil
        refine step_store_blk rfl 62 (.tmp 4) (.tmp 19) rfl gd T2.toArray rfl rfl 62 z5 N0.out (by rw [List.size_toArray, hT2.len]; kernel_rfl) (by rw [List.size_toArray, hT2.len, z5_len]) hT2.one ?_
        intro w3 hb3 ho3
        have ye : Below X3.heap.size X3 w3 := y5.trans (ho3.below y5.size hgl)
        refine hK _ _ ⟨((B3.out.below ye B3.out.lt)).range 0 _ [] (by simp), ((B1.out.below ye B1.out.lt)).range 0 _ [] (by simp)⟩ (fun _ => ?_)
        clear hK KC
        refine wpAnyH_done (by kernel_rfl) ?_ _
        go_wp2_with fail
        go_meet
        case rel => exact ⟨gd, T2, rfl, hT2, hb3, ye, hgl⟩
    · skip
      go_simp
      obtain ⟨gd, hgd⟩ : ∃ v, v = X3.heap.size := ⟨_, rfl⟩
      rw [← hgd]
      have hgl : X3.heap.size ≤ gd := by rw [hgd]; exact Nat.le_refl _
      have N0 : Hid (Blk (X3.alloc (.cells z5.toArray 62)).drew gd 62 z5) := (Blk.newAt _ _ _ _ _ hgd rfl).drew
      have y6 : Below X3.heap.size X3 (X3.alloc (.cells z5.toArray 62)).drew := drewN_below ((Below.refl _ _).alloc (Nat.le_refl _) _) 1
      obtain ⟨v6, hv6⟩ : ∃ v, v = (X3.alloc (.cells z5.toArray 62)).drew := ⟨_, rfl⟩
      first | rw [← hv6] | rw [← z5_arr, ← hv6]
      rw [← hv6] at y6 N0
      refine hK _ _ ⟨(B3.out.below y6 B3.out.lt).range 0 _ [] (by simp), (B1.out.below y6 B1.out.lt).range 0 _ [] (by simp)⟩ (fun _ => ?_)
      clear hK KC hgd hv6
      refine wpAnyH_ready (rs := [1]) (by kernel_rfl) (by simp) ?_
      refine AllReadyH.cons rfl (fun KC hK => ?_) AllReadyH.nil
      go_simp
      refine (CQ.out L3 e3 2 _ H3.out (by decide)).mono ?_
      rintro e v7 ⟨T1, rfl, hT1, zc7⟩
      have y7 := y6.trans (zc7.mono y6.size)
      have N0 : Hid (Blk v7 gd 62 z5) := N0.out.below zc7 N0.out.lt
      refine hK _ _ ⟨(B3.out.below y7 B3.out.lt).range 0 _ [] (by simp), (B1.out.below y7 B1.out.lt).range 0 _ [] (by simp)⟩ (fun _ => ?_)
      clear hK KC
      refine wpAnyH_ready (rs := [3]) (by kernel_rfl) (by simp) ?_
      refine AllReadyH.cons rfl (fun KC hK => ?_) AllReadyH.nil
      go_simp
      refine (CM.out T1 A (e3 * 2 ^ 2) e1 e4 _ hT1 H1.out HE.out.2.2.1).mono ?_
      rintro e v8 ⟨T2, rfl, hT2, zc8⟩
      have y8 := y7.trans (zc8.mono y7.size)
      have N0 : Hid (Blk v8 gd 62 z5) := N0.out.below zc8 N0.out.lt
      refine hK _ _ ⟨(B3.out.below y8 B3.out.lt).range 0 _ [] (by simp), (B1.out.below y8 B1.out.lt).range 0 _ [] (by simp)⟩ (fun _ => ?_)
      clear hK KC
      refine wpAnyH_ready (rs := [5]) (by kernel_rfl) (by simp) ?_
      refine AllReadyH.cons rfl (fun KC hK => ?_) AllReadyH.nil
      refine step_store_blk rfl 62 (.tmp 4) (.tmp 19) rfl gd T2.toArray rfl rfl 62 z5 N0.out (by rw [List.size_toArray, hT2.len]; kernel_rfl) (by rw [List.size_toArray, hT2.len, z5_len]) hT2.one ?_
      intro w3 hb3 ho3
      have ye : Below X3.heap.size X3 w3 := y8.trans (ho3.below y8.size hgl)
      refine hK _ _ ⟨((B3.out.below ye B3.out.lt)).range 0 _ [] (by simp), ((B1.out.below ye B1.out.lt)).range 0 _ [] (by simp)⟩ (fun _ => ?_)
      clear hK KC
      refine wpAnyH_done (by kernel_rfl) ?_ _
      go_wp2_with fail
      go_meet
      case rel => exact ⟨gd, T2, rfl, hT2, hb3, ye, hgl⟩
  case rest =>
  obtain ⟨g4, L4, rfl, H4, N4, U4, G4⟩ := hcut
  obtain ⟨X4, rfl⟩ : ∃ x, x = wc := ⟨_, rfl⟩
  have KK4 : Hid (Below w.heap.size w X4) := KK3.out.trans (U4.out.mono KK3.out.size)
  clear G4
  have Q1 : Hid (Blk X4 g1 62 A) := B1.out.below U4.out B1.out.lt
  have Q2 : Hid (Blk X4 (g1 + 1) 62 z5) := B2.out.below U4.out B2.out.lt
  have Q3 : Hid (Blk X4 g3 62 L3) := B3.out.below U4.out B3.out.lt
  clear B1
  clear B2
  clear B3
  have B1 := Q1
  clear Q1
  have B2 := Q2
  clear Q2
  have B3 := Q3
  clear Q3
  have B4 := N4
  clear N4 U4 KK3
  go_wp2_with (first | (refine wpList_load_el rfl (.tmp 4) rfl g4 rfl L4 B4.out H4.out.len ?_) | (refine wpList_load_el rfl (.tmp 3) rfl g3 rfl L3 B3.out H3.out.len ?_))
  refine (CM.out L4 L3 e4 e3 e5 _ H4.out H3.out HE.out.2.2.2.1).mono ?_
  rintro e w5 ⟨L5, rfl, h5, k5⟩
  have H5 := Lib.hid h5
  have HX5 : Hid (g1 + 1 < w5.heap.size) := Nat.lt_of_lt_of_le B2.out.lt k5.size
  obtain ⟨g5, hg5⟩ : ∃ v, v = w5.heap.size := ⟨_, rfl⟩
  have N5 : Blk (w5.alloc (.cells z5.toArray 62)) g5 62 z5 := Blk.newAt _ _ _ _ _ hg5 rfl
  rw [← hg5] at HX5
  go_upto_region 4 with (rw [← z5_arr, ← hg5]; refine wpList_store_el rfl rfl (.tmp 5) (.tmp 22) rfl g5 rfl L5 z5 rfl N5 z5_len h5.len h5.one ?_; intro X5 hb5 ho5)
  have U5 : Below X4.heap.size X4 X5 := (k5.alloc k5.size _).trans (ho5.below (by have := k5.size; simp; omega) (by have := k5.size; omega))
  have KK5 : Hid (Below w.heap.size w X5) := KK4.out.trans (U5.mono KK4.out.size)
  have Q1 : Hid (Blk X5 g1 62 A) := B1.out.below U5 B1.out.lt
  have Q2 : Hid (Blk X5 (g1 + 1) 62 z5) := B2.out.below U5 B2.out.lt
  have Q3 : Hid (Blk X5 g3 62 L3) := B3.out.below U5 B3.out.lt
  have Q4 : Hid (Blk X5 g4 62 L4) := B4.out.below U5 B4.out.lt
  clear B1
  clear B2
  clear B3
  clear B4
  have B1 := Q1
  clear Q1
  have B2 := Q2
  clear Q2
  have B3 := Q3
  clear Q3
  have B4 := Q4
  clear Q4
  have B5 : Hid (Blk X5 g5 62 L5) := hb5
  clear hb5 ho5 h5 N5 hg5 k5 U5 KK4
  go_upto_region 4 with fail
  go_cut [6] from 14 (fun s wx => ∃ (gd : Nat) (L : List Value), s = .pointer (some ⟨gd, 0, none⟩) ∧ Hid (Fl L (P e6)) ∧ Hid (Blk wx gd 62 L) ∧ Hid (Below X5.heap.size X5 wx) ∧ Hid (X5.heap.size ≤ gd))
  case first =>
    refine wp_region_any (by kernel_rfl) ?_
    change wpAny _ _ _ _ _ _ _ (World.drew _)
    refine wpAny_of_held (S := fun w' => w'.rangeAt g5 0 L5 ∧ w'.rangeAt g4 0 L4) _ _ _ _ ?_
    have y0 : Below X5.heap.size X5 X5.drew := below_draws X5 1
    refine wpAnyH_take_at (i := 0) (v := .agg L5.toArray) rfl rfl (by kernel_rfl) (by kernel_rfl) (by kernel_rfl) (fun _ _ _ h => h) (yieldsIf_load_mid (by rfl) 62 (.tmp 5) rfl g5 0 rfl L5 _ (fun w h => h.1) Tryd.underlying62 rfl (by rw [H5.out.len]; kernel_rfl)) ⟨(B5.out.below y0 B5.out.lt).range 0 _ [] (by simp), (B4.out.below y0 B4.out.lt).range 0 _ [] (by simp)⟩ ?_
    simp only [List.setIfInBounds_toArray, List.set_cons_zero, List.set_cons_succ]
    refine wpAnyH_take_at (i := 2) (v := .agg L4.toArray) rfl rfl (by kernel_rfl) (by kernel_rfl) (by kernel_rfl) (fun _ _ _ h => h) (yieldsIf_load_mid (by rfl) 62 (.tmp 4) rfl g4 0 rfl L4 _ (fun w h => h.2) Tryd.underlying62 rfl (by rw [H4.out.len]; kernel_rfl)) ⟨(B5.out.below y0 B5.out.lt).range 0 _ [] (by simp), (B4.out.below y0 B4.out.lt).range 0 _ [] (by simp)⟩ ?_
    simp only [List.setIfInBounds_toArray, List.set_cons_zero, List.set_cons_succ]
    refine wpAnyH_ready (rs := [1, 4]) (by kernel_rfl) (by simp) ?_
    refine AllReadyH.cons rfl (fun KC hK => ?_) (AllReadyH.cons rfl (fun KC hK => ?_) AllReadyH.nil)
    · skip
      go_simp
      refine (CS.out L5 e5 _ H5.out).mono ?_
      rintro e v1 ⟨T1, rfl, hT1, zc1⟩
      have y1 := y0.trans (zc1.mono y0.size)
      refine hK _ _ ⟨(B5.out.below y1 B5.out.lt).range 0 _ [] (by simp), (B4.out.below y1 B4.out.lt).range 0 _ [] (by simp)⟩ (fun _ => ?_)
      clear hK KC
      refine wpAnyH_ready (rs := [3, 4]) (by kernel_rfl) (by simp) ?_
      refine AllReadyH.cons rfl (fun KC hK => ?_) (AllReadyH.cons rfl (fun KC hK => ?_) AllReadyH.nil)
      · skip
        go_simp
        refine (CM.out T1 L4 (e5 + e5) e4 e6 _ hT1 H4.out HE.out.2.2.2.2.1).mono ?_
        rintro e v2 ⟨T2, rfl, hT2, zc2⟩
        have y2 := y1.trans (zc2.mono y1.size)
        refine hK _ _ ⟨(B5.out.below y2 B5.out.lt).range 0 _ [] (by simp), (B4.out.below y2 B4.out.lt).range 0 _ [] (by simp)⟩ (fun _ => ?_)
        clear hK KC
        refine wpAnyH_ready (rs := [4]) (by kernel_rfl) (by simp) ?_
        refine AllReadyH.cons rfl (fun KC hK => ?_) AllReadyH.nil
        go_simp
        obtain ⟨gd, hgd⟩ : ∃ v, v = v2.heap.size := ⟨_, rfl⟩
        rw [← z5_arr, ← hgd]
        have hgl : X5.heap.size ≤ gd := by rw [hgd]; exact y2.size
        have N0 : Hid (Blk (v2.alloc (.cells z5.toArray 62)) gd 62 z5) := Blk.newAt _ _ _ _ _ hgd rfl
        have y3 : Below X5.heap.size X5 (v2.alloc (.cells z5.toArray 62)) := y2.alloc y2.size _
        obtain ⟨v3, hv3⟩ : ∃ v, v = v2.alloc (.cells z5.toArray 62) := ⟨_, rfl⟩
        rw [← hv3] at y3 N0 ⊢
        refine hK _ _ ⟨(B5.out.below y3 B5.out.lt).range 0 _ [] (by simp), (B4.out.below y3 B4.out.lt).range 0 _ [] (by simp)⟩ (fun _ => ?_)
        clear hK KC hgd hv3
        refine wpAnyH_ready (rs := [5]) (by kernel_rfl) (by simp) ?_
        refine AllReadyH.cons rfl (fun KC hK => ?_) AllReadyH.nil
        refine step_store_blk rfl 62 (.tmp 6) (.tmp 26) rfl gd T2.toArray rfl rfl 62 z5 N0.out (by rw [List.size_toArray, hT2.len]; kernel_rfl) (by rw [List.size_toArray, hT2.len, z5_len]) hT2.one ?_
        intro w3 hb3 ho3
        have ye : Below X5.heap.size X5 w3 := y3.trans (ho3.below y3.size hgl)
        refine hK _ _ ⟨((B5.out.below ye B5.out.lt)).range 0 _ [] (by simp), ((B4.out.below ye B4.out.lt)).range 0 _ [] (by simp)⟩ (fun _ => ?_)
        clear hK KC
        refine wpAnyH_done (by kernel_rfl) ?_ _
        go_wp2_with fail
        go_meet
        case rel => exact ⟨gd, T2, rfl, hT2, hb3, ye, hgl⟩
      · skip
        go_simp
        obtain ⟨gd, hgd⟩ : ∃ v, v = v1.heap.size := ⟨_, rfl⟩
        rw [← z5_arr, ← hgd]
        have hgl : X5.heap.size ≤ gd := by rw [hgd]; exact y1.size
        have N0 : Hid (Blk (v1.alloc (.cells z5.toArray 62)) gd 62 z5) := Blk.newAt _ _ _ _ _ hgd rfl
        have y4 : Below X5.heap.size X5 (v1.alloc (.cells z5.toArray 62)) := y1.alloc y1.size _
        obtain ⟨v4, hv4⟩ : ∃ v, v = v1.alloc (.cells z5.toArray 62) := ⟨_, rfl⟩
        rw [← hv4] at y4 N0 ⊢
        refine hK _ _ ⟨(B5.out.below y4 B5.out.lt).range 0 _ [] (by simp), (B4.out.below y4 B4.out.lt).range 0 _ [] (by simp)⟩ (fun _ => ?_)
        clear hK KC hgd hv4
        refine wpAnyH_ready (rs := [3]) (by kernel_rfl) (by simp) ?_
        refine AllReadyH.cons rfl (fun KC hK => ?_) AllReadyH.nil
        go_simp
        refine (CM.out T1 L4 (e5 + e5) e4 e6 _ hT1 H4.out HE.out.2.2.2.2.1).mono ?_
        rintro e v5 ⟨T2, rfl, hT2, zc5⟩
        have y5 := y4.trans (zc5.mono y4.size)
        have N0 : Hid (Blk v5 gd 62 z5) := N0.out.below zc5 N0.out.lt
        refine hK _ _ ⟨(B5.out.below y5 B5.out.lt).range 0 _ [] (by simp), (B4.out.below y5 B4.out.lt).range 0 _ [] (by simp)⟩ (fun _ => ?_)
        clear hK KC
        refine wpAnyH_ready (rs := [5]) (by kernel_rfl) (by simp) ?_
        refine AllReadyH.cons rfl (fun KC hK => ?_) AllReadyH.nil
        refine step_store_blk rfl 62 (.tmp 6) (.tmp 26) rfl gd T2.toArray rfl rfl 62 z5 N0.out (by rw [List.size_toArray, hT2.len]; kernel_rfl) (by rw [List.size_toArray, hT2.len, z5_len]) hT2.one ?_
        intro w3 hb3 ho3
        have ye : Below X5.heap.size X5 w3 := y5.trans (ho3.below y5.size hgl)
        refine hK _ _ ⟨((B5.out.below ye B5.out.lt)).range 0 _ [] (by simp), ((B4.out.below ye B4.out.lt)).range 0 _ [] (by simp)⟩ (fun _ => ?_)
        clear hK KC
        refine wpAnyH_done (by kernel_rfl) ?_ _
        go_wp2_with fail
        go_meet
        case rel => exact ⟨gd, T2, rfl, hT2, hb3, ye, hgl⟩
    · skip
      go_simp
      obtain ⟨gd, hgd⟩ : ∃ v, v = X5.heap.size := ⟨_, rfl⟩
      rw [← hgd]
      have hgl : X5.heap.size ≤ gd := by rw [hgd]; exact Nat.le_refl _
      have N0 : Hid (Blk (X5.alloc (.cells z5.toArray 62)).drew gd 62 z5) := (Blk.newAt _ _ _ _ _ hgd rfl).drew
      have y6 : Below X5.heap.size X5 (X5.alloc (.cells z5.toArray 62)).drew := drewN_below ((Below.refl _ _).alloc (Nat.le_refl _) _) 1
      obtain ⟨v6, hv6⟩ : ∃ v, v = (X5.alloc (.cells z5.toArray 62)).drew := ⟨_, rfl⟩
      first | rw [← hv6] | rw [← z5_arr, ← hv6]
      rw [← hv6] at y6 N0
      refine hK _ _ ⟨(B5.out.below y6 B5.out.lt).range 0 _ [] (by simp), (B4.out.below y6 B4.out.lt).range 0 _ [] (by simp)⟩ (fun _ => ?_)
      clear hK KC hgd hv6
      refine wpAnyH_ready (rs := [1]) (by kernel_rfl) (by simp) ?_
      refine AllReadyH.cons rfl (fun KC hK => ?_) AllReadyH.nil
      go_simp
      refine (CS.out L5 e5 _ H5.out).mono ?_
      rintro e v7 ⟨T1, rfl, hT1, zc7⟩
      have y7 := y6.trans (zc7.mono y6.size)
      have N0 : Hid (Blk v7 gd 62 z5) := N0.out.below zc7 N0.out.lt
      refine hK _ _ ⟨(B5.out.below y7 B5.out.lt).range 0 _ [] (by simp), (B4.out.below y7 B4.out.lt).range 0 _ [] (by simp)⟩ (fun _ => ?_)
      clear hK KC
      refine wpAnyH_ready (rs := [3]) (by kernel_rfl) (by simp) ?_
      refine AllReadyH.cons rfl (fun KC hK => ?_) AllReadyH.nil
      go_simp
      refine (CM.out T1 L4 (e5 + e5) e4 e6 _ hT1 H4.out HE.out.2.2.2.2.1).mono ?_
      rintro e v8 ⟨T2, rfl, hT2, zc8⟩
      have y8 := y7.trans (zc8.mono y7.size)
      have N0 : Hid (Blk v8 gd 62 z5) := N0.out.below zc8 N0.out.lt
      refine hK _ _ ⟨(B5.out.below y8 B5.out.lt).range 0 _ [] (by simp), (B4.out.below y8 B4.out.lt).range 0 _ [] (by simp)⟩ (fun _ => ?_)
      clear hK KC
      refine wpAnyH_ready (rs := [5]) (by kernel_rfl) (by simp) ?_
      refine AllReadyH.cons rfl (fun KC hK => ?_) AllReadyH.nil
      refine step_store_blk rfl 62 (.tmp 6) (.tmp 26) rfl gd T2.toArray rfl rfl 62 z5 N0.out (by rw [List.size_toArray, hT2.len]; kernel_rfl) (by rw [List.size_toArray, hT2.len, z5_len]) hT2.one ?_
      intro w3 hb3 ho3
      have ye : Below X5.heap.size X5 w3 := y8.trans (ho3.below y8.size hgl)
      refine hK _ _ ⟨((B5.out.below ye B5.out.lt)).range 0 _ [] (by simp), ((B4.out.below ye B4.out.lt)).range 0 _ [] (by simp)⟩ (fun _ => ?_)
      clear hK KC
      refine wpAnyH_done (by kernel_rfl) ?_ _
      go_wp2_with fail
      go_meet
      case rel => exact ⟨gd, T2, rfl, hT2, hb3, ye, hgl⟩
  case rest =>
  obtain ⟨g6, L6, rfl, H6, N6, U6, G6⟩ := hcut
  obtain ⟨X6, rfl⟩ : ∃ x, x = wc := ⟨_, rfl⟩
  have KK6 : Hid (Below w.heap.size w X6) := KK5.out.trans (U6.out.mono KK5.out.size)
  clear G6
  have Q1 : Hid (Blk X6 g1 62 A) := B1.out.below U6.out B1.out.lt
  have Q2 : Hid (Blk X6 (g1 + 1) 62 z5) := B2.out.below U6.out B2.out.lt
  have Q3 : Hid (Blk X6 g3 62 L3) := B3.out.below U6.out B3.out.lt
  have Q4 : Hid (Blk X6 g4 62 L4) := B4.out.below U6.out B4.out.lt
  have Q5 : Hid (Blk X6 g5 62 L5) := B5.out.below U6.out B5.out.lt
  clear B1
  clear B2
  clear B3
  clear B4
  clear B5
  have B1 := Q1
  clear Q1
  have B2 := Q2
  clear Q2
  have B3 := Q3
  clear Q3
  have B4 := Q4
  clear Q4
  have B5 := Q5
  clear Q5
  have B6 := N6
  clear N6 U6 KK5
  go_upto_region 5 with fail
  go_cut [7] from 14 (fun s wx => ∃ (gd : Nat) (L : List Value), s = .pointer (some ⟨gd, 0, none⟩) ∧ Hid (Fl L (P e7)) ∧ Hid (Blk wx gd 62 L) ∧ Hid (Below X6.heap.size X6 wx) ∧ Hid (X6.heap.size ≤ gd))
  case first =>
    refine wp_region_any (by kernel_rfl) ?_
    change wpAny _ _ _ _ _ _ _ (World.drew _)
    refine wpAny_of_held (S := fun w' => w'.rangeAt g6 0 L6 ∧ w'.rangeAt g6 0 L6) _ _ _ _ ?_
    have y0 : Below X6.heap.size X6 X6.drew := below_draws X6 1
    refine wpAnyH_take_at (i := 0) (v := .agg L6.toArray) rfl rfl (by kernel_rfl) (by kernel_rfl) (by kernel_rfl) (fun _ _ _ h => h) (yieldsIf_load_mid (by rfl) 62 (.tmp 6) rfl g6 0 rfl L6 _ (fun w h => h.1) Tryd.underlying62 rfl (by rw [H6.out.len]; kernel_rfl)) ⟨(B6.out.below y0 B6.out.lt).range 0 _ [] (by simp), (B6.out.below y0 B6.out.lt).range 0 _ [] (by simp)⟩ ?_
    simp only [List.setIfInBounds_toArray, List.set_cons_zero, List.set_cons_succ]
    refine wpAnyH_take_at (i := 2) (v := .agg L6.toArray) rfl rfl (by kernel_rfl) (by kernel_rfl) (by kernel_rfl) (fun _ _ _ h => h) (yieldsIf_load_mid (by rfl) 62 (.tmp 6) rfl g6 0 rfl L6 _ (fun w h => h.2) Tryd.underlying62 rfl (by rw [H6.out.len]; kernel_rfl)) ⟨(B6.out.below y0 B6.out.lt).range 0 _ [] (by simp), (B6.out.below y0 B6.out.lt).range 0 _ [] (by simp)⟩ ?_
    simp only [List.setIfInBounds_toArray, List.set_cons_zero, List.set_cons_succ]
    refine wpAnyH_ready (rs := [1, 4]) (by kernel_rfl) (by simp) ?_
    refine AllReadyH.cons rfl (fun KC hK => ?_) (AllReadyH.cons rfl (fun KC hK => ?_) AllReadyH.nil)
    · skip
      go_simp
      refine (CQ.out L6 e6 5 _ H6.out (by decide)).mono ?_
      rintro e v1 ⟨T1, rfl, hT1, zc1⟩
      have y1 := y0.trans (zc1.mono y0.size)
      refine hK _ _ ⟨(B6.out.below y1 B6.out.lt).range 0 _ [] (by simp), (B6.out.below y1 B6.out.lt).range 0 _ [] (by simp)⟩ (fun _ => ?_)
      clear hK KC
      refine wpAnyH_ready (rs := [3, 4]) (by kernel_rfl) (by simp) ?_
      refine AllReadyH.cons rfl (fun KC hK => ?_) (AllReadyH.cons rfl (fun KC hK => ?_) AllReadyH.nil)
      · skip
        go_simp
        refine (CM.out T1 L6 (e6 * 2 ^ 5) e6 e7 _ hT1 H6.out HE.out.2.2.2.2.2.1).mono ?_
        rintro e v2 ⟨T2, rfl, hT2, zc2⟩
        have y2 := y1.trans (zc2.mono y1.size)
        refine hK _ _ ⟨(B6.out.below y2 B6.out.lt).range 0 _ [] (by simp), (B6.out.below y2 B6.out.lt).range 0 _ [] (by simp)⟩ (fun _ => ?_)
        clear hK KC
        refine wpAnyH_ready (rs := [4]) (by kernel_rfl) (by simp) ?_
        refine AllReadyH.cons rfl (fun KC hK => ?_) AllReadyH.nil
        go_simp
        obtain ⟨gd, hgd⟩ : ∃ v, v = v2.heap.size := ⟨_, rfl⟩
        rw [← z5_arr, ← hgd]
        have hgl : X6.heap.size ≤ gd := by rw [hgd]; exact y2.size
        have N0 : Hid (Blk (v2.alloc (.cells z5.toArray 62)) gd 62 z5) := Blk.newAt _ _ _ _ _ hgd rfl
        have y3 : Below X6.heap.size X6 (v2.alloc (.cells z5.toArray 62)) := y2.alloc y2.size _
        obtain ⟨v3, hv3⟩ : ∃ v, v = v2.alloc (.cells z5.toArray 62) := ⟨_, rfl⟩
        rw [← hv3] at y3 N0 ⊢
        refine hK _ _ ⟨(B6.out.below y3 B6.out.lt).range 0 _ [] (by simp), (B6.out.below y3 B6.out.lt).range 0 _ [] (by simp)⟩ (fun _ => ?_)
        clear hK KC hgd hv3
        refine wpAnyH_ready (rs := [5]) (by kernel_rfl) (by simp) ?_
        refine AllReadyH.cons rfl (fun KC hK => ?_) AllReadyH.nil
        refine step_store_blk rfl 62 (.tmp 7) (.tmp 30) rfl gd T2.toArray rfl rfl 62 z5 N0.out (by rw [List.size_toArray, hT2.len]; kernel_rfl) (by rw [List.size_toArray, hT2.len, z5_len]) hT2.one ?_
        intro w3 hb3 ho3
        have ye : Below X6.heap.size X6 w3 := y3.trans (ho3.below y3.size hgl)
        refine hK _ _ ⟨((B6.out.below ye B6.out.lt)).range 0 _ [] (by simp), ((B6.out.below ye B6.out.lt)).range 0 _ [] (by simp)⟩ (fun _ => ?_)
        clear hK KC
        refine wpAnyH_done (by kernel_rfl) ?_ _
        go_wp2_with fail
        go_meet
        case rel => exact ⟨gd, T2, rfl, hT2, hb3, ye, hgl⟩
      · skip
        go_simp
        obtain ⟨gd, hgd⟩ : ∃ v, v = v1.heap.size := ⟨_, rfl⟩
        rw [← z5_arr, ← hgd]
        have hgl : X6.heap.size ≤ gd := by rw [hgd]; exact y1.size
        have N0 : Hid (Blk (v1.alloc (.cells z5.toArray 62)) gd 62 z5) := Blk.newAt _ _ _ _ _ hgd rfl
        have y4 : Below X6.heap.size X6 (v1.alloc (.cells z5.toArray 62)) := y1.alloc y1.size _
        obtain ⟨v4, hv4⟩ : ∃ v, v = v1.alloc (.cells z5.toArray 62) := ⟨_, rfl⟩
        rw [← hv4] at y4 N0 ⊢
        refine hK _ _ ⟨(B6.out.below y4 B6.out.lt).range 0 _ [] (by simp), (B6.out.below y4 B6.out.lt).range 0 _ [] (by simp)⟩ (fun _ => ?_)
        clear hK KC hgd hv4
        refine wpAnyH_ready (rs := [3]) (by kernel_rfl) (by simp) ?_
        refine AllReadyH.cons rfl (fun KC hK => ?_) AllReadyH.nil
        go_simp
        refine (CM.out T1 L6 (e6 * 2 ^ 5) e6 e7 _ hT1 H6.out HE.out.2.2.2.2.2.1).mono ?_
        rintro e v5 ⟨T2, rfl, hT2, zc5⟩
        have y5 := y4.trans (zc5.mono y4.size)
        have N0 : Hid (Blk v5 gd 62 z5) := N0.out.below zc5 N0.out.lt
        refine hK _ _ ⟨(B6.out.below y5 B6.out.lt).range 0 _ [] (by simp), (B6.out.below y5 B6.out.lt).range 0 _ [] (by simp)⟩ (fun _ => ?_)
        clear hK KC
        refine wpAnyH_ready (rs := [5]) (by kernel_rfl) (by simp) ?_
        refine AllReadyH.cons rfl (fun KC hK => ?_) AllReadyH.nil
        refine step_store_blk rfl 62 (.tmp 7) (.tmp 30) rfl gd T2.toArray rfl rfl 62 z5 N0.out (by rw [List.size_toArray, hT2.len]; kernel_rfl) (by rw [List.size_toArray, hT2.len, z5_len]) hT2.one ?_
        intro w3 hb3 ho3
        have ye : Below X6.heap.size X6 w3 := y5.trans (ho3.below y5.size hgl)
        refine hK _ _ ⟨((B6.out.below ye B6.out.lt)).range 0 _ [] (by simp), ((B6.out.below ye B6.out.lt)).range 0 _ [] (by simp)⟩ (fun _ => ?_)
        clear hK KC
        refine wpAnyH_done (by kernel_rfl) ?_ _
        go_wp2_with fail
        go_meet
        case rel => exact ⟨gd, T2, rfl, hT2, hb3, ye, hgl⟩
    · skip
      go_simp
      obtain ⟨gd, hgd⟩ : ∃ v, v = X6.heap.size := ⟨_, rfl⟩
      rw [← hgd]
      have hgl : X6.heap.size ≤ gd := by rw [hgd]; exact Nat.le_refl _
      have N0 : Hid (Blk (X6.alloc (.cells z5.toArray 62)).drew gd 62 z5) := (Blk.newAt _ _ _ _ _ hgd rfl).drew
      have y6 : Below X6.heap.size X6 (X6.alloc (.cells z5.toArray 62)).drew := drewN_below ((Below.refl _ _).alloc (Nat.le_refl _) _) 1
      obtain ⟨v6, hv6⟩ : ∃ v, v = (X6.alloc (.cells z5.toArray 62)).drew := ⟨_, rfl⟩
      first | rw [← hv6] | rw [← z5_arr, ← hv6]
      rw [← hv6] at y6 N0
      refine hK _ _ ⟨(B6.out.below y6 B6.out.lt).range 0 _ [] (by simp), (B6.out.below y6 B6.out.lt).range 0 _ [] (by simp)⟩ (fun _ => ?_)
      clear hK KC hgd hv6
      refine wpAnyH_ready (rs := [1]) (by kernel_rfl) (by simp) ?_
      refine AllReadyH.cons rfl (fun KC hK => ?_) AllReadyH.nil
      go_simp
      refine (CQ.out L6 e6 5 _ H6.out (by decide)).mono ?_
      rintro e v7 ⟨T1, rfl, hT1, zc7⟩
      have y7 := y6.trans (zc7.mono y6.size)
      have N0 : Hid (Blk v7 gd 62 z5) := N0.out.below zc7 N0.out.lt
      refine hK _ _ ⟨(B6.out.below y7 B6.out.lt).range 0 _ [] (by simp), (B6.out.below y7 B6.out.lt).range 0 _ [] (by simp)⟩ (fun _ => ?_)
      clear hK KC
      refine wpAnyH_ready (rs := [3]) (by kernel_rfl) (by simp) ?_
      refine AllReadyH.cons rfl (fun KC hK => ?_) AllReadyH.nil
      go_simp
      refine (CM.out T1 L6 (e6 * 2 ^ 5) e6 e7 _ hT1 H6.out HE.out.2.2.2.2.2.1).mono ?_
      rintro e v8 ⟨T2, rfl, hT2, zc8⟩
      have y8 := y7.trans (zc8.mono y7.size)
      have N0 : Hid (Blk v8 gd 62 z5) := N0.out.below zc8 N0.out.lt
      refine hK _ _ ⟨(B6.out.below y8 B6.out.lt).range 0 _ [] (by simp), (B6.out.below y8 B6.out.lt).range 0 _ [] (by simp)⟩ (fun _ => ?_)
      clear hK KC
      refine wpAnyH_ready (rs := [5]) (by kernel_rfl) (by simp) ?_
      refine AllReadyH.cons rfl (fun KC hK => ?_) AllReadyH.nil
      refine step_store_blk rfl 62 (.tmp 7) (.tmp 30) rfl gd T2.toArray rfl rfl 62 z5 N0.out (by rw [List.size_toArray, hT2.len]; kernel_rfl) (by rw [List.size_toArray, hT2.len, z5_len]) hT2.one ?_
      intro w3 hb3 ho3
      have ye : Below X6.heap.size X6 w3 := y8.trans (ho3.below y8.size hgl)
      refine hK _ _ ⟨((B6.out.below ye B6.out.lt)).range 0 _ [] (by simp), ((B6.out.below ye B6.out.lt)).range 0 _ [] (by simp)⟩ (fun _ => ?_)
      clear hK KC
      refine wpAnyH_done (by kernel_rfl) ?_ _
      go_wp2_with fail
      go_meet
      case rel => exact ⟨gd, T2, rfl, hT2, hb3, ye, hgl⟩
  case rest =>
  obtain ⟨g7, L7, rfl, H7, N7, U7, G7⟩ := hcut
  obtain ⟨X7, rfl⟩ : ∃ x, x = wc := ⟨_, rfl⟩
  have KK7 : Hid (Below w.heap.size w X7) := KK6.out.trans (U7.out.mono KK6.out.size)
  clear G7
  have Q1 : Hid (Blk X7 g1 62 A) := B1.out.below U7.out B1.out.lt
  have Q2 : Hid (Blk X7 (g1 + 1) 62 z5) := B2.out.below U7.out B2.out.lt
  have Q3 : Hid (Blk X7 g3 62 L3) := B3.out.below U7.out B3.out.lt
  have Q4 : Hid (Blk X7 g4 62 L4) := B4.out.below U7.out B4.out.lt
  have Q5 : Hid (Blk X7 g5 62 L5) := B5.out.below U7.out B5.out.lt
  have Q6 : Hid (Blk X7 g6 62 L6) := B6.out.below U7.out B6.out.lt
  clear B1
  clear B2
  clear B3
  clear B4
  clear B5
  clear B6
  have B1 := Q1
  clear Q1
  have B2 := Q2
  clear Q2
  have B3 := Q3
  clear Q3
  have B4 := Q4
  clear Q4
  have B5 := Q5
  clear Q5
  have B6 := Q6
  clear Q6
  have B7 := N7
  clear N7 U7 KK6
  go_upto_region 6 with fail
  go_cut [8] from 14 (fun s wx => ∃ (gd : Nat) (L : List Value), s = .pointer (some ⟨gd, 0, none⟩) ∧ Hid (Fl L (P e8)) ∧ Hid (Blk wx gd 62 L) ∧ Hid (Below X7.heap.size X7 wx) ∧ Hid (X7.heap.size ≤ gd))
  case first =>
    refine wp_region_any (by kernel_rfl) ?_
    change wpAny _ _ _ _ _ _ _ (World.drew _)
    refine wpAny_of_held (S := fun w' => w'.rangeAt g7 0 L7 ∧ w'.rangeAt g7 0 L7) _ _ _ _ ?_
    have y0 : Below X7.heap.size X7 X7.drew := below_draws X7 1
    refine wpAnyH_take_at (i := 0) (v := .agg L7.toArray) rfl rfl (by kernel_rfl) (by kernel_rfl) (by kernel_rfl) (fun _ _ _ h => h) (yieldsIf_load_mid (by rfl) 62 (.tmp 7) rfl g7 0 rfl L7 _ (fun w h => h.1) Tryd.underlying62 rfl (by rw [H7.out.len]; kernel_rfl)) ⟨(B7.out.below y0 B7.out.lt).range 0 _ [] (by simp), (B7.out.below y0 B7.out.lt).range 0 _ [] (by simp)⟩ ?_
    simp only [List.setIfInBounds_toArray, List.set_cons_zero, List.set_cons_succ]
    refine wpAnyH_take_at (i := 2) (v := .agg L7.toArray) rfl rfl (by kernel_rfl) (by kernel_rfl) (by kernel_rfl) (fun _ _ _ h => h) (yieldsIf_load_mid (by rfl) 62 (.tmp 7) rfl g7 0 rfl L7 _ (fun w h => h.2) Tryd.underlying62 rfl (by rw [H7.out.len]; kernel_rfl)) ⟨(B7.out.below y0 B7.out.lt).range 0 _ [] (by simp), (B7.out.below y0 B7.out.lt).range 0 _ [] (by simp)⟩ ?_
    simp only [List.setIfInBounds_toArray, List.set_cons_zero, List.set_cons_succ]
    refine wpAnyH_ready (rs := [1, 4]) (by kernel_rfl) (by simp) ?_
    refine AllReadyH.cons rfl (fun KC hK => ?_) (AllReadyH.cons rfl (fun KC hK => ?_) AllReadyH.nil)
    · skip
      go_simp
      refine (CQ.out L7 e7 10 _ H7.out (by decide)).mono ?_
      rintro e v1 ⟨T1, rfl, hT1, zc1⟩
      have y1 := y0.trans (zc1.mono y0.size)
      refine hK _ _ ⟨(B7.out.below y1 B7.out.lt).range 0 _ [] (by simp), (B7.out.below y1 B7.out.lt).range 0 _ [] (by simp)⟩ (fun _ => ?_)
      clear hK KC
      refine wpAnyH_ready (rs := [3, 4]) (by kernel_rfl) (by simp) ?_
      refine AllReadyH.cons rfl (fun KC hK => ?_) (AllReadyH.cons rfl (fun KC hK => ?_) AllReadyH.nil)
      · skip
        go_simp
        refine (CM.out T1 L7 (e7 * 2 ^ 10) e7 e8 _ hT1 H7.out HE.out.2.2.2.2.2.2.1).mono ?_
        rintro e v2 ⟨T2, rfl, hT2, zc2⟩
        have y2 := y1.trans (zc2.mono y1.size)
        refine hK _ _ ⟨(B7.out.below y2 B7.out.lt).range 0 _ [] (by simp), (B7.out.below y2 B7.out.lt).range 0 _ [] (by simp)⟩ (fun _ => ?_)
        clear hK KC
        refine wpAnyH_ready (rs := [4]) (by kernel_rfl) (by simp) ?_
        refine AllReadyH.cons rfl (fun KC hK => ?_) AllReadyH.nil
        go_simp
        obtain ⟨gd, hgd⟩ : ∃ v, v = v2.heap.size := ⟨_, rfl⟩
        rw [← z5_arr, ← hgd]
        have hgl : X7.heap.size ≤ gd := by rw [hgd]; exact y2.size
        have N0 : Hid (Blk (v2.alloc (.cells z5.toArray 62)) gd 62 z5) := Blk.newAt _ _ _ _ _ hgd rfl
        have y3 : Below X7.heap.size X7 (v2.alloc (.cells z5.toArray 62)) := y2.alloc y2.size _
        obtain ⟨v3, hv3⟩ : ∃ v, v = v2.alloc (.cells z5.toArray 62) := ⟨_, rfl⟩
        rw [← hv3] at y3 N0 ⊢
        refine hK _ _ ⟨(B7.out.below y3 B7.out.lt).range 0 _ [] (by simp), (B7.out.below y3 B7.out.lt).range 0 _ [] (by simp)⟩ (fun _ => ?_)
        clear hK KC hgd hv3
        refine wpAnyH_ready (rs := [5]) (by kernel_rfl) (by simp) ?_
        refine AllReadyH.cons rfl (fun KC hK => ?_) AllReadyH.nil
        refine step_store_blk rfl 62 (.tmp 8) (.tmp 34) rfl gd T2.toArray rfl rfl 62 z5 N0.out (by rw [List.size_toArray, hT2.len]; kernel_rfl) (by rw [List.size_toArray, hT2.len, z5_len]) hT2.one ?_
        intro w3 hb3 ho3
        have ye : Below X7.heap.size X7 w3 := y3.trans (ho3.below y3.size hgl)
        refine hK _ _ ⟨((B7.out.below ye B7.out.lt)).range 0 _ [] (by simp), ((B7.out.below ye B7.out.lt)).range 0 _ [] (by simp)⟩ (fun _ => ?_)
        clear hK KC
        refine wpAnyH_done (by kernel_rfl) ?_ _
        go_wp2_with fail
        go_meet
        case rel => exact ⟨gd, T2, rfl, hT2, hb3, ye, hgl⟩
      · skip
        go_simp
        obtain ⟨gd, hgd⟩ : ∃ v, v = v1.heap.size := ⟨_, rfl⟩
        rw [← z5_arr, ← hgd]
        have hgl : X7.heap.size ≤ gd := by rw [hgd]; exact y1.size
        have N0 : Hid (Blk (v1.alloc (.cells z5.toArray 62)) gd 62 z5) := Blk.newAt _ _ _ _ _ hgd rfl
        have y4 : Below X7.heap.size X7 (v1.alloc (.cells z5.toArray 62)) := y1.alloc y1.size _
        obtain ⟨v4, hv4⟩ : ∃ v, v = v1.alloc (.cells z5.toArray 62) := ⟨_, rfl⟩
        rw [← hv4] at y4 N0 ⊢
        refine hK _ _ ⟨(B7.out.below y4 B7.out.lt).range 0 _ [] (by simp), (B7.out.below y4 B7.out.lt).range 0 _ [] (by simp)⟩ (fun _ => ?_)
        clear hK KC hgd hv4
        refine wpAnyH_ready (rs := [3]) (by kernel_rfl) (by simp) ?_
        refine AllReadyH.cons rfl (fun KC hK => ?_) AllReadyH.nil
        go_simp
        refine (CM.out T1 L7 (e7 * 2 ^ 10) e7 e8 _ hT1 H7.out HE.out.2.2.2.2.2.2.1).mono ?_
        rintro e v5 ⟨T2, rfl, hT2, zc5⟩
        have y5 := y4.trans (zc5.mono y4.size)
        have N0 : Hid (Blk v5 gd 62 z5) := N0.out.below zc5 N0.out.lt
        refine hK _ _ ⟨(B7.out.below y5 B7.out.lt).range 0 _ [] (by simp), (B7.out.below y5 B7.out.lt).range 0 _ [] (by simp)⟩ (fun _ => ?_)
        clear hK KC
        refine wpAnyH_ready (rs := [5]) (by kernel_rfl) (by simp) ?_
        refine AllReadyH.cons rfl (fun KC hK => ?_) AllReadyH.nil
        refine step_store_blk rfl 62 (.tmp 8) (.tmp 34) rfl gd T2.toArray rfl rfl 62 z5 N0.out (by rw [List.size_toArray, hT2.len]; kernel_rfl) (by rw [List.size_toArray, hT2.len, z5_len]) hT2.one ?_
        intro w3 hb3 ho3
        have ye : Below X7.heap.size X7 w3 := y5.trans (ho3.below y5.size hgl)
        refine hK _ _ ⟨((B7.out.below ye B7.out.lt)).range 0 _ [] (by simp), ((B7.out.below ye B7.out.lt)).range 0 _ [] (by simp)⟩ (fun _ => ?_)
        clear hK KC
        refine wpAnyH_done (by kernel_rfl) ?_ _
        go_wp2_with fail
        go_meet
        case rel => exact ⟨gd, T2, rfl, hT2, hb3, ye, hgl⟩
    · skip
      go_simp
      obtain ⟨gd, hgd⟩ : ∃ v, v = X7.heap.size := ⟨_, rfl⟩
      rw [← hgd]
      have hgl : X7.heap.size ≤ gd := by rw [hgd]; exact Nat.le_refl _
      have N0 : Hid (Blk (X7.alloc (.cells z5.toArray 62)).drew gd 62 z5) := (Blk.newAt _ _ _ _ _ hgd rfl).drew
      have y6 : Below X7.heap.size X7 (X7.alloc (.cells z5.toArray 62)).drew := drewN_below ((Below.refl _ _).alloc (Nat.le_refl _) _) 1
      obtain ⟨v6, hv6⟩ : ∃ v, v = (X7.alloc (.cells z5.toArray 62)).drew := ⟨_, rfl⟩
      first | rw [← hv6] | rw [← z5_arr, ← hv6]
      rw [← hv6] at y6 N0
      refine hK _ _ ⟨(B7.out.below y6 B7.out.lt).range 0 _ [] (by simp), (B7.out.below y6 B7.out.lt).range 0 _ [] (by simp)⟩ (fun _ => ?_)
      clear hK KC hgd hv6
      refine wpAnyH_ready (rs := [1]) (by kernel_rfl) (by simp) ?_
      refine AllReadyH.cons rfl (fun KC hK => ?_) AllReadyH.nil
      go_simp
      refine (CQ.out L7 e7 10 _ H7.out (by decide)).mono ?_
      rintro e v7 ⟨T1, rfl, hT1, zc7⟩
      have y7 := y6.trans (zc7.mono y6.size)
      have N0 : Hid (Blk v7 gd 62 z5) := N0.out.below zc7 N0.out.lt
      refine hK _ _ ⟨(B7.out.below y7 B7.out.lt).range 0 _ [] (by simp), (B7.out.below y7 B7.out.lt).range 0 _ [] (by simp)⟩ (fun _ => ?_)
      clear hK KC
      refine wpAnyH_ready (rs := [3]) (by kernel_rfl) (by simp) ?_
      refine AllReadyH.cons rfl (fun KC hK => ?_) AllReadyH.nil
      go_simp
      refine (CM.out T1 L7 (e7 * 2 ^ 10) e7 e8 _ hT1 H7.out HE.out.2.2.2.2.2.2.1).mono ?_
      rintro e v8 ⟨T2, rfl, hT2, zc8⟩
      have y8 := y7.trans (zc8.mono y7.size)
      have N0 : Hid (Blk v8 gd 62 z5) := N0.out.below zc8 N0.out.lt
      refine hK _ _ ⟨(B7.out.below y8 B7.out.lt).range 0 _ [] (by simp), (B7.out.below y8 B7.out.lt).range 0 _ [] (by simp)⟩ (fun _ => ?_)
      clear hK KC
      refine wpAnyH_ready (rs := [5]) (by kernel_rfl) (by simp) ?_
      refine AllReadyH.cons rfl (fun KC hK => ?_) AllReadyH.nil
      refine step_store_blk rfl 62 (.tmp 8) (.tmp 34) rfl gd T2.toArray rfl rfl 62 z5 N0.out (by rw [List.size_toArray, hT2.len]; kernel_rfl) (by rw [List.size_toArray, hT2.len, z5_len]) hT2.one ?_
      intro w3 hb3 ho3
      have ye : Below X7.heap.size X7 w3 := y8.trans (ho3.below y8.size hgl)
      refine hK _ _ ⟨((B7.out.below ye B7.out.lt)).range 0 _ [] (by simp), ((B7.out.below ye B7.out.lt)).range 0 _ [] (by simp)⟩ (fun _ => ?_)
      clear hK KC
      refine wpAnyH_done (by kernel_rfl) ?_ _
      go_wp2_with fail
      go_meet
      case rel => exact ⟨gd, T2, rfl, hT2, hb3, ye, hgl⟩
  case rest =>
  obtain ⟨g8, L8, rfl, H8, N8, U8, G8⟩ := hcut
  obtain ⟨X8, rfl⟩ : ∃ x, x = wc := ⟨_, rfl⟩
  have KK8 : Hid (Below w.heap.size w X8) := KK7.out.trans (U8.out.mono KK7.out.size)
  clear G8
  have Q1 : Hid (Blk X8 g1 62 A) := B1.out.below U8.out B1.out.lt
  have Q2 : Hid (Blk X8 (g1 + 1) 62 z5) := B2.out.below U8.out B2.out.lt
  have Q3 : Hid (Blk X8 g3 62 L3) := B3.out.below U8.out B3.out.lt
  have Q4 : Hid (Blk X8 g4 62 L4) := B4.out.below U8.out B4.out.lt
  have Q5 : Hid (Blk X8 g5 62 L5) := B5.out.below U8.out B5.out.lt
  have Q6 : Hid (Blk X8 g6 62 L6) := B6.out.below U8.out B6.out.lt
  have Q7 : Hid (Blk X8 g7 62 L7) := B7.out.below U8.out B7.out.lt
  clear B1
  clear B2
  clear B3
  clear B4
  clear B5
  clear B6
  clear B7
  have B1 := Q1
  clear Q1
  have B2 := Q2
  clear Q2
  have B3 := Q3
  clear Q3
  have B4 := Q4
  clear Q4
  have B5 := Q5
  clear Q5
  have B6 := Q6
  clear Q6
  have B7 := Q7
  clear Q7
  have B8 := N8
  clear N8 U8 KK7
  go_upto_region 7 with fail
  go_cut [9] from 14 (fun s wx => ∃ (gd : Nat) (L : List Value), s = .pointer (some ⟨gd, 0, none⟩) ∧ Hid (Fl L (P e9)) ∧ Hid (Blk wx gd 62 L) ∧ Hid (Below X8.heap.size X8 wx) ∧ Hid (X8.heap.size ≤ gd))
  case first =>
    refine wp_region_any (by kernel_rfl) ?_
    change wpAny _ _ _ _ _ _ _ (World.drew _)
    refine wpAny_of_held (S := fun w' => w'.rangeAt g8 0 L8 ∧ w'.rangeAt g8 0 L8) _ _ _ _ ?_
    have y0 : Below X8.heap.size X8 X8.drew := below_draws X8 1
    refine wpAnyH_take_at (i := 0) (v := .agg L8.toArray) rfl rfl (by kernel_rfl) (by kernel_rfl) (by kernel_rfl) (fun _ _ _ h => h) (yieldsIf_load_mid (by rfl) 62 (.tmp 8) rfl g8 0 rfl L8 _ (fun w h => h.1) Tryd.underlying62 rfl (by rw [H8.out.len]; kernel_rfl)) ⟨(B8.out.below y0 B8.out.lt).range 0 _ [] (by simp), (B8.out.below y0 B8.out.lt).range 0 _ [] (by simp)⟩ ?_
    simp only [List.setIfInBounds_toArray, List.set_cons_zero, List.set_cons_succ]
    refine wpAnyH_take_at (i := 2) (v := .agg L8.toArray) rfl rfl (by kernel_rfl) (by kernel_rfl) (by kernel_rfl) (fun _ _ _ h => h) (yieldsIf_load_mid (by rfl) 62 (.tmp 8) rfl g8 0 rfl L8 _ (fun w h => h.2) Tryd.underlying62 rfl (by rw [H8.out.len]; kernel_rfl)) ⟨(B8.out.below y0 B8.out.lt).range 0 _ [] (by simp), (B8.out.below y0 B8.out.lt).range 0 _ [] (by simp)⟩ ?_
    simp only [List.setIfInBounds_toArray, List.set_cons_zero, List.set_cons_succ]
    refine wpAnyH_ready (rs := [1, 4]) (by kernel_rfl) (by simp) ?_
    refine AllReadyH.cons rfl (fun KC hK => ?_) (AllReadyH.cons rfl (fun KC hK => ?_) AllReadyH.nil)
    · skip
      go_simp
      refine (CQ.out L8 e8 20 _ H8.out (by decide)).mono ?_
      rintro e v1 ⟨T1, rfl, hT1, zc1⟩
      have y1 := y0.trans (zc1.mono y0.size)
      refine hK _ _ ⟨(B8.out.below y1 B8.out.lt).range 0 _ [] (by simp), (B8.out.below y1 B8.out.lt).range 0 _ [] (by simp)⟩ (fun _ => ?_)
      clear hK KC
      refine wpAnyH_ready (rs := [3, 4]) (by kernel_rfl) (by simp) ?_
      refine AllReadyH.cons rfl (fun KC hK => ?_) (AllReadyH.cons rfl (fun KC hK => ?_) AllReadyH.nil)
      · skip
        go_simp
        refine (CM.out T1 L8 (e8 * 2 ^ 20) e8 e9 _ hT1 H8.out HE.out.2.2.2.2.2.2.2.1).mono ?_
        rintro e v2 ⟨T2, rfl, hT2, zc2⟩
        have y2 := y1.trans (zc2.mono y1.size)
        refine hK _ _ ⟨(B8.out.below y2 B8.out.lt).range 0 _ [] (by simp), (B8.out.below y2 B8.out.lt).range 0 _ [] (by simp)⟩ (fun _ => ?_)
        clear hK KC
        refine wpAnyH_ready (rs := [4]) (by kernel_rfl) (by simp) ?_
        refine AllReadyH.cons rfl (fun KC hK => ?_) AllReadyH.nil
        go_simp
        obtain ⟨gd, hgd⟩ : ∃ v, v = v2.heap.size := ⟨_, rfl⟩
        rw [← z5_arr, ← hgd]
        have hgl : X8.heap.size ≤ gd := by rw [hgd]; exact y2.size
        have N0 : Hid (Blk (v2.alloc (.cells z5.toArray 62)) gd 62 z5) := Blk.newAt _ _ _ _ _ hgd rfl
        have y3 : Below X8.heap.size X8 (v2.alloc (.cells z5.toArray 62)) := y2.alloc y2.size _
        obtain ⟨v3, hv3⟩ : ∃ v, v = v2.alloc (.cells z5.toArray 62) := ⟨_, rfl⟩
        rw [← hv3] at y3 N0 ⊢
        refine hK _ _ ⟨(B8.out.below y3 B8.out.lt).range 0 _ [] (by simp), (B8.out.below y3 B8.out.lt).range 0 _ [] (by simp)⟩ (fun _ => ?_)
        clear hK KC hgd hv3
        refine wpAnyH_ready (rs := [5]) (by kernel_rfl) (by simp) ?_
        refine AllReadyH.cons rfl (fun KC hK => ?_) AllReadyH.nil
        refine step_store_blk rfl 62 (.tmp 9) (.tmp 38) rfl gd T2.toArray rfl rfl 62 z5 N0.out (by rw [List.size_toArray, hT2.len]; kernel_rfl) (by rw [List.size_toArray, hT2.len, z5_len]) hT2.one ?_
        intro w3 hb3 ho3
        have ye : Below X8.heap.size X8 w3 := y3.trans (ho3.below y3.size hgl)
        refine hK _ _ ⟨((B8.out.below ye B8.out.lt)).range 0 _ [] (by simp), ((B8.out.below ye B8.out.lt)).range 0 _ [] (by simp)⟩ (fun _ => ?_)
        clear hK KC
        refine wpAnyH_done (by kernel_rfl) ?_ _
        go_wp2_with fail
        go_meet
        case rel => exact ⟨gd, T2, rfl, hT2, hb3, ye, hgl⟩
      · skip
        go_simp
        obtain ⟨gd, hgd⟩ : ∃ v, v = v1.heap.size := ⟨_, rfl⟩
        rw [← z5_arr, ← hgd]
        have hgl : X8.heap.size ≤ gd := by rw [hgd]; exact y1.size
        have N0 : Hid (Blk (v1.alloc (.cells z5.toArray 62)) gd 62 z5) := Blk.newAt _ _ _ _ _ hgd rfl
        have y4 : Below X8.heap.size X8 (v1.alloc (.cells z5.toArray 62)) := y1.alloc y1.size _
        obtain ⟨v4, hv4⟩ : ∃ v, v = v1.alloc (.cells z5.toArray 62) := ⟨_, rfl⟩
        rw [← hv4] at y4 N0 ⊢
        refine hK _ _ ⟨(B8.out.below y4 B8.out.lt).range 0 _ [] (by simp), (B8.out.below y4 B8.out.lt).range 0 _ [] (by simp)⟩ (fun _ => ?_)
        clear hK KC hgd hv4
        refine wpAnyH_ready (rs := [3]) (by kernel_rfl) (by simp) ?_
        refine AllReadyH.cons rfl (fun KC hK => ?_) AllReadyH.nil
        go_simp
        refine (CM.out T1 L8 (e8 * 2 ^ 20) e8 e9 _ hT1 H8.out HE.out.2.2.2.2.2.2.2.1).mono ?_
        rintro e v5 ⟨T2, rfl, hT2, zc5⟩
        have y5 := y4.trans (zc5.mono y4.size)
        have N0 : Hid (Blk v5 gd 62 z5) := N0.out.below zc5 N0.out.lt
        refine hK _ _ ⟨(B8.out.below y5 B8.out.lt).range 0 _ [] (by simp), (B8.out.below y5 B8.out.lt).range 0 _ [] (by simp)⟩ (fun _ => ?_)
        clear hK KC
        refine wpAnyH_ready (rs := [5]) (by kernel_rfl) (by simp) ?_
        refine AllReadyH.cons rfl (fun KC hK => ?_) AllReadyH.nil
        refine step_store_blk rfl 62 (.tmp 9) (.tmp 38) rfl gd T2.toArray rfl rfl 62 z5 N0.out (by rw [List.size_toArray, hT2.len]; kernel_rfl) (by rw [List.size_toArray, hT2.len, z5_len]) hT2.one ?_
        intro w3 hb3 ho3
        have ye : Below X8.heap.size X8 w3 := y5.trans (ho3.below y5.size hgl)
        refine hK _ _ ⟨((B8.out.below ye B8.out.lt)).range 0 _ [] (by simp), ((B8.out.below ye B8.out.lt)).range 0 _ [] (by simp)⟩ (fun _ => ?_)
        clear hK KC
        refine wpAnyH_done (by kernel_rfl) ?_ _
        go_wp2_with fail
        go_meet
        case rel => exact ⟨gd, T2, rfl, hT2, hb3, ye, hgl⟩
    · skip
      go_simp
      obtain ⟨gd, hgd⟩ : ∃ v, v = X8.heap.size := ⟨_, rfl⟩
      rw [← hgd]
      have hgl : X8.heap.size ≤ gd := by rw [hgd]; exact Nat.le_refl _
      have N0 : Hid (Blk (X8.alloc (.cells z5.toArray 62)).drew gd 62 z5) := (Blk.newAt _ _ _ _ _ hgd rfl).drew
      have y6 : Below X8.heap.size X8 (X8.alloc (.cells z5.toArray 62)).drew := drewN_below ((Below.refl _ _).alloc (Nat.le_refl _) _) 1
      obtain ⟨v6, hv6⟩ : ∃ v, v = (X8.alloc (.cells z5.toArray 62)).drew := ⟨_, rfl⟩
      first | rw [← hv6] | rw [← z5_arr, ← hv6]
      rw [← hv6] at y6 N0
      refine hK _ _ ⟨(B8.out.below y6 B8.out.lt).range 0 _ [] (by simp), (B8.out.below y6 B8.out.lt).range 0 _ [] (by simp)⟩ (fun _ => ?_)
      clear hK KC hgd hv6
      refine wpAnyH_ready (rs := [1]) (by kernel_rfl) (by simp) ?_
      refine AllReadyH.cons rfl (fun KC hK => ?_) AllReadyH.nil
      go_simp
      refine (CQ.out L8 e8 20 _ H8.out (by decide)).mono ?_
      rintro e v7 ⟨T1, rfl, hT1, zc7⟩
      have y7 := y6.trans (zc7.mono y6.size)
      have N0 : Hid (Blk v7 gd 62 z5) := N0.out.below zc7 N0.out.lt
      refine hK _ _ ⟨(B8.out.below y7 B8.out.lt).range 0 _ [] (by simp), (B8.out.below y7 B8.out.lt).range 0 _ [] (by simp)⟩ (fun _ => ?_)
      clear hK KC
      refine wpAnyH_ready (rs := [3]) (by kernel_rfl) (by simp) ?_
      refine AllReadyH.cons rfl (fun KC hK => ?_) AllReadyH.nil
      go_simp
      refine (CM.out T1 L8 (e8 * 2 ^ 20) e8 e9 _ hT1 H8.out HE.out.2.2.2.2.2.2.2.1).mono ?_
      rintro e v8 ⟨T2, rfl, hT2, zc8⟩
      have y8 := y7.trans (zc8.mono y7.size)
      have N0 : Hid (Blk v8 gd 62 z5) := N0.out.below zc8 N0.out.lt
      refine hK _ _ ⟨(B8.out.below y8 B8.out.lt).range 0 _ [] (by simp), (B8.out.below y8 B8.out.lt).range 0 _ [] (by simp)⟩ (fun _ => ?_)
      clear hK KC
      refine wpAnyH_ready (rs := [5]) (by kernel_rfl) (by simp) ?_
      refine AllReadyH.cons rfl (fun KC hK => ?_) AllReadyH.nil
      refine step_store_blk rfl 62 (.tmp 9) (.tmp 38) rfl gd T2.toArray rfl rfl 62 z5 N0.out (by rw [List.size_toArray, hT2.len]; kernel_rfl) (by rw [List.size_toArray, hT2.len, z5_len]) hT2.one ?_
      intro w3 hb3 ho3
      have ye : Below X8.heap.size X8 w3 := y8.trans (ho3.below y8.size hgl)
      refine hK _ _ ⟨((B8.out.below ye B8.out.lt)).range 0 _ [] (by simp), ((B8.out.below ye B8.out.lt)).range 0 _ [] (by simp)⟩ (fun _ => ?_)
      clear hK KC
      refine wpAnyH_done (by kernel_rfl) ?_ _
      go_wp2_with fail
      go_meet
      case rel => exact ⟨gd, T2, rfl, hT2, hb3, ye, hgl⟩
  case rest =>
  obtain ⟨g9, L9, rfl, H9, N9, U9, G9⟩ := hcut
  obtain ⟨X9, rfl⟩ : ∃ x, x = wc := ⟨_, rfl⟩
  have KK9 : Hid (Below w.heap.size w X9) := KK8.out.trans (U9.out.mono KK8.out.size)
  clear G9
  have Q1 : Hid (Blk X9 g1 62 A) := B1.out.below U9.out B1.out.lt
  have Q2 : Hid (Blk X9 (g1 + 1) 62 z5) := B2.out.below U9.out B2.out.lt
  have Q3 : Hid (Blk X9 g3 62 L3) := B3.out.below U9.out B3.out.lt
  have Q4 : Hid (Blk X9 g4 62 L4) := B4.out.below U9.out B4.out.lt
  have Q5 : Hid (Blk X9 g5 62 L5) := B5.out.below U9.out B5.out.lt
  have Q6 : Hid (Blk X9 g6 62 L6) := B6.out.below U9.out B6.out.lt
  have Q7 : Hid (Blk X9 g7 62 L7) := B7.out.below U9.out B7.out.lt
  have Q8 : Hid (Blk X9 g8 62 L8) := B8.out.below U9.out B8.out.lt
  clear B1
  clear B2
  clear B3
  clear B4
  clear B5
  clear B6
  clear B7
  clear B8
  have B1 := Q1
  clear Q1
  have B2 := Q2
  clear Q2
  have B3 := Q3
  clear Q3
  have B4 := Q4
  clear Q4
  have B5 := Q5
  clear Q5
  have B6 := Q6
  clear Q6
  have B7 := Q7
  clear Q7
  have B8 := Q8
  clear Q8
  have B9 := N9
  clear N9 U9 KK8
  go_upto_region 8 with fail
  go_cut [10] from 14 (fun s wx => ∃ (gd : Nat) (L : List Value), s = .pointer (some ⟨gd, 0, none⟩) ∧ Hid (Fl L (P e10)) ∧ Hid (Blk wx gd 62 L) ∧ Hid (Below X9.heap.size X9 wx) ∧ Hid (X9.heap.size ≤ gd))
  case first =>
    refine wp_region_any (by kernel_rfl) ?_
    change wpAny _ _ _ _ _ _ _ (World.drew _)
    refine wpAny_of_held (S := fun w' => w'.rangeAt g9 0 L9 ∧ w'.rangeAt g7 0 L7) _ _ _ _ ?_
    have y0 : Below X9.heap.size X9 X9.drew := below_draws X9 1
    refine wpAnyH_take_at (i := 0) (v := .agg L9.toArray) rfl rfl (by kernel_rfl) (by kernel_rfl) (by kernel_rfl) (fun _ _ _ h => h) (yieldsIf_load_mid (by rfl) 62 (.tmp 9) rfl g9 0 rfl L9 _ (fun w h => h.1) Tryd.underlying62 rfl (by rw [H9.out.len]; kernel_rfl)) ⟨(B9.out.below y0 B9.out.lt).range 0 _ [] (by simp), (B7.out.below y0 B7.out.lt).range 0 _ [] (by simp)⟩ ?_
    simp only [List.setIfInBounds_toArray, List.set_cons_zero, List.set_cons_succ]
    refine wpAnyH_take_at (i := 2) (v := .agg L7.toArray) rfl rfl (by kernel_rfl) (by kernel_rfl) (by kernel_rfl) (fun _ _ _ h => h) (yieldsIf_load_mid (by rfl) 62 (.tmp 7) rfl g7 0 rfl L7 _ (fun w h => h.2) Tryd.underlying62 rfl (by rw [H7.out.len]; kernel_rfl)) ⟨(B9.out.below y0 B9.out.lt).range 0 _ [] (by simp), (B7.out.below y0 B7.out.lt).range 0 _ [] (by simp)⟩ ?_
    simp only [List.setIfInBounds_toArray, List.set_cons_zero, List.set_cons_succ]
    refine wpAnyH_ready (rs := [1, 4]) (by kernel_rfl) (by simp) ?_
    refine AllReadyH.cons rfl (fun KC hK => ?_) (AllReadyH.cons rfl (fun KC hK => ?_) AllReadyH.nil)
    · skip
      go_simp
      refine (CQ.out L9 e9 10 _ H9.out (by decide)).mono ?_
      rintro e v1 ⟨T1, rfl, hT1, zc1⟩
      have y1 := y0.trans (zc1.mono y0.size)
      refine hK _ _ ⟨(B9.out.below y1 B9.out.lt).range 0 _ [] (by simp), (B7.out.below y1 B7.out.lt).range 0 _ [] (by simp)⟩ (fun _ => ?_)
      clear hK KC
      refine wpAnyH_ready (rs := [3, 4]) (by kernel_rfl) (by simp) ?_
      refine AllReadyH.cons rfl (fun KC hK => ?_) (AllReadyH.cons rfl (fun KC hK => ?_) AllReadyH.nil)
      · skip
        go_simp
        refine (CM.out T1 L7 (e9 * 2 ^ 10) e7 e10 _ hT1 H7.out HE.out.2.2.2.2.2.2.2.2.1).mono ?_
        rintro e v2 ⟨T2, rfl, hT2, zc2⟩
        have y2 := y1.trans (zc2.mono y1.size)
        refine hK _ _ ⟨(B9.out.below y2 B9.out.lt).range 0 _ [] (by simp), (B7.out.below y2 B7.out.lt).range 0 _ [] (by simp)⟩ (fun _ => ?_)
        clear hK KC
        refine wpAnyH_ready (rs := [4]) (by kernel_rfl) (by simp) ?_
        refine AllReadyH.cons rfl (fun KC hK => ?_) AllReadyH.nil
        go_simp
        obtain ⟨gd, hgd⟩ : ∃ v, v = v2.heap.size := ⟨_, rfl⟩
        rw [← z5_arr, ← hgd]
        have hgl : X9.heap.size ≤ gd := by rw [hgd]; exact y2.size
        have N0 : Hid (Blk (v2.alloc (.cells z5.toArray 62)) gd 62 z5) := Blk.newAt _ _ _ _ _ hgd rfl
        have y3 : Below X9.heap.size X9 (v2.alloc (.cells z5.toArray 62)) := y2.alloc y2.size _
        obtain ⟨v3, hv3⟩ : ∃ v, v = v2.alloc (.cells z5.toArray 62) := ⟨_, rfl⟩
        rw [← hv3] at y3 N0 ⊢
        refine hK _ _ ⟨(B9.out.below y3 B9.out.lt).range 0 _ [] (by simp), (B7.out.below y3 B7.out.lt).range 0 _ [] (by simp)⟩ (fun _ => ?_)
        clear hK KC hgd hv3
        refine wpAnyH_ready (rs := [5]) (by kernel_rfl) (by simp) ?_
        refine AllReadyH.cons rfl (fun KC hK => ?_) AllReadyH.nil
        refine step_store_blk rfl 62 (.tmp 10) (.tmp 42) rfl gd T2.toArray rfl rfl 62 z5 N0.out (by rw [List.size_toArray, hT2.len]; kernel_rfl) (by rw [List.size_toArray, hT2.len, z5_len]) hT2.one ?_
        intro w3 hb3 ho3
        have ye : Below X9.heap.size X9 w3 := y3.trans (ho3.below y3.size hgl)
        refine hK _ _ ⟨((B9.out.below ye B9.out.lt)).range 0 _ [] (by simp), ((B7.out.below ye B7.out.lt)).range 0 _ [] (by simp)⟩ (fun _ => ?_)
        clear hK KC
        refine wpAnyH_done (by kernel_rfl) ?_ _
        go_wp2_with fail
        go_meet
        case rel => exact ⟨gd, T2, rfl, hT2, hb3, ye, hgl⟩
      · skip
        go_simp
        obtain ⟨gd, hgd⟩ : ∃ v, v = v1.heap.size := ⟨_, rfl⟩
        rw [← z5_arr, ← hgd]
        have hgl : X9.heap.size ≤ gd := by rw [hgd]; exact y1.size
        have N0 : Hid (Blk (v1.alloc (.cells z5.toArray 62)) gd 62 z5) := Blk.newAt _ _ _ _ _ hgd rfl
        have y4 : Below X9.heap.size X9 (v1.alloc (.cells z5.toArray 62)) := y1.alloc y1.size _
        obtain ⟨v4, hv4⟩ : ∃ v, v = v1.alloc (.cells z5.toArray 62) := ⟨_, rfl⟩
        rw [← hv4] at y4 N0 ⊢
        refine hK _ _ ⟨(B9.out.below y4 B9.out.lt).range 0 _ [] (by simp), (B7.out.below y4 B7.out.lt).range 0 _ [] (by simp)⟩ (fun _ => ?_)
        clear hK KC hgd hv4
        refine wpAnyH_ready (rs := [3]) (by kernel_rfl) (by simp) ?_
        refine AllReadyH.cons rfl (fun KC hK => ?_) AllReadyH.nil
        go_simp
        refine (CM.out T1 L7 (e9 * 2 ^ 10) e7 e10 _ hT1 H7.out HE.out.2.2.2.2.2.2.2.2.1).mono ?_
        rintro e v5 ⟨T2, rfl, hT2, zc5⟩
        have y5 := y4.trans (zc5.mono y4.size)
        have N0 : Hid (Blk v5 gd 62 z5) := N0.out.below zc5 N0.out.lt
        refine hK _ _ ⟨(B9.out.below y5 B9.out.lt).range 0 _ [] (by simp), (B7.out.below y5 B7.out.lt).range 0 _ [] (by simp)⟩ (fun _ => ?_)
        clear hK KC
        refine wpAnyH_ready (rs := [5]) (by kernel_rfl) (by simp) ?_
        refine AllReadyH.cons rfl (fun KC hK => ?_) AllReadyH.nil
        refine step_store_blk rfl 62 (.tmp 10) (.tmp 42) rfl gd T2.toArray rfl rfl 62 z5 N0.out (by rw [List.size_toArray, hT2.len]; kernel_rfl) (by rw [List.size_toArray, hT2.len, z5_len]) hT2.one ?_
        intro w3 hb3 ho3
        have ye : Below X9.heap.size X9 w3 := y5.trans (ho3.below y5.size hgl)
        refine hK _ _ ⟨((B9.out.below ye B9.out.lt)).range 0 _ [] (by simp), ((B7.out.below ye B7.out.lt)).range 0 _ [] (by simp)⟩ (fun _ => ?_)
        clear hK KC
        refine wpAnyH_done (by kernel_rfl) ?_ _
        go_wp2_with fail
        go_meet
        case rel => exact ⟨gd, T2, rfl, hT2, hb3, ye, hgl⟩
    · skip
      go_simp
      obtain ⟨gd, hgd⟩ : ∃ v, v = X9.heap.size := ⟨_, rfl⟩
      rw [← hgd]
      have hgl : X9.heap.size ≤ gd := by rw [hgd]; exact Nat.le_refl _
      have N0 : Hid (Blk (X9.alloc (.cells z5.toArray 62)).drew gd 62 z5) := (Blk.newAt _ _ _ _ _ hgd rfl).drew
      have y6 : Below X9.heap.size X9 (X9.alloc (.cells z5.toArray 62)).drew := drewN_below ((Below.refl _ _).alloc (Nat.le_refl _) _) 1
      obtain ⟨v6, hv6⟩ : ∃ v, v = (X9.alloc (.cells z5.toArray 62)).drew := ⟨_, rfl⟩
      first | rw [← hv6] | rw [← z5_arr, ← hv6]
      rw [← hv6] at y6 N0
      refine hK _ _ ⟨(B9.out.below y6 B9.out.lt).range 0 _ [] (by simp), (B7.out.below y6 B7.out.lt).range 0 _ [] (by simp)⟩ (fun _ => ?_)
      clear hK KC hgd hv6
      refine wpAnyH_ready (rs := [1]) (by kernel_rfl) (by simp) ?_
      refine AllReadyH.cons rfl (fun KC hK => ?_) AllReadyH.nil
      go_simp
      refine (CQ.out L9 e9 10 _ H9.out (by decide)).mono ?_
      rintro e v7 ⟨T1, rfl, hT1, zc7⟩
      have y7 := y6.trans (zc7.mono y6.size)
      have N0 : Hid (Blk v7 gd 62 z5) := N0.out.below zc7 N0.out.lt
      refine hK _ _ ⟨(B9.out.below y7 B9.out.lt).range 0 _ [] (by simp), (B7.out.below y7 B7.out.lt).range 0 _ [] (by simp)⟩ (fun _ => ?_)
      clear hK KC
      refine wpAnyH_ready (rs := [3]) (by kernel_rfl) (by simp) ?_
      refine AllReadyH.cons rfl (fun KC hK => ?_) AllReadyH.nil
      go_simp
      refine (CM.out T1 L7 (e9 * 2 ^ 10) e7 e10 _ hT1 H7.out HE.out.2.2.2.2.2.2.2.2.1).mono ?_
      rintro e v8 ⟨T2, rfl, hT2, zc8⟩
      have y8 := y7.trans (zc8.mono y7.size)
      have N0 : Hid (Blk v8 gd 62 z5) := N0.out.below zc8 N0.out.lt
      refine hK _ _ ⟨(B9.out.below y8 B9.out.lt).range 0 _ [] (by simp), (B7.out.below y8 B7.out.lt).range 0 _ [] (by simp)⟩ (fun _ => ?_)
      clear hK KC
      refine wpAnyH_ready (rs := [5]) (by kernel_rfl) (by simp) ?_
      refine AllReadyH.cons rfl (fun KC hK => ?_) AllReadyH.nil
      refine step_store_blk rfl 62 (.tmp 10) (.tmp 42) rfl gd T2.toArray rfl rfl 62 z5 N0.out (by rw [List.size_toArray, hT2.len]; kernel_rfl) (by rw [List.size_toArray, hT2.len, z5_len]) hT2.one ?_
      intro w3 hb3 ho3
      have ye : Below X9.heap.size X9 w3 := y8.trans (ho3.below y8.size hgl)
      refine hK _ _ ⟨((B9.out.below ye B9.out.lt)).range 0 _ [] (by simp), ((B7.out.below ye B7.out.lt)).range 0 _ [] (by simp)⟩ (fun _ => ?_)
      clear hK KC
      refine wpAnyH_done (by kernel_rfl) ?_ _
      go_wp2_with fail
      go_meet
      case rel => exact ⟨gd, T2, rfl, hT2, hb3, ye, hgl⟩
  case rest =>
  obtain ⟨g10, L10, rfl, H10, N10, U10, G10⟩ := hcut
  obtain ⟨X10, rfl⟩ : ∃ x, x = wc := ⟨_, rfl⟩
  have KK10 : Hid (Below w.heap.size w X10) := KK9.out.trans (U10.out.mono KK9.out.size)
  clear G10
  have Q1 : Hid (Blk X10 g1 62 A) := B1.out.below U10.out B1.out.lt
  have Q2 : Hid (Blk X10 (g1 + 1) 62 z5) := B2.out.below U10.out B2.out.lt
  have Q3 : Hid (Blk X10 g3 62 L3) := B3.out.below U10.out B3.out.lt
  have Q4 : Hid (Blk X10 g4 62 L4) := B4.out.below U10.out B4.out.lt
  have Q5 : Hid (Blk X10 g5 62 L5) := B5.out.below U10.out B5.out.lt
  have Q6 : Hid (Blk X10 g6 62 L6) := B6.out.below U10.out B6.out.lt
  have Q7 : Hid (Blk X10 g7 62 L7) := B7.out.below U10.out B7.out.lt
  have Q8 : Hid (Blk X10 g8 62 L8) := B8.out.below U10.out B8.out.lt
  have Q9 : Hid (Blk X10 g9 62 L9) := B9.out.below U10.out B9.out.lt
  clear B1
  clear B2
  clear B3
  clear B4
  clear B5
  clear B6
  clear B7
  clear B8
  clear B9
  have B1 := Q1
  clear Q1
  have B2 := Q2
  clear Q2
  have B3 := Q3
  clear Q3
  have B4 := Q4
  clear Q4
  have B5 := Q5
  clear Q5
  have B6 := Q6
  clear Q6
  have B7 := Q7
  clear Q7
  have B8 := Q8
  clear Q8
  have B9 := Q9
  clear Q9
  have B10 := N10
  clear N10 U10 KK9
  go_upto_region 9 with fail
  go_cut [11] from 14 (fun s wx => ∃ (gd : Nat) (L : List Value), s = .pointer (some ⟨gd, 0, none⟩) ∧ Hid (Fl L (P e11)) ∧ Hid (Blk wx gd 62 L) ∧ Hid (Below X10.heap.size X10 wx) ∧ Hid (X10.heap.size ≤ gd))
  case first =>
    refine wp_region_any (by kernel_rfl) ?_
    change wpAny _ _ _ _ _ _ _ (World.drew _)
    refine wpAny_of_held (S := fun w' => w'.rangeAt g10 0 L10 ∧ w'.rangeAt g10 0 L10) _ _ _ _ ?_
    have y0 : Below X10.heap.size X10 X10.drew := below_draws X10 1
    refine wpAnyH_take_at (i := 0) (v := .agg L10.toArray) rfl rfl (by kernel_rfl) (by kernel_rfl) (by kernel_rfl) (fun _ _ _ h => h) (yieldsIf_load_mid (by rfl) 62 (.tmp 10) rfl g10 0 rfl L10 _ (fun w h => h.1) Tryd.underlying62 rfl (by rw [H10.out.len]; kernel_rfl)) ⟨(B10.out.below y0 B10.out.lt).range 0 _ [] (by simp), (B10.out.below y0 B10.out.lt).range 0 _ [] (by simp)⟩ ?_
    simp only [List.setIfInBounds_toArray, List.set_cons_zero, List.set_cons_succ]
    refine wpAnyH_take_at (i := 2) (v := .agg L10.toArray) rfl rfl (by kernel_rfl) (by kernel_rfl) (by kernel_rfl) (fun _ _ _ h => h) (yieldsIf_load_mid (by rfl) 62 (.tmp 10) rfl g10 0 rfl L10 _ (fun w h => h.2) Tryd.underlying62 rfl (by rw [H10.out.len]; kernel_rfl)) ⟨(B10.out.below y0 B10.out.lt).range 0 _ [] (by simp), (B10.out.below y0 B10.out.lt).range 0 _ [] (by simp)⟩ ?_
    simp only [List.setIfInBounds_toArray, List.set_cons_zero, List.set_cons_succ]
    refine wpAnyH_ready (rs := [1, 4]) (by kernel_rfl) (by simp) ?_
    refine AllReadyH.cons rfl (fun KC hK => ?_) (AllReadyH.cons rfl (fun KC hK => ?_) AllReadyH.nil)
    · skip
      go_simp
      refine (CQ.out L10 e10 50 _ H10.out (by decide)).mono ?_
      rintro e v1 ⟨T1, rfl, hT1, zc1⟩
      have y1 := y0.trans (zc1.mono y0.size)
      refine hK _ _ ⟨(B10.out.below y1 B10.out.lt).range 0 _ [] (by simp), (B10.out.below y1 B10.out.lt).range 0 _ [] (by simp)⟩ (fun _ => ?_)
      clear hK KC
      refine wpAnyH_ready (rs := [3, 4]) (by kernel_rfl) (by simp) ?_
      refine AllReadyH.cons rfl (fun KC hK => ?_) (AllReadyH.cons rfl (fun KC hK => ?_) AllReadyH.nil)
      · skip
        go_simp
        refine (CM.out T1 L10 (e10 * 2 ^ 50) e10 e11 _ hT1 H10.out HE.out.2.2.2.2.2.2.2.2.2.1).mono ?_
        rintro e v2 ⟨T2, rfl, hT2, zc2⟩
        have y2 := y1.trans (zc2.mono y1.size)
        refine hK _ _ ⟨(B10.out.below y2 B10.out.lt).range 0 _ [] (by simp), (B10.out.below y2 B10.out.lt).range 0 _ [] (by simp)⟩ (fun _ => ?_)
        clear hK KC
        refine wpAnyH_ready (rs := [4]) (by kernel_rfl) (by simp) ?_
        refine AllReadyH.cons rfl (fun KC hK => ?_) AllReadyH.nil
        go_simp
        obtain ⟨gd, hgd⟩ : ∃ v, v = v2.heap.size := ⟨_, rfl⟩
        rw [← z5_arr, ← hgd]
        have hgl : X10.heap.size ≤ gd := by rw [hgd]; exact y2.size
        have N0 : Hid (Blk (v2.alloc (.cells z5.toArray 62)) gd 62 z5) := Blk.newAt _ _ _ _ _ hgd rfl
        have y3 : Below X10.heap.size X10 (v2.alloc (.cells z5.toArray 62)) := y2.alloc y2.size _
        obtain ⟨v3, hv3⟩ : ∃ v, v = v2.alloc (.cells z5.toArray 62) := ⟨_, rfl⟩
        rw [← hv3] at y3 N0 ⊢
        refine hK _ _ ⟨(B10.out.below y3 B10.out.lt).range 0 _ [] (by simp), (B10.out.below y3 B10.out.lt).range 0 _ [] (by simp)⟩ (fun _ => ?_)
        clear hK KC hgd hv3
        refine wpAnyH_ready (rs := [5]) (by kernel_rfl) (by simp) ?_
        refine AllReadyH.cons rfl (fun KC hK => ?_) AllReadyH.nil
        refine step_store_blk rfl 62 (.tmp 11) (.tmp 46) rfl gd T2.toArray rfl rfl 62 z5 N0.out (by rw [List.size_toArray, hT2.len]; kernel_rfl) (by rw [List.size_toArray, hT2.len, z5_len]) hT2.one ?_
        intro w3 hb3 ho3
        have ye : Below X10.heap.size X10 w3 := y3.trans (ho3.below y3.size hgl)
        refine hK _ _ ⟨((B10.out.below ye B10.out.lt)).range 0 _ [] (by simp), ((B10.out.below ye B10.out.lt)).range 0 _ [] (by simp)⟩ (fun _ => ?_)
        clear hK KC
        refine wpAnyH_done (by kernel_rfl) ?_ _
        go_wp2_with fail
        go_meet
        case rel => exact ⟨gd, T2, rfl, hT2, hb3, ye, hgl⟩
      · skip
        go_simp
        obtain ⟨gd, hgd⟩ : ∃ v, v = v1.heap.size := ⟨_, rfl⟩
        rw [← z5_arr, ← hgd]
        have hgl : X10.heap.size ≤ gd := by rw [hgd]; exact y1.size
        have N0 : Hid (Blk (v1.alloc (.cells z5.toArray 62)) gd 62 z5) := Blk.newAt _ _ _ _ _ hgd rfl
        have y4 : Below X10.heap.size X10 (v1.alloc (.cells z5.toArray 62)) := y1.alloc y1.size _
        obtain ⟨v4, hv4⟩ : ∃ v, v = v1.alloc (.cells z5.toArray 62) := ⟨_, rfl⟩
        rw [← hv4] at y4 N0 ⊢
        refine hK _ _ ⟨(B10.out.below y4 B10.out.lt).range 0 _ [] (by simp), (B10.out.below y4 B10.out.lt).range 0 _ [] (by simp)⟩ (fun _ => ?_)
        clear hK KC hgd hv4
        refine wpAnyH_ready (rs := [3]) (by kernel_rfl) (by simp) ?_
        refine AllReadyH.cons rfl (fun KC hK => ?_) AllReadyH.nil
        go_simp
        refine (CM.out T1 L10 (e10 * 2 ^ 50) e10 e11 _ hT1 H10.out HE.out.2.2.2.2.2.2.2.2.2.1).mono ?_
        rintro e v5 ⟨T2, rfl, hT2, zc5⟩
        have y5 := y4.trans (zc5.mono y4.size)
        have N0 : Hid (Blk v5 gd 62 z5) := N0.out.below zc5 N0.out.lt
        refine hK _ _ ⟨(B10.out.below y5 B10.out.lt).range 0 _ [] (by simp), (B10.out.below y5 B10.out.lt).range 0 _ [] (by simp)⟩ (fun _ => ?_)
        clear hK KC
        refine wpAnyH_ready (rs := [5]) (by kernel_rfl) (by simp) ?_
        refine AllReadyH.cons rfl (fun KC hK => ?_) AllReadyH.nil
        refine step_store_blk rfl 62 (.tmp 11) (.tmp 46) rfl gd T2.toArray rfl rfl 62 z5 N0.out (by rw [List.size_toArray, hT2.len]; kernel_rfl) (by rw [List.size_toArray, hT2.len, z5_len]) hT2.one ?_
        intro w3 hb3 ho3
        have ye : Below X10.heap.size X10 w3 := y5.trans (ho3.below y5.size hgl)
        refine hK _ _ ⟨((B10.out.below ye B10.out.lt)).range 0 _ [] (by simp), ((B10.out.below ye B10.out.lt)).range 0 _ [] (by simp)⟩ (fun _ => ?_)
        clear hK KC
        refine wpAnyH_done (by kernel_rfl) ?_ _
        go_wp2_with fail
        go_meet
        case rel => exact ⟨gd, T2, rfl, hT2, hb3, ye, hgl⟩
    · skip
      go_simp
      obtain ⟨gd, hgd⟩ : ∃ v, v = X10.heap.size := ⟨_, rfl⟩
      rw [← hgd]
      have hgl : X10.heap.size ≤ gd := by rw [hgd]; exact Nat.le_refl _
      have N0 : Hid (Blk (X10.alloc (.cells z5.toArray 62)).drew gd 62 z5) := (Blk.newAt _ _ _ _ _ hgd rfl).drew
      have y6 : Below X10.heap.size X10 (X10.alloc (.cells z5.toArray 62)).drew := drewN_below ((Below.refl _ _).alloc (Nat.le_refl _) _) 1
      obtain ⟨v6, hv6⟩ : ∃ v, v = (X10.alloc (.cells z5.toArray 62)).drew := ⟨_, rfl⟩
      first | rw [← hv6] | rw [← z5_arr, ← hv6]
      rw [← hv6] at y6 N0
      refine hK _ _ ⟨(B10.out.below y6 B10.out.lt).range 0 _ [] (by simp), (B10.out.below y6 B10.out.lt).range 0 _ [] (by simp)⟩ (fun _ => ?_)
      clear hK KC hgd hv6
      refine wpAnyH_ready (rs := [1]) (by kernel_rfl) (by simp) ?_
      refine AllReadyH.cons rfl (fun KC hK => ?_) AllReadyH.nil
      go_simp
      refine (CQ.out L10 e10 50 _ H10.out (by decide)).mono ?_
      rintro e v7 ⟨T1, rfl, hT1, zc7⟩
      have y7 := y6.trans (zc7.mono y6.size)
      have N0 : Hid (Blk v7 gd 62 z5) := N0.out.below zc7 N0.out.lt
      refine hK _ _ ⟨(B10.out.below y7 B10.out.lt).range 0 _ [] (by simp), (B10.out.below y7 B10.out.lt).range 0 _ [] (by simp)⟩ (fun _ => ?_)
      clear hK KC
      refine wpAnyH_ready (rs := [3]) (by kernel_rfl) (by simp) ?_
      refine AllReadyH.cons rfl (fun KC hK => ?_) AllReadyH.nil
      go_simp
      refine (CM.out T1 L10 (e10 * 2 ^ 50) e10 e11 _ hT1 H10.out HE.out.2.2.2.2.2.2.2.2.2.1).mono ?_
      rintro e v8 ⟨T2, rfl, hT2, zc8⟩
      have y8 := y7.trans (zc8.mono y7.size)
      have N0 : Hid (Blk v8 gd 62 z5) := N0.out.below zc8 N0.out.lt
      refine hK _ _ ⟨(B10.out.below y8 B10.out.lt).range 0 _ [] (by simp), (B10.out.below y8 B10.out.lt).range 0 _ [] (by simp)⟩ (fun _ => ?_)
      clear hK KC
      refine wpAnyH_ready (rs := [5]) (by kernel_rfl) (by simp) ?_
      refine AllReadyH.cons rfl (fun KC hK => ?_) AllReadyH.nil
      refine step_store_blk rfl 62 (.tmp 11) (.tmp 46) rfl gd T2.toArray rfl rfl 62 z5 N0.out (by rw [List.size_toArray, hT2.len]; kernel_rfl) (by rw [List.size_toArray, hT2.len, z5_len]) hT2.one ?_
      intro w3 hb3 ho3
      have ye : Below X10.heap.size X10 w3 := y8.trans (ho3.below y8.size hgl)
      refine hK _ _ ⟨((B10.out.below ye B10.out.lt)).range 0 _ [] (by simp), ((B10.out.below ye B10.out.lt)).range 0 _ [] (by simp)⟩ (fun _ => ?_)
      clear hK KC
      refine wpAnyH_done (by kernel_rfl) ?_ _
      go_wp2_with fail
      go_meet
      case rel => exact ⟨gd, T2, rfl, hT2, hb3, ye, hgl⟩
  case rest =>
  obtain ⟨g11, L11, rfl, H11, N11, U11, G11⟩ := hcut
  obtain ⟨X11, rfl⟩ : ∃ x, x = wc := ⟨_, rfl⟩
  have KK11 : Hid (Below w.heap.size w X11) := KK10.out.trans (U11.out.mono KK10.out.size)
  clear G11
  have Q1 : Hid (Blk X11 g1 62 A) := B1.out.below U11.out B1.out.lt
  have Q2 : Hid (Blk X11 (g1 + 1) 62 z5) := B2.out.below U11.out B2.out.lt
  have Q3 : Hid (Blk X11 g3 62 L3) := B3.out.below U11.out B3.out.lt
  have Q4 : Hid (Blk X11 g4 62 L4) := B4.out.below U11.out B4.out.lt
  have Q5 : Hid (Blk X11 g5 62 L5) := B5.out.below U11.out B5.out.lt
  have Q6 : Hid (Blk X11 g6 62 L6) := B6.out.below U11.out B6.out.lt
  have Q7 : Hid (Blk X11 g7 62 L7) := B7.out.below U11.out B7.out.lt
  have Q8 : Hid (Blk X11 g8 62 L8) := B8.out.below U11.out B8.out.lt
  have Q9 : Hid (Blk X11 g9 62 L9) := B9.out.below U11.out B9.out.lt
  have Q10 : Hid (Blk X11 g10 62 L10) := B10.out.below U11.out B10.out.lt
  clear B1
  clear B2
  clear B3
  clear B4
  clear B5
  clear B6
  clear B7
  clear B8
  clear B9
  clear B10
  have B1 := Q1
  clear Q1
  have B2 := Q2
  clear Q2
  have B3 := Q3
  clear Q3
  have B4 := Q4
  clear Q4
  have B5 := Q5
  clear Q5
  have B6 := Q6
  clear Q6
  have B7 := Q7
  clear Q7
  have B8 := Q8
  clear Q8
  have B9 := Q9
  clear Q9
  have B10 := Q10
  clear Q10
  have B11 := N11
  clear N11 U11 KK10
  go_upto_region 10 with fail
  go_cut [12] from 14 (fun s wx => ∃ (gd : Nat) (L : List Value), s = .pointer (some ⟨gd, 0, none⟩) ∧ Hid (Fl L (P e12)) ∧ Hid (Blk wx gd 62 L) ∧ Hid (Below X11.heap.size X11 wx) ∧ Hid (X11.heap.size ≤ gd))
  case first =>
    refine wp_region_any (by kernel_rfl) ?_
    change wpAny _ _ _ _ _ _ _ (World.drew _)
    refine wpAny_of_held (S := fun w' => w'.rangeAt g11 0 L11 ∧ w'.rangeAt g11 0 L11) _ _ _ _ ?_
    have y0 : Below X11.heap.size X11 X11.drew := below_draws X11 1
    refine wpAnyH_take_at (i := 0) (v := .agg L11.toArray) rfl rfl (by kernel_rfl) (by kernel_rfl) (by kernel_rfl) (fun _ _ _ h => h) (yieldsIf_load_mid (by rfl) 62 (.tmp 11) rfl g11 0 rfl L11 _ (fun w h => h.1) Tryd.underlying62 rfl (by rw [H11.out.len]; kernel_rfl)) ⟨(B11.out.below y0 B11.out.lt).range 0 _ [] (by simp), (B11.out.below y0 B11.out.lt).range 0 _ [] (by simp)⟩ ?_
    simp only [List.setIfInBounds_toArray, List.set_cons_zero, List.set_cons_succ]
    refine wpAnyH_take_at (i := 2) (v := .agg L11.toArray) rfl rfl (by kernel_rfl) (by kernel_rfl) (by kernel_rfl) (fun _ _ _ h => h) (yieldsIf_load_mid (by rfl) 62 (.tmp 11) rfl g11 0 rfl L11 _ (fun w h => h.2) Tryd.underlying62 rfl (by rw [H11.out.len]; kernel_rfl)) ⟨(B11.out.below y0 B11.out.lt).range 0 _ [] (by simp), (B11.out.below y0 B11.out.lt).range 0 _ [] (by simp)⟩ ?_
    simp only [List.setIfInBounds_toArray, List.set_cons_zero, List.set_cons_succ]
    refine wpAnyH_ready (rs := [1, 4]) (by kernel_rfl) (by simp) ?_
    refine AllReadyH.cons rfl (fun KC hK => ?_) (AllReadyH.cons rfl (fun KC hK => ?_) AllReadyH.nil)
    · skip
      go_simp
      refine (CQ.out L11 e11 100 _ H11.out (by decide)).mono ?_
      rintro e v1 ⟨T1, rfl, hT1, zc1⟩
      have y1 := y0.trans (zc1.mono y0.size)
      refine hK _ _ ⟨(B11.out.below y1 B11.out.lt).range 0 _ [] (by simp), (B11.out.below y1 B11.out.lt).range 0 _ [] (by simp)⟩ (fun _ => ?_)
      clear hK KC
      refine wpAnyH_ready (rs := [3, 4]) (by kernel_rfl) (by simp) ?_
      refine AllReadyH.cons rfl (fun KC hK => ?_) (AllReadyH.cons rfl (fun KC hK => ?_) AllReadyH.nil)
      · skip
        go_simp
        refine (CM.out T1 L11 (e11 * 2 ^ 100) e11 e12 _ hT1 H11.out HE.out.2.2.2.2.2.2.2.2.2.2.1).mono ?_
        rintro e v2 ⟨T2, rfl, hT2, zc2⟩
        have y2 := y1.trans (zc2.mono y1.size)
        refine hK _ _ ⟨(B11.out.below y2 B11.out.lt).range 0 _ [] (by simp), (B11.out.below y2 B11.out.lt).range 0 _ [] (by simp)⟩ (fun _ => ?_)
        clear hK KC
        refine wpAnyH_ready (rs := [4]) (by kernel_rfl) (by simp) ?_
        refine AllReadyH.cons rfl (fun KC hK => ?_) AllReadyH.nil
        go_simp
        obtain ⟨gd, hgd⟩ : ∃ v, v = v2.heap.size := ⟨_, rfl⟩
        rw [← z5_arr, ← hgd]
        have hgl : X11.heap.size ≤ gd := by rw [hgd]; exact y2.size
        have N0 : Hid (Blk (v2.alloc (.cells z5.toArray 62)) gd 62 z5) := Blk.newAt _ _ _ _ _ hgd rfl
        have y3 : Below X11.heap.size X11 (v2.alloc (.cells z5.toArray 62)) := y2.alloc y2.size _
        obtain ⟨v3, hv3⟩ : ∃ v, v = v2.alloc (.cells z5.toArray 62) := ⟨_, rfl⟩
        rw [← hv3] at y3 N0 ⊢
        refine hK _ _ ⟨(B11.out.below y3 B11.out.lt).range 0 _ [] (by simp), (B11.out.below y3 B11.out.lt).range 0 _ [] (by simp)⟩ (fun _ => ?_)
        clear hK KC hgd hv3
        refine wpAnyH_ready (rs := [5]) (by kernel_rfl) (by simp) ?_
        refine AllReadyH.cons rfl (fun KC hK => ?_) AllReadyH.nil
        refine step_store_blk rfl 62 (.tmp 12) (.tmp 50) rfl gd T2.toArray rfl rfl 62 z5 N0.out (by rw [List.size_toArray, hT2.len]; kernel_rfl) (by rw [List.size_toArray, hT2.len, z5_len]) hT2.one ?_
        intro w3 hb3 ho3
        have ye : Below X11.heap.size X11 w3 := y3.trans (ho3.below y3.size hgl)
        refine hK _ _ ⟨((B11.out.below ye B11.out.lt)).range 0 _ [] (by simp), ((B11.out.below ye B11.out.lt)).range 0 _ [] (by simp)⟩ (fun _ => ?_)
        clear hK KC
        refine wpAnyH_done (by kernel_rfl) ?_ _
        go_wp2_with fail
        go_meet
        case rel => exact ⟨gd, T2, rfl, hT2, hb3, ye, hgl⟩
      · skip
        go_simp
        obtain ⟨gd, hgd⟩ : ∃ v, v = v1.heap.size := ⟨_, rfl⟩
        rw [← z5_arr, ← hgd]
        have hgl : X11.heap.size ≤ gd := by rw [hgd]; exact y1.size
        have N0 : Hid (Blk (v1.alloc (.cells z5.toArray 62)) gd 62 z5) := Blk.newAt _ _ _ _ _ hgd rfl
        have y4 : Below X11.heap.size X11 (v1.alloc (.cells z5.toArray 62)) := y1.alloc y1.size _
        obtain ⟨v4, hv4⟩ : ∃ v, v = v1.alloc (.cells z5.toArray 62) := ⟨_, rfl⟩
        rw [← hv4] at y4 N0 ⊢
        refine hK _ _ ⟨(B11.out.below y4 B11.out.lt).range 0 _ [] (by simp), (B11.out.below y4 B11.out.lt).range 0 _ [] (by simp)⟩ (fun _ => ?_)
        clear hK KC hgd hv4
        refine wpAnyH_ready (rs := [3]) (by kernel_rfl) (by simp) ?_
        refine AllReadyH.cons rfl (fun KC hK => ?_) AllReadyH.nil
        go_simp
        refine (CM.out T1 L11 (e11 * 2 ^ 100) e11 e12 _ hT1 H11.out HE.out.2.2.2.2.2.2.2.2.2.2.1).mono ?_
        rintro e v5 ⟨T2, rfl, hT2, zc5⟩
        have y5 := y4.trans (zc5.mono y4.size)
        have N0 : Hid (Blk v5 gd 62 z5) := N0.out.below zc5 N0.out.lt
        refine hK _ _ ⟨(B11.out.below y5 B11.out.lt).range 0 _ [] (by simp), (B11.out.below y5 B11.out.lt).range 0 _ [] (by simp)⟩ (fun _ => ?_)
        clear hK KC
        refine wpAnyH_ready (rs := [5]) (by kernel_rfl) (by simp) ?_
        refine AllReadyH.cons rfl (fun KC hK => ?_) AllReadyH.nil
        refine step_store_blk rfl 62 (.tmp 12) (.tmp 50) rfl gd T2.toArray rfl rfl 62 z5 N0.out (by rw [List.size_toArray, hT2.len]; kernel_rfl) (by rw [List.size_toArray, hT2.len, z5_len]) hT2.one ?_
        intro w3 hb3 ho3
        have ye : Below X11.heap.size X11 w3 := y5.trans (ho3.below y5.size hgl)
        refine hK _ _ ⟨((B11.out.below ye B11.out.lt)).range 0 _ [] (by simp), ((B11.out.below ye B11.out.lt)).range 0 _ [] (by simp)⟩ (fun _ => ?_)
        clear hK KC
        refine wpAnyH_done (by kernel_rfl) ?_ _
        go_wp2_with fail
        go_meet
        case rel => exact ⟨gd, T2, rfl, hT2, hb3, ye, hgl⟩
    · skip
      go_simp
      obtain ⟨gd, hgd⟩ : ∃ v, v = X11.heap.size := ⟨_, rfl⟩
      rw [← hgd]
      have hgl : X11.heap.size ≤ gd := by rw [hgd]; exact Nat.le_refl _
      have N0 : Hid (Blk (X11.alloc (.cells z5.toArray 62)).drew gd 62 z5) := (Blk.newAt _ _ _ _ _ hgd rfl).drew
      have y6 : Below X11.heap.size X11 (X11.alloc (.cells z5.toArray 62)).drew := drewN_below ((Below.refl _ _).alloc (Nat.le_refl _) _) 1
      obtain ⟨v6, hv6⟩ : ∃ v, v = (X11.alloc (.cells z5.toArray 62)).drew := ⟨_, rfl⟩
      first | rw [← hv6] | rw [← z5_arr, ← hv6]
      rw [← hv6] at y6 N0
      refine hK _ _ ⟨(B11.out.below y6 B11.out.lt).range 0 _ [] (by simp), (B11.out.below y6 B11.out.lt).range 0 _ [] (by simp)⟩ (fun _ => ?_)
      clear hK KC hgd hv6
      refine wpAnyH_ready (rs := [1]) (by kernel_rfl) (by simp) ?_
      refine AllReadyH.cons rfl (fun KC hK => ?_) AllReadyH.nil
      go_simp
      refine (CQ.out L11 e11 100 _ H11.out (by decide)).mono ?_
      rintro e v7 ⟨T1, rfl, hT1, zc7⟩
      have y7 := y6.trans (zc7.mono y6.size)
      have N0 : Hid (Blk v7 gd 62 z5) := N0.out.below zc7 N0.out.lt
      refine hK _ _ ⟨(B11.out.below y7 B11.out.lt).range 0 _ [] (by simp), (B11.out.below y7 B11.out.lt).range 0 _ [] (by simp)⟩ (fun _ => ?_)
      clear hK KC
      refine wpAnyH_ready (rs := [3]) (by kernel_rfl) (by simp) ?_
      refine AllReadyH.cons rfl (fun KC hK => ?_) AllReadyH.nil
      go_simp
      refine (CM.out T1 L11 (e11 * 2 ^ 100) e11 e12 _ hT1 H11.out HE.out.2.2.2.2.2.2.2.2.2.2.1).mono ?_
      rintro e v8 ⟨T2, rfl, hT2, zc8⟩
      have y8 := y7.trans (zc8.mono y7.size)
      have N0 : Hid (Blk v8 gd 62 z5) := N0.out.below zc8 N0.out.lt
      refine hK _ _ ⟨(B11.out.below y8 B11.out.lt).range 0 _ [] (by simp), (B11.out.below y8 B11.out.lt).range 0 _ [] (by simp)⟩ (fun _ => ?_)
      clear hK KC
      refine wpAnyH_ready (rs := [5]) (by kernel_rfl) (by simp) ?_
      refine AllReadyH.cons rfl (fun KC hK => ?_) AllReadyH.nil
      refine step_store_blk rfl 62 (.tmp 12) (.tmp 50) rfl gd T2.toArray rfl rfl 62 z5 N0.out (by rw [List.size_toArray, hT2.len]; kernel_rfl) (by rw [List.size_toArray, hT2.len, z5_len]) hT2.one ?_
      intro w3 hb3 ho3
      have ye : Below X11.heap.size X11 w3 := y8.trans (ho3.below y8.size hgl)
      refine hK _ _ ⟨((B11.out.below ye B11.out.lt)).range 0 _ [] (by simp), ((B11.out.below ye B11.out.lt)).range 0 _ [] (by simp)⟩ (fun _ => ?_)
      clear hK KC
      refine wpAnyH_done (by kernel_rfl) ?_ _
      go_wp2_with fail
      go_meet
      case rel => exact ⟨gd, T2, rfl, hT2, hb3, ye, hgl⟩
  case rest =>
  obtain ⟨g12, L12, rfl, H12, N12, U12, G12⟩ := hcut
  obtain ⟨X12, rfl⟩ : ∃ x, x = wc := ⟨_, rfl⟩
  have KK12 : Hid (Below w.heap.size w X12) := KK11.out.trans (U12.out.mono KK11.out.size)
  clear G12
  have Q1 : Hid (Blk X12 g1 62 A) := B1.out.below U12.out B1.out.lt
  have Q2 : Hid (Blk X12 (g1 + 1) 62 z5) := B2.out.below U12.out B2.out.lt
  have Q3 : Hid (Blk X12 g3 62 L3) := B3.out.below U12.out B3.out.lt
  have Q4 : Hid (Blk X12 g4 62 L4) := B4.out.below U12.out B4.out.lt
  have Q5 : Hid (Blk X12 g5 62 L5) := B5.out.below U12.out B5.out.lt
  have Q6 : Hid (Blk X12 g6 62 L6) := B6.out.below U12.out B6.out.lt
  have Q7 : Hid (Blk X12 g7 62 L7) := B7.out.below U12.out B7.out.lt
  have Q8 : Hid (Blk X12 g8 62 L8) := B8.out.below U12.out B8.out.lt
  have Q9 : Hid (Blk X12 g9 62 L9) := B9.out.below U12.out B9.out.lt
  have Q10 : Hid (Blk X12 g10 62 L10) := B10.out.below U12.out B10.out.lt
  have Q11 : Hid (Blk X12 g11 62 L11) := B11.out.below U12.out B11.out.lt
  clear B1
  clear B2
  clear B3
  clear B4
  clear B5
  clear B6
  clear B7
  clear B8
  clear B9
  clear B10
  clear B11
  have B1 := Q1
  clear Q1
  have B2 := Q2
  clear Q2
  have B3 := Q3
  clear Q3
  have B4 := Q4
  clear Q4
  have B5 := Q5
  clear Q5
  have B6 := Q6
  clear Q6
  have B7 := Q7
  clear Q7
  have B8 := Q8
  clear Q8
  have B9 := Q9
  clear Q9
  have B10 := Q10
  clear Q10
  have B11 := Q11
  clear Q11
  have B12 := N12
  clear N12 U12 KK11
  go_upto_region 11 with fail
  go_cut [13] from 14 (fun s wx => ∃ (gd : Nat) (L : List Value), s = .pointer (some ⟨gd, 0, none⟩) ∧ Hid (Fl L (P e13)) ∧ Hid (Blk wx gd 62 L) ∧ Hid (Below X12.heap.size X12 wx) ∧ Hid (X12.heap.size ≤ gd))
  case first =>
    refine wp_region_any (by kernel_rfl) ?_
    change wpAny _ _ _ _ _ _ _ (World.drew _)
    refine wpAny_of_held (S := fun w' => w'.rangeAt g12 0 L12 ∧ w'.rangeAt g10 0 L10) _ _ _ _ ?_
    have y0 : Below X12.heap.size X12 X12.drew := below_draws X12 1
    refine wpAnyH_take_at (i := 0) (v := .agg L12.toArray) rfl rfl (by kernel_rfl) (by kernel_rfl) (by kernel_rfl) (fun _ _ _ h => h) (yieldsIf_load_mid (by rfl) 62 (.tmp 12) rfl g12 0 rfl L12 _ (fun w h => h.1) Tryd.underlying62 rfl (by rw [H12.out.len]; kernel_rfl)) ⟨(B12.out.below y0 B12.out.lt).range 0 _ [] (by simp), (B10.out.below y0 B10.out.lt).range 0 _ [] (by simp)⟩ ?_
    simp only [List.setIfInBounds_toArray, List.set_cons_zero, List.set_cons_succ]
    refine wpAnyH_take_at (i := 2) (v := .agg L10.toArray) rfl rfl (by kernel_rfl) (by kernel_rfl) (by kernel_rfl) (fun _ _ _ h => h) (yieldsIf_load_mid (by rfl) 62 (.tmp 10) rfl g10 0 rfl L10 _ (fun w h => h.2) Tryd.underlying62 rfl (by rw [H10.out.len]; kernel_rfl)) ⟨(B12.out.below y0 B12.out.lt).range 0 _ [] (by simp), (B10.out.below y0 B10.out.lt).range 0 _ [] (by simp)⟩ ?_
    simp only [List.setIfInBounds_toArray, List.set_cons_zero, List.set_cons_succ]
    refine wpAnyH_ready (rs := [1, 4]) (by kernel_rfl) (by simp) ?_
    refine AllReadyH.cons rfl (fun KC hK => ?_) (AllReadyH.cons rfl (fun KC hK => ?_) AllReadyH.nil)
    · skip
      go_simp
      refine (CQ.out L12 e12 50 _ H12.out (by decide)).mono ?_
      rintro e v1 ⟨T1, rfl, hT1, zc1⟩
      have y1 := y0.trans (zc1.mono y0.size)
      refine hK _ _ ⟨(B12.out.below y1 B12.out.lt).range 0 _ [] (by simp), (B10.out.below y1 B10.out.lt).range 0 _ [] (by simp)⟩ (fun _ => ?_)
      clear hK KC
      refine wpAnyH_ready (rs := [3, 4]) (by kernel_rfl) (by simp) ?_
      refine AllReadyH.cons rfl (fun KC hK => ?_) (AllReadyH.cons rfl (fun KC hK => ?_) AllReadyH.nil)
      · skip
        go_simp
        refine (CM.out T1 L10 (e12 * 2 ^ 50) e10 e13 _ hT1 H10.out HE.out.2.2.2.2.2.2.2.2.2.2.2.1).mono ?_
        rintro e v2 ⟨T2, rfl, hT2, zc2⟩
        have y2 := y1.trans (zc2.mono y1.size)
        refine hK _ _ ⟨(B12.out.below y2 B12.out.lt).range 0 _ [] (by simp), (B10.out.below y2 B10.out.lt).range 0 _ [] (by simp)⟩ (fun _ => ?_)
        clear hK KC
        refine wpAnyH_ready (rs := [4]) (by kernel_rfl) (by simp) ?_
        refine AllReadyH.cons rfl (fun KC hK => ?_) AllReadyH.nil
        go_simp
        obtain ⟨gd, hgd⟩ : ∃ v, v = v2.heap.size := ⟨_, rfl⟩
        rw [← z5_arr, ← hgd]
        have hgl : X12.heap.size ≤ gd := by rw [hgd]; exact y2.size
        have N0 : Hid (Blk (v2.alloc (.cells z5.toArray 62)) gd 62 z5) := Blk.newAt _ _ _ _ _ hgd rfl
        have y3 : Below X12.heap.size X12 (v2.alloc (.cells z5.toArray 62)) := y2.alloc y2.size _
        obtain ⟨v3, hv3⟩ : ∃ v, v = v2.alloc (.cells z5.toArray 62) := ⟨_, rfl⟩
        rw [← hv3] at y3 N0 ⊢
        refine hK _ _ ⟨(B12.out.below y3 B12.out.lt).range 0 _ [] (by simp), (B10.out.below y3 B10.out.lt).range 0 _ [] (by simp)⟩ (fun _ => ?_)
        clear hK KC hgd hv3
        refine wpAnyH_ready (rs := [5]) (by kernel_rfl) (by simp) ?_
        refine AllReadyH.cons rfl (fun KC hK => ?_) AllReadyH.nil
        refine step_store_blk rfl 62 (.tmp 13) (.tmp 54) rfl gd T2.toArray rfl rfl 62 z5 N0.out (by rw [List.size_toArray, hT2.len]; kernel_rfl) (by rw [List.size_toArray, hT2.len, z5_len]) hT2.one ?_
        intro w3 hb3 ho3
        have ye : Below X12.heap.size X12 w3 := y3.trans (ho3.below y3.size hgl)
        refine hK _ _ ⟨((B12.out.below ye B12.out.lt)).range 0 _ [] (by simp), ((B10.out.below ye B10.out.lt)).range 0 _ [] (by simp)⟩ (fun _ => ?_)
        clear hK KC
        refine wpAnyH_done (by kernel_rfl) ?_ _
        go_wp2_with fail
        go_meet
        case rel => exact ⟨gd, T2, rfl, hT2, hb3, ye, hgl⟩
      · skip
        go_simp
        obtain ⟨gd, hgd⟩ : ∃ v, v = v1.heap.size := ⟨_, rfl⟩
        rw [← z5_arr, ← hgd]
        have hgl : X12.heap.size ≤ gd := by rw [hgd]; exact y1.size
        have N0 : Hid (Blk (v1.alloc (.cells z5.toArray 62)) gd 62 z5) := Blk.newAt _ _ _ _ _ hgd rfl
        have y4 : Below X12.heap.size X12 (v1.alloc (.cells z5.toArray 62)) := y1.alloc y1.size _
        obtain ⟨v4, hv4⟩ : ∃ v, v = v1.alloc (.cells z5.toArray 62) := ⟨_, rfl⟩
        rw [← hv4] at y4 N0 ⊢
        refine hK _ _ ⟨(B12.out.below y4 B12.out.lt).range 0 _ [] (by simp), (B10.out.below y4 B10.out.lt).range 0 _ [] (by simp)⟩ (fun _ => ?_)
        clear hK KC hgd hv4
        refine wpAnyH_ready (rs := [3]) (by kernel_rfl) (by simp) ?_
        refine AllReadyH.cons rfl (fun KC hK => ?_) AllReadyH.nil
        go_simp
        refine (CM.out T1 L10 (e12 * 2 ^ 50) e10 e13 _ hT1 H10.out HE.out.2.2.2.2.2.2.2.2.2.2.2.1).mono ?_
        rintro e v5 ⟨T2, rfl, hT2, zc5⟩
        have y5 := y4.trans (zc5.mono y4.size)
        have N0 : Hid (Blk v5 gd 62 z5) := N0.out.below zc5 N0.out.lt
        refine hK _ _ ⟨(B12.out.below y5 B12.out.lt).range 0 _ [] (by simp), (B10.out.below y5 B10.out.lt).range 0 _ [] (by simp)⟩ (fun _ => ?_)
        clear hK KC
        refine wpAnyH_ready (rs := [5]) (by kernel_rfl) (by simp) ?_
        refine AllReadyH.cons rfl (fun KC hK => ?_) AllReadyH.nil
        refine step_store_blk rfl 62 (.tmp 13) (.tmp 54) rfl gd T2.toArray rfl rfl 62 z5 N0.out (by rw [List.size_toArray, hT2.len]; kernel_rfl) (by rw [List.size_toArray, hT2.len, z5_len]) hT2.one ?_
        intro w3 hb3 ho3
        have ye : Below X12.heap.size X12 w3 := y5.trans (ho3.below y5.size hgl)
        refine hK _ _ ⟨((B12.out.below ye B12.out.lt)).range 0 _ [] (by simp), ((B10.out.below ye B10.out.lt)).range 0 _ [] (by simp)⟩ (fun _ => ?_)
        clear hK KC
        refine wpAnyH_done (by kernel_rfl) ?_ _
        go_wp2_with fail
        go_meet
        case rel => exact ⟨gd, T2, rfl, hT2, hb3, ye, hgl⟩
    · skip
      go_simp
      obtain ⟨gd, hgd⟩ : ∃ v, v = X12.heap.size := ⟨_, rfl⟩
      rw [← hgd]
      have hgl : X12.heap.size ≤ gd := by rw [hgd]; exact Nat.le_refl _
      have N0 : Hid (Blk (X12.alloc (.cells z5.toArray 62)).drew gd 62 z5) := (Blk.newAt _ _ _ _ _ hgd rfl).drew
      have y6 : Below X12.heap.size X12 (X12.alloc (.cells z5.toArray 62)).drew := drewN_below ((Below.refl _ _).alloc (Nat.le_refl _) _) 1
      obtain ⟨v6, hv6⟩ : ∃ v, v = (X12.alloc (.cells z5.toArray 62)).drew := ⟨_, rfl⟩
      first | rw [← hv6] | rw [← z5_arr, ← hv6]
      rw [← hv6] at y6 N0
      refine hK _ _ ⟨(B12.out.below y6 B12.out.lt).range 0 _ [] (by simp), (B10.out.below y6 B10.out.lt).range 0 _ [] (by simp)⟩ (fun _ => ?_)
      clear hK KC hgd hv6
      refine wpAnyH_ready (rs := [1]) (by kernel_rfl) (by simp) ?_
      refine AllReadyH.cons rfl (fun KC hK => ?_) AllReadyH.nil
      go_simp
      refine (CQ.out L12 e12 50 _ H12.out (by decide)).mono ?_
      rintro e v7 ⟨T1, rfl, hT1, zc7⟩
      have y7 := y6.trans (zc7.mono y6.size)
      have N0 : Hid (Blk v7 gd 62 z5) := N0.out.below zc7 N0.out.lt
      refine hK _ _ ⟨(B12.out.below y7 B12.out.lt).range 0 _ [] (by simp), (B10.out.below y7 B10.out.lt).range 0 _ [] (by simp)⟩ (fun _ => ?_)
      clear hK KC
      refine wpAnyH_ready (rs := [3]) (by kernel_rfl) (by simp) ?_
      refine AllReadyH.cons rfl (fun KC hK => ?_) AllReadyH.nil
      go_simp
      refine (CM.out T1 L10 (e12 * 2 ^ 50) e10 e13 _ hT1 H10.out HE.out.2.2.2.2.2.2.2.2.2.2.2.1).mono ?_
      rintro e v8 ⟨T2, rfl, hT2, zc8⟩
      have y8 := y7.trans (zc8.mono y7.size)
      have N0 : Hid (Blk v8 gd 62 z5) := N0.out.below zc8 N0.out.lt
      refine hK _ _ ⟨(B12.out.below y8 B12.out.lt).range 0 _ [] (by simp), (B10.out.below y8 B10.out.lt).range 0 _ [] (by simp)⟩ (fun _ => ?_)
      clear hK KC
      refine wpAnyH_ready (rs := [5]) (by kernel_rfl) (by simp) ?_
      refine AllReadyH.cons rfl (fun KC hK => ?_) AllReadyH.nil
      refine step_store_blk rfl 62 (.tmp 13) (.tmp 54) rfl gd T2.toArray rfl rfl 62 z5 N0.out (by rw [List.size_toArray, hT2.len]; kernel_rfl) (by rw [List.size_toArray, hT2.len, z5_len]) hT2.one ?_
      intro w3 hb3 ho3
      have ye : Below X12.heap.size X12 w3 := y8.trans (ho3.below y8.size hgl)
      refine hK _ _ ⟨((B12.out.below ye B12.out.lt)).range 0 _ [] (by simp), ((B10.out.below ye B10.out.lt)).range 0 _ [] (by simp)⟩ (fun _ => ?_)
      clear hK KC
      refine wpAnyH_done (by kernel_rfl) ?_ _
      go_wp2_with fail
      go_meet
      case rel => exact ⟨gd, T2, rfl, hT2, hb3, ye, hgl⟩
  case rest =>
  obtain ⟨g13, L13, rfl, H13, N13, U13, G13⟩ := hcut
  obtain ⟨X13, rfl⟩ : ∃ x, x = wc := ⟨_, rfl⟩
  have KK13 : Hid (Below w.heap.size w X13) := KK12.out.trans (U13.out.mono KK12.out.size)
  have HX13 : Hid (g1 + 1 < g13) := Nat.lt_of_lt_of_le B2.out.lt G13.out
  clear G13
  have Q1 : Hid (Blk X13 g1 62 A) := B1.out.below U13.out B1.out.lt
  have Q2 : Hid (Blk X13 (g1 + 1) 62 z5) := B2.out.below U13.out B2.out.lt
  have Q3 : Hid (Blk X13 g3 62 L3) := B3.out.below U13.out B3.out.lt
  have Q4 : Hid (Blk X13 g4 62 L4) := B4.out.below U13.out B4.out.lt
  have Q5 : Hid (Blk X13 g5 62 L5) := B5.out.below U13.out B5.out.lt
  have Q6 : Hid (Blk X13 g6 62 L6) := B6.out.below U13.out B6.out.lt
  have Q7 : Hid (Blk X13 g7 62 L7) := B7.out.below U13.out B7.out.lt
  have Q8 : Hid (Blk X13 g8 62 L8) := B8.out.below U13.out B8.out.lt
  have Q9 : Hid (Blk X13 g9 62 L9) := B9.out.below U13.out B9.out.lt
  have Q10 : Hid (Blk X13 g10 62 L10) := B10.out.below U13.out B10.out.lt
  have Q11 : Hid (Blk X13 g11 62 L11) := B11.out.below U13.out B11.out.lt
  have Q12 : Hid (Blk X13 g12 62 L12) := B12.out.below U13.out B12.out.lt
  clear B1
  clear B2
  clear B3
  clear B4
  clear B5
  clear B6
  clear B7
  clear B8
  clear B9
  clear B10
  clear B11
  clear B12
  have B1 := Q1
  clear Q1
  have B2 := Q2
  clear Q2
  have B3 := Q3
  clear Q3
  have B4 := Q4
  clear Q4
  have B5 := Q5
  clear Q5
  have B6 := Q6
  clear Q6
  have B7 := Q7
  clear Q7
  have B8 := Q8
  clear Q8
  have B9 := Q9
  clear Q9
  have B10 := Q10
  clear Q10
  have B11 := Q11
  clear Q11
  have B12 := Q12
  clear Q12
  have B13 := N13
  clear N13 U13 KK12
  have HGD : Hid (g1 + 1 < g13 ∧ g1 + 1 < g5) := ⟨HX13.out, HX5.out⟩
  go_upto_region 12 with fail
  refine wp_region_any (by kernel_rfl) ?_
  change wpAny _ _ _ _ _ _ _ (World.drew _)
  refine wpAny_of_held (S := fun w' => w'.rangeAt g13 0 L13 ∧ w'.rangeAt g5 0 L5) _ _ _ _ ?_
  have y0 : Below X13.heap.size X13 X13.drew := below_draws X13 1
  refine wpAnyH_take_at (i := 0) (v := .agg L13.toArray) rfl rfl (by kernel_rfl) (by kernel_rfl) (by kernel_rfl) (fun _ _ _ h => h) (yieldsIf_load_mid (by rfl) 62 (.tmp 13) rfl g13 0 rfl L13 _ (fun w h => h.1) Tryd.underlying62 rfl (by rw [H13.out.len]; kernel_rfl)) ⟨(B13.out.below y0 B13.out.lt).range 0 _ [] (by simp), (B5.out.below y0 B5.out.lt).range 0 _ [] (by simp)⟩ ?_
  simp only [List.setIfInBounds_toArray, List.set_cons_zero, List.set_cons_succ]
  refine wpAnyH_take_at (i := 2) (v := .agg L5.toArray) rfl rfl (by kernel_rfl) (by kernel_rfl) (by kernel_rfl) (fun _ _ _ h => h) (yieldsIf_load_mid (by rfl) 62 (.tmp 5) rfl g5 0 rfl L5 _ (fun w h => h.2) Tryd.underlying62 rfl (by rw [H5.out.len]; kernel_rfl)) ⟨(B13.out.below y0 B13.out.lt).range 0 _ [] (by simp), (B5.out.below y0 B5.out.lt).range 0 _ [] (by simp)⟩ ?_
  simp only [List.setIfInBounds_toArray, List.set_cons_zero, List.set_cons_succ]
  refine wpAnyH_ready (rs := [1]) (by kernel_rfl) (by simp) ?_
  refine AllReadyH.cons rfl (fun KC hK => ?_) AllReadyH.nil
  go_simp
  refine (CQ.out L13 e13 5 _ H13.out (by decide)).mono ?_
  rintro e v1 ⟨T1, rfl, hT1, zc1⟩
  have y1 := y0.trans (zc1.mono y0.size)
  refine hK _ _ ⟨(B13.out.below y1 B13.out.lt).range 0 _ [] (by simp), (B5.out.below y1 B5.out.lt).range 0 _ [] (by simp)⟩ (fun _ => ?_)
  clear hK KC
  refine wpAnyH_ready (rs := [3]) (by kernel_rfl) (by simp) ?_
  refine AllReadyH.cons rfl (fun KC hK => ?_) AllReadyH.nil
  go_simp
  refine (CM.out T1 L5 (e13 * 2 ^ 5) e5 e14 _ hT1 H5.out HE.out.2.2.2.2.2.2.2.2.2.2.2.2).mono ?_
  rintro e v2 ⟨T2, rfl, hT2, zc2⟩
  have y2 := y1.trans (zc2.mono y1.size)
  refine hK _ _ ⟨(B13.out.below y2 B13.out.lt).range 0 _ [] (by simp), (B5.out.below y2 B5.out.lt).range 0 _ [] (by simp)⟩ (fun _ => ?_)
  clear hK KC
  refine wpAnyH_ready (rs := [4]) (by kernel_rfl) (by simp) ?_
  refine AllReadyH.cons rfl (fun KC hK => ?_) AllReadyH.nil
  refine step_store_blk rfl 62 (.tmp 2) (.tmp 58) rfl (g1 + 1) T2.toArray rfl rfl 62 z5 (B2.out.below y2 B2.out.lt) (by rw [List.size_toArray, hT2.len]; kernel_rfl) (by rw [List.size_toArray, hT2.len, z5_len]) hT2.one ?_
  intro w3 hb3 ho3
  have ye : Below w.heap.size w w3 := (KK13.out.trans (y2.mono KK13.out.size)).trans (ho3.below (Nat.le_trans KK13.out.size y2.size) HG.out)
  refine hK _ _ ⟨((B13.out.below y2 B13.out.lt).grown ho3 (by have := HGD.out; intro e; injection e with e; omega)).range 0 _ [] (by simp), ((B5.out.below y2 B5.out.lt).grown ho3 (by have := HGD.out; intro e; injection e with e; omega)).range 0 _ [] (by simp)⟩ (fun _ => ?_)
  clear hK KC
  refine wpAnyH_done (by kernel_rfl) ?_ _
  go_wp2
  exact bodyPost_ret (results_cell_row rfl _ _ (g1 + 1) _ _ _ _ rfl hb3 Tryd.underlying62 rfl (by rw [List.size_toArray, hT2.len]; kernel_rfl)) rfl ⟨T2, rfl, hT2, ye⟩

end Go.Proofs.YtdojalhaklkegaaDoor
