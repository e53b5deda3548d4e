/-
  CONTRACT OF poly.Tag: the tag, or the refusal. Conditions: messages of up to 2^46 bytes.
  SLICES OF INTS: the call's own or come in; one or more ints appended; made. Conditions: none.
  PLAIN MATHEMATICS: numbers as rows of digits of base 256, the least first. Nothing of the program. Conditions: as each says.
-/
import Derived.Test.YtdojalhaklkegaaDoorPn10
import Derived.RangeFuncNested
import Derived.Deep.RegionHeld3
import Derived.Test.YtdojalhaklkegaaDoorPn2
import Derived.Deep.RegionLaw
import Derived.Test.YtdojalhaklkegaaDoorPn1

set_option maxRecDepth 100000
namespace Go.Proofs.YtdojalhaklkegaaDoor
open Go.RowKit Go.Shelf
set_option linter.unusedVariables false

attribute [local go_sem] Oper.semAt_some

namespace M

def stepP (R : List UInt64) (m : List UInt8) (a : List UInt64) (c : Nat) : List UInt64 := times (plus a (num (pcP m c))) R

def accP (R : List UInt64) (m : List UInt8) (pre : List Nat) : List UInt64 := pre.foldl (stepP R m) (List.replicate 5 0)

theorem accP_snoc (R : List UInt64) (m : List UInt8) (pre : List Nat) (x : Nat) : accP R m (pre ++ [x]) = times (plus (accP R m pre) (num (pcP m x))) R := by
  rw [accP, List.foldl_append, List.foldl_cons, List.foldl_nil, ← accP, stepP]

theorem accP_length (R : List UInt64) (m : List UInt8) (pre : List Nat) : (accP R m pre).length = 5 := by
  have h : ∀ (l : List Nat) (a : List UInt64), a.length = 5 → (l.foldl (stepP R m) a).length = 5 := by
    intro l
    induction l with
    | nil => intro a h; exact h
    | cons c l ih => intro a _; rw [List.foldl_cons]; exact ih _ (by rw [stepP, times_length])
  exact h pre _ (by simp)

/-- The tag, limb by limb. -/
def tagL (key m : List UInt8) : List UInt8 := withS (left (accP (num (clamp key)) m (List.range ((m.length + 15) / 16)))) (key.drop 16)

end M

/-- No operation of a written list is a defer statement. -/
def noDefer5 (ops : List Oper) : Bool := ops.all fun o => match o.op with | .defer _ => false | _ => true

theorem noDefer5_spec {ops : List Oper} (h : noDefer5 ops = true) : NoDefer ops := by
  intro o ho c e
  have := List.all_eq_true.1 h o ho
  rw [e] at this
  cases this

theorem not_cells_ne5 {W : World} {g : Nat} {t : TypeId} {cs : List Value} {row : Option Nat} {B : Nat} (h : Blk W g t cs) (hr : ∀ r, row = some r → B ≤ r ∧ ∃ o : Obj, W.heap[r]? = some o ∧ o.isCells = false) : some g ≠ row := by
  intro e
  obtain ⟨_, o, ho, hc⟩ := hr g e.symm
  rw [show W.heap[g]? = _ from h] at ho
  cases ho
  cases hc

theorem blk_own {β : Type} (B g : Nat) (t : TypeId) (f : β → List Value) : OwnFrom B (fun s W => Blk W g t (f s)) := fun s W W' row hs hg hr => hs.grown hg (not_cells_ne5 hs hr)

theorem keeps_below {W W' : World} (k : Below W.heap.size W W') (B : Nat) : KeepsFrom B W W' := ⟨k.size, fun i o _ hi _ => (k.block i (Array.getElem?_eq_some_iff.1 hi).1).trans hi⟩

theorem keeps_only {W W' : World} {g : Nat} {t : TypeId} {cs : List Value} (k : Only g W W') (h : Blk W g t cs) (B : Nat) : KeepsFrom B W W' :=
  (KeepsOthers.of_grownBy k fun j o e ho => by cases e; rw [show W.heap[_]? = _ from h] at ho; cases ho; rfl).from B

set_option maxRecDepth 100000 in
set_option maxHeartbeats 4000000 in
theorem tag_any (kv mv : Value) (key m : List UInt8) (w : World) (hk : IsB w kv key) (hm : IsB w mv m) (hkl : key.length = 32) (hlen : m.length ≤ 70368744177664) :
    Calls Tryd.prog 56 #[kv, mv] w fun e w' => ∃ r, e = .returned (.tuple #[r, .int .i64 0]) ∧ Own w' w.heap.size r (M.tagL key m) ∧ Below w.heap.size w w' := by
  obtain ⟨R, hR⟩ : ∃ R, Hid (R = M.num (M.clamp key)) := ⟨_, rfl⟩
  have HRL : Hid (R.length = 5) := by rw [Hid, hR.out, M.num_length]
  have HCK : Hid (Calls Tryd.prog 77 #[kv] w fun e w' => e = .returned (.agg (dc R).toArray) ∧ Below w.heap.size w w') := by
    rw [Hid, hR.out]; exact clamped_any kv key w hk hkl
  have HM := Lib.hid hm
  have HK := Lib.hid hk
  have HKL := Lib.hid hkl
  obtain ⟨a1, c1, rfl, hk1, hk2, _⟩ := hk
  obtain ⟨a2, c2, rfl, hm1, hm2, _⟩ := hm
  rw [hkl] at HCK HK hk1 ⊢
  obtain ⟨L, hL⟩ : ∃ L, L = m.length := ⟨_, rfl⟩
  have HLN := Lib.hid hL
  rw [← hL] at HM hm1 hlen ⊢
  clear hL hkl
  refine (callsIn_wide (n := 3)).1 ?_
  refine callsIn_of_wp_marks Tryd.func56 rfl trivial ?_ rfl
  simp only [Tryd.ntmps56, List.size_toArray, List.length_cons, List.length_nil, Nat.reduceAdd, Nat.reduceSub, Array.replicate_succ, Array.replicate_zero, List.push_toArray, List.append_toArray, List.nil_append, List.cons_append]
  refine wpIn_wide.2 ?_
  go_wp2_with fail
  refine HCK.out.mono ?_
  rintro e w1 ⟨rfl, k1⟩
  go_wp2_with (refine wpList_store_blk rfl 122 (.tmp 6) (.tmp 13) rfl w1.heap.size (dc R).toArray rfl rfl 122 (dc (List.replicate 5 0)) (blk_zeroL _ _ rfl) (by rw [List.size_toArray, dc_length, HRL.out]; kernel_rfl) (by rw [List.size_toArray, dc_length, dc_length, HRL.out]; rfl) (dc_oneCell R) ?_; intro w2 hb2 ho2)
  refine (ppieces_any _ _ _ _).mono ?_
  rintro e w4 ⟨rfl, hw4⟩
  obtain ⟨gR, hgR⟩ : ∃ g, g = w1.heap.size := ⟨_, rfl⟩
  obtain ⟨gA, hgA⟩ : ∃ g, g = w2.heap.size := ⟨_, rfl⟩
  obtain ⟨B1, hB1⟩ : ∃ g, g = (w2.alloc (.cells #[.int .u64 0, .int .u64 0, .int .u64 0, .int .u64 0, .int .u64 0] 122)).heap.size := ⟨_, rfl⟩
  have hs2 : gR < w2.heap.size := by rw [hgR]; exact hb2.lt
  have hB1' : B1 = gA + 1 := by rw [hB1, hgA]; simp
  have hwR : w.heap.size ≤ gR := by rw [hgR]; exact k1.size
  have hRA : gR < gA := by omega
  have hw4s : w4.heap.size = B1 + 1 := by rw [hw4, hB1]; simp
  have k2 : Below w.heap.size w w2 := (k1.alloc k1.size _).trans (ho2.below (by have := k1.size; simp; omega) k1.size)
  have k4 : Below w.heap.size w w4 := by rw [hw4]; exact (k2.alloc k2.size _).alloc (by have := k2.size; simp; omega) _
  have IR : Hid (Blk w4 gR 122 (dc R)) := by rw [Hid, hw4, hgR]; exact (Blk.alloc hb2 _).alloc _
  have IA : Hid (Blk w4 gA 122 (dc (M.accP R m []))) := by rw [Hid, hw4]; exact (blk_zeroL w2 gA hgA).alloc _
  have C1 : Hid (w4.cell? ⟨B1, 0, none⟩ = some (.slice a2 L c2)) := by rw [Hid, hw4]; exact (Blk.newAt _ 24 #[.slice a2 L c2] B1 [.slice a2 L c2] hB1 rfl).cell 0
  rw [← hgR, ← hgA, ← hB1]
  have HB1' := Lib.hid hB1'
  have HW4 := Lib.hid hw4s
  clear hw4 hb2 ho2 hgR hgA hB1 hs2 k1 hB1' hw4s
  go_wp2
  have hB1' := HB1'.out
  have hw4s := HW4.out
  refine (wpIn_wide (n := 3)).1 ?_
  have hsm : m.length ≤ 70368744177664 := by rw [← HLN.out]; omega
  obtain ⟨ak, hsl, hks⟩ := isB_behind (q := 16) (by rw [HKL.out]; exact HK.out) (by rw [HKL.out]; omega) (by rw [HKL.out]; omega)
  rw [HKL.out, show ((16 : Nat) : Int) = 16 from rfl] at hsl
  have HKS := Lib.hid hks
  have hkl16 : (key.drop 16).length = 16 := by rw [List.length_drop, HKL.out]
  rw [hkl16] at HKS
  have HK16 := Lib.hid hkl16
  clear hks hkl16
  refine wpIn_rangeFunc_ownH rfl (by omega) (gf := 107) (lb := #[.pointer (some ⟨B1, 0, none⟩)]) rfl trivial (enters_of Tryd.func107 (by kernel_rfl) rfl)
    (pieces_stops (3 - 1) B1 (by omega) (.slice a2 L c2) m w w4 HM.out hsm k4 (by omega) C1.out) (fun h k => h.trans k)
    (fun W l o o' hl h1 h2 h3 => belowK_b (w := w4) k4.size W l o o' hl h1 h2 h3) (Below.refl _ _) (fun _ => rfl)
    (fun pre W => (Blk W gR 122 (dc R) ∧ Blk W gA 122 (dc (M.accP R m pre))) ∧ Below w.heap.size w W) (fun _ _ _ => False)
    (OwnFrom.and (OwnFrom.and (blk_own _ _ _ _) (blk_own _ _ _ _)) (ownFrom_below (Nat.le_refl _) k4.size)) (fun _ _ _ _ _ hs _ _ => hs) ⟨⟨IR.out, IA.out⟩, k4⟩
    (fun x a' W => ∃ g, gA < g ∧ a' = { tmps := #[.slice a1 32 c1, .slice a2 L c2, undef, undef, .slice none 0 0, .int .i64 0, .pointer (some ⟨gR, 0, none⟩), .pointer (some ⟨gA, 0, none⟩), .pointer (some ⟨g, 0, none⟩), .slice a1 32 c1, .int .i64 32, .bool false, .slice a1 32 c1, .agg (dc R).toArray, .slice a2 L c2, .func (.func 107) #[] #[.pointer (some ⟨B1, 0, none⟩)], .agg (dc (M.num (M.pcP m x))).toArray, undef, undef, undef, undef, undef, undef, undef, undef, undef, undef], defers := [] } ∧ Blk W g 122 (dc (M.num (M.pcP m x))))
    (fun x a' s W W' row ⟨g, h1, h2, h3⟩ hg hr => ⟨g, h1, h2, h3.grown hg (not_cells_ne5 h3 hr)⟩) ?assign ?body ?done ?stop
  case assign =>
    intro l pre x W K ⟨⟨hR1, hA1⟩, hB⟩ hK
    have HKK := Lib.hid hK
    have hPL : Hid ((M.num (M.pcP m x)).length = 5) := M.num_length _
    have hAW : gA < W.heap.size := hA1.lt
    clear hK hB1' hw4s
    refine wpIn_region_of_list l (fun ⟨_, _, h⟩ => h) (noDefer5_spec (by kernel_rfl)) ?_
    go_wp2_with (refine wpList_store_blk rfl 122 (.tmp 8) (.tmp 16) rfl W.heap.size (dc (M.num (M.pcP m x))).toArray rfl rfl 122 (dc (List.replicate 5 0)) (blk_zeroL _ _ rfl) (by rw [List.size_toArray, dc_length, hPL.out]; kernel_rfl) (by rw [List.size_toArray, dc_length, dc_length, hPL.out]; rfl) (dc_oneCell _) ?_; intro w5 hb5 ho5)
    have k5 : Below W.heap.size W w5 := ((Below.refl _ _).alloc (Nat.le_refl _) _).trans (ho5.below (by simp) (Nat.le_refl _))
    refine HKK.out _ _ (keeps_below k5 _) (k5.mono hB.size) ⟨⟨hR1.below k5 hR1.lt, hA1.below k5 hA1.lt⟩, hB.trans (k5.mono hB.size)⟩ ⟨W.heap.size, hAW, rfl, hb5⟩
  case stop =>
    rintro D c pre W hD _ h _
    exact h.elim
  case body =>
    rintro l pre x a' W hl _ ⟨⟨hR1, hA1⟩, hB⟩ ⟨g, hAg, rfl, hg1⟩ hlt
    obtain ⟨A, hA⟩ : ∃ A, Hid (A = M.accP R m pre) := ⟨_, rfl⟩
    have HAL : Hid (A.length = 5) := by rw [Hid, hA.out]; exact M.accP_length R m pre
    obtain ⟨p, hp⟩ : ∃ p, Hid (p = M.num (M.pcP m x)) := ⟨_, rfl⟩
    have HPL : Hid (p.length = 5) := by rw [Hid, hp.out]; exact M.num_length _
    rw [← hA.out] at hA1
    rw [← hp.out] at hg1 ⊢
    obtain ⟨s, hs⟩ : ∃ s, Hid (s = M.plus A p) := ⟨_, rfl⟩
    have HSL : Hid (s.length = 5) := by rw [Hid, hs.out, M.plus_length, HAL.out]
    obtain ⟨t, ht⟩ : ∃ t, Hid (t = M.times s R) := ⟨_, rfl⟩
    have HTL : Hid (t.length = 5) := by rw [Hid, ht.out, M.times_length]
    have HP : Hid (∀ W, Calls Tryd.prog 80 #[.agg (dc A).toArray, .agg (dc p).toArray] W fun e w' => e = .returned (.agg (dc s).toArray) ∧ Below W.heap.size W w') := fun W => by
      rw [hs.out]; exact plus_any A p W HAL.out HPL.out
    have HT : Hid (∀ W, Calls Tryd.prog 79 #[.agg (dc s).toArray, .agg (dc R).toArray] W fun e w' => e = .returned (.agg (dc t).toArray) ∧ Below W.heap.size W w') := fun W => by
      rw [ht.out]; exact times_any s R W HSL.out HRL.out
    have HR0 : Hid (Blk W gR 122 (dc R)) := hR1
    have HA0 : Hid (Blk W gA 122 (dc A)) := hA1
    have HG0 : Hid (Blk W g 122 (dc p)) := hg1
    have hmix : Tryd.prog.follows .mixedOrders = true := by kernel_rfl
    clear hR1 hA1 hg1
    refine wpIn_block ?_
    refine wpIn_region_any hmix ?_
    refine wpAnyIn_of_wpAny l (fun ⟨_, _, h⟩ => h) (noDefer5_spec (by kernel_rfl)) ?_
    change wpAny _ _ _ _ _ _ _ (World.drew _)
    refine wpAny_of_held (S := fun w' => w'.rangeAt g 0 (dc p) ∧ w'.rangeAt gR 0 (dc R)) _ _ _ _ ?_
    have S0 : W.drew.rangeAt g 0 (dc p) ∧ W.drew.rangeAt gR 0 (dc R) := ⟨HG0.out.drew.range 0 _ [] (by simp), HR0.out.drew.range 0 _ [] (by simp)⟩
    refine wpAnyH_take_at (i := 1) (v := .agg (dc p).toArray) rfl rfl (by kernel_rfl) (by kernel_rfl) (by kernel_rfl) (fun _ _ _ h => h) (yieldsIf_load_mid (by rfl) 122 (.tmp 8) rfl g 0 rfl (dc p) _ (fun w h => h.1) Tryd.underlying122 rfl (by rw [dc_length, HPL.out]; kernel_rfl)) S0 ?_
    simp only [List.setIfInBounds_toArray, List.set_cons_zero, List.set_cons_succ]
    refine wpAnyH_take_at (i := 3) (v := .agg (dc R).toArray) rfl rfl (by kernel_rfl) (by kernel_rfl) (by kernel_rfl) (fun _ _ _ h => h) (yieldsIf_load_mid (by rfl) 122 (.tmp 6) rfl gR 0 rfl (dc R) _ (fun w h => h.2) Tryd.underlying122 rfl (by rw [dc_length, HRL.out]; kernel_rfl)) S0 ?_
    simp only [List.setIfInBounds_toArray, List.set_cons_zero, List.set_cons_succ]
    refine wpAnyH_ready (rs := [0]) (by kernel_rfl) (by simp) ?_
    refine AllReadyH.cons rfl (fun K hK => ?_) AllReadyH.nil
    refine step_load_mid rfl 122 (.tmp 7) rfl gA 0 rfl (dc A) _ (HA0.out.drew.range 0 _ [] (by simp)) Tryd.underlying122 rfl (by rw [dc_length, HAL.out]; kernel_rfl) ?_
    simp only [Act.put, List.setIfInBounds_toArray]
    refine hK.out _ _ S0 (fun _ => ?_)
    clear hK K
    refine wpAnyH_ready (rs := [2]) (by kernel_rfl) (by simp) ?_
    refine AllReadyH.cons rfl (fun K hK => ?_) AllReadyH.nil
    go_simp
    refine (HP.out _).mono ?_
    rintro e w5 ⟨rfl, k5⟩
    have k5' : Below W.heap.size W w5 := (drewN_below (Below.refl W.heap.size W) 1).trans k5
    have S5 : w5.rangeAt g 0 (dc p) ∧ w5.rangeAt gR 0 (dc R) := ⟨(HG0.out.below k5' HG0.out.lt).range 0 _ [] (by simp), (HR0.out.below k5' HR0.out.lt).range 0 _ [] (by simp)⟩
    refine hK.out _ _ S5 (fun _ => ?_)
    clear hK K
    refine wpAnyH_ready (rs := [4]) (by kernel_rfl) (by simp) ?_
    refine AllReadyH.cons rfl (fun K hK => ?_) AllReadyH.nil
    go_simp
    refine (HT.out _).mono ?_
    rintro e w6 ⟨rfl, k6⟩
    have k6' : Below W.heap.size W w6 := k5'.trans (k6.mono k5'.size)
    have S6 : w6.rangeAt g 0 (dc p) ∧ w6.rangeAt gR 0 (dc R) := ⟨(HG0.out.below k6' HG0.out.lt).range 0 _ [] (by simp), (HR0.out.below k6' HR0.out.lt).range 0 _ [] (by simp)⟩
    refine hK.out _ _ S6 (fun _ => ?_)
    clear hK K
    refine wpAnyH_ready (rs := [5]) (by kernel_rfl) (by simp) ?_
    refine AllReadyH.cons rfl (fun K hK => ?_) AllReadyH.nil
    refine step_store_blk rfl 122 (.tmp 7) (.tmp 21) rfl gA (dc t).toArray rfl rfl 122 (dc A) (HA0.out.below k6' HA0.out.lt) (by rw [List.size_toArray, dc_length, HTL.out]; kernel_rfl) (by rw [List.size_toArray, dc_length, dc_length, HTL.out, HAL.out]) (dc_oneCell t) ?_
    intro w7 hb7 ho7
    have hR7 : Blk w7 gR 122 (dc R) := (HR0.out.below k6' HR0.out.lt).grown ho7 (by intro e; injection e with e; omega)
    have hG7 : Blk w7 g 122 (dc p) := (HG0.out.below k6' HG0.out.lt).grown ho7 (by intro e; injection e with e; omega)
    refine hK.out _ _ ⟨hG7.range 0 _ [] (by simp), hR7.range 0 _ [] (by simp)⟩ (fun _ => ?_)
    clear hK K
    refine wpAnyH_done (by kernel_rfl) ?_ _
    have k67 : Below w.heap.size w6 w7 := ho7.below (by have := hB.size; have := k6'.size; omega) (by omega)
    have k7 : Below w.heap.size W w7 := (k6'.mono hB.size).trans k67
    refine ⟨(keeps_below k6' _).trans (keeps_only ho7 (HA0.out.below k6' HA0.out.lt) _), k7, ⟨hR7, ?_⟩, hB.trans k7⟩
    rw [M.accP_snoc, ← hA.out, ← hp.out, ← hs.out, ← ht.out]
    simpa using hb7
  case done =>
    rintro D ys W hD rfl ⟨⟨hR1, hA1⟩, hB⟩ hK
    obtain ⟨A, hA⟩ : ∃ A, Hid (A = M.accP R m (List.range ((m.length + 15) / 16))) := ⟨_, rfl⟩
    have HAL : Hid (A.length = 5) := by rw [Hid, hA.out]; exact M.accP_length R m _
    rw [← hA.out] at hA1
    obtain ⟨n, hn⟩ : ∃ n, Hid (n = M.left A) := ⟨_, rfl⟩
    have HNL : Hid (n.length = 5) := by rw [Hid, hn.out, M.left_length, HAL.out]
    have HA0 : Hid (Blk W gA 122 (dc A)) := hA1
    have HL : Hid (∀ W, Calls Tryd.prog 82 #[.agg (dc A).toArray] W fun e w' => e = .returned (.agg (dc n).toArray) ∧ Below W.heap.size W w') := fun W => by
      rw [hn.out]; exact pleft_any A W HAL.out
    have HWS : Hid (∀ W, Below w.heap.size w W → Calls Tryd.prog 81 #[.agg (dc n).toArray, .slice ak 16 (c1 - 16)] W (Makes W (M.withS n (key.drop 16)))) := fun W kW =>
      withS_any n _ (key.drop 16) W HNL.out (HKS.out.below kW) HK16.out
    have HDK : Hid (W.heap[D]? = some (.deferred (some []))) := hK
    have hDW : D < W.heap.size := (Array.getElem?_eq_some_iff.1 hK).1
    have HB := Lib.hid hB
    have hwD : w.heap.size ≤ D := by have := k4.size; omega
    have hw16 : (16 : Int) ≤ 32 := by decide
    clear hR1 hA1 hK hB hB1' hw4s
    dsimp only
    go_upto_region 8 with fail
    refine wp_region_noPanic ?_
    refine wp_region_any (by kernel_rfl) ?_
    change wpAny _ _ _ _ _ _ _ (World.drew _)
    refine wpAny_of_held (S := fun w' => w'.rangeAt gA 0 (dc A)) _ _ _ _ ?_
    have S0 : W.drew.rangeAt gA 0 (dc A) := HA0.out.drew.range 0 _ [] (by simp)
    refine wpAnyH_take_at (i := 0) (v := .agg (dc A).toArray) rfl rfl (by kernel_rfl) (by kernel_rfl) (by kernel_rfl) (fun _ _ _ h => h) (yieldsIf_load_mid (by rfl) 122 (.tmp 7) rfl gA 0 rfl (dc A) _ (fun w h => h) Tryd.underlying122 rfl (by rw [dc_length, HAL.out]; kernel_rfl)) S0 ?_
    simp only [List.setIfInBounds_toArray, List.set_cons_zero, List.set_cons_succ]
    refine wpAnyH_take_at (i := 2) (v := .slice a1 32 c1) rfl rfl (by kernel_rfl) (by kernel_rfl) (by kernel_rfl) (fun _ _ _ h => h) (Or.inl ⟨by rfl, fun w _ => ?y2⟩) S0 ?r2
    case y2 => go_simp
    simp only [List.setIfInBounds_toArray, List.set_cons_zero, List.set_cons_succ]
    refine wpAnyH_take_at (i := 3) (v := .slice ak 16 (c1 - 16)) rfl rfl (by kernel_rfl) (by kernel_rfl) (by kernel_rfl) (fun _ _ _ h => h) (Or.inl ⟨by rfl, fun w _ => ?y3⟩) S0 ?r3
    case y3 => go_simp
    simp only [List.setIfInBounds_toArray, List.set_cons_zero, List.set_cons_succ]
    refine wpAnyH_ready (rs := [1]) (by kernel_rfl) (by simp) ?_
    refine AllReadyH.cons rfl (fun K hK => ?_) AllReadyH.nil
    go_simp
    refine (HL.out _).mono ?_
    rintro e w5 ⟨rfl, k5⟩
    have k5' : Below W.heap.size W w5 := (drewN_below (Below.refl W.heap.size W) 1).trans k5
    refine hK.out _ _ ((HA0.out.below k5' HA0.out.lt).range 0 _ [] (by simp)) (fun _ => ?_)
    clear hK K
    refine wpAnyH_ready (rs := [4]) (by kernel_rfl) (by simp) ?_
    refine AllReadyH.cons rfl (fun K hK => ?_) AllReadyH.nil
    go_simp
    refine (HWS.out _ (HB.out.trans (k5'.mono HB.out.size))).mono ?_
    rintro e w6 ⟨r6, rfl, o6, k6⟩
    have k6' : Below W.heap.size W w6 := k5'.trans (k6.mono k5'.size)
    have S6 : w6.rangeAt gA 0 (dc A) := (HA0.out.below k6' HA0.out.lt).range 0 _ [] (by simp)
    refine hK.out _ _ S6 (fun _ => ?_)
    clear hK K
    refine wpAnyH_take_at (i := 5) (v := r6) rfl rfl (by kernel_rfl) (by kernel_rfl) (by kernel_rfl) (fun _ _ _ h => h) (Or.inl ⟨by rfl, fun w _ => ?y5⟩) S6 ?r5
    case y5 => go_simp
    simp only [List.setIfInBounds_toArray, List.set_cons_zero, List.set_cons_succ]
    refine wpAnyH_take_at (i := 6) (v := .int .i64 0) rfl rfl (by kernel_rfl) (by kernel_rfl) (by kernel_rfl) (fun _ _ _ h => h) (Or.inl ⟨by rfl, fun w _ => ?y6⟩) S6 ?r6
    case y6 => go_simp
    simp only [List.setIfInBounds_toArray, List.set_cons_zero, List.set_cons_succ]
    refine wpAnyH_done (by kernel_rfl) (NoPanic.normal ?_) _
    go_wp2
    have hK6 : w6.heap[D]? = some (.deferred (some [])) := (k6'.block D hDW).trans HDK.out
    have kw6 : Below w.heap.size w w6 := HB.out.trans (k6'.mono HB.out.size)
    have e : M.tagL key m = M.withS n (key.drop 16) := by rw [M.tagL, ← hR.out, ← hA.out, ← hn.out]
    refine ⟨by simp, .inl ⟨_, _, rfl, run_takeDeferred hK6, ?_⟩⟩
    exact ⟨_, results_tmp2 rfl _ _ _, r6, rfl, by rw [e]; exact ownsRow_putObj (o6.mono (Nat.le_trans HB.out.size k5'.size)) _ hK6 rfl, kw6.trans (belowK_b (w := w) (Nat.le_refl _) w6 D _ _ hwD hK6 rfl rfl)⟩

end Go.Proofs.YtdojalhaklkegaaDoor

namespace Go.Proofs.YtdojalhaklkegaaDoor
open Go.RowKit
set_option linter.unusedVariables false

/-- An int as a cell. -/
def ci (x : Nat) : Value := .int .i64 (x : Int)

def ic (l : List Nat) : List Value := l.map ci

theorem ic_length (l : List Nat) : (ic l).length = l.length := by simp [ic]

theorem ic_oneCell (l : List Nat) : ∀ u ∈ ic l, u.oneCell' = true := by
  intro u hu
  obtain ⟨_, _, rfl⟩ := List.mem_map.1 hu
  rfl

/-- The value is a slice of the words ws. -/
def IsI (w : World) (v : Value) (ws : List Nat) : Prop :=
  ∃ ao cap, v = .slice ao ws.length cap ∧ ws.length ≤ cap ∧ cap ≤ maxLen ∧ (ws = [] ∨ ∃ b off, ao = some ⟨b, off, none⟩ ∧ ∀ i, i < ws.length → w.cell? ⟨b, off + i, none⟩ = some (.int .i64 ((ws.getD i 0 : Nat) : Int)))

/-- The value is a slice of the words ws, a row of the call's own. -/
def OwnI (w : World) (B : Nat) (v : Value) (ws : List Nat) : Prop := w.ownsRow B 3 1 v ws.length (ic ws)

theorem OwnI.below {w w' : World} {B : Nat} {v : Value} {ws : List Nat} (h : OwnI w B v ws) (k : Below w.heap.size w w') : OwnI w' B v ws := by
  refine ⟨h.1, ?_⟩
  rcases h.2 with hn | ⟨g, cap, cur, rfl, hb, hg, rest⟩
  · exact .inl hn
  · refine .inr ⟨g, cap, cur, rfl, hb, ?_, rest⟩
    rw [k.block g (Array.getElem?_eq_some_iff.1 hg).1]
    exact hg

theorem OwnI.mono {w : World} {B B' : Nat} {v : Value} {ws : List Nat} (h : OwnI w B v ws) (hb : B' ≤ B) : OwnI w B' v ws := by
  refine ⟨h.1, ?_⟩
  rcases h.2 with hn | ⟨g, cap, cur, rfl, hg, rest⟩
  · exact .inl hn
  · exact .inr ⟨g, cap, cur, rfl, Nat.le_trans hb hg, rest⟩

theorem IsI.below {w w' : World} {v : Value} {ws : List Nat} (h : IsI w v ws) (k : Below w.heap.size w w') : IsI w' v ws := by
  obtain ⟨ao, cap, rfl, h1, h2, h3⟩ := h
  refine ⟨ao, cap, rfl, h1, h2, ?_⟩
  rcases h3 with h | ⟨b, off, rfl, h⟩
  · exact .inl h
  · refine .inr ⟨b, off, rfl, fun i hi => ?_⟩
    have hc := h i hi
    rw [k.cell (by exact World.block_lt_of_cell? w _ hc)]
    exact hc

/-- A slice of at least one word: where it lies. -/
theorem IsI.at_ {w : World} {v : Value} {ws : List Nat} (h : IsI w v ws) (hne : 0 < ws.length) :
    ∃ b off cap, v = .slice (some ⟨b, off, none⟩) ws.length cap ∧ ∀ i, i < ws.length → w.cell? ⟨b, off + i, none⟩ = some (.int .i64 ((ws.getD i 0 : Nat) : Int)) := by
  obtain ⟨ao, cap, rfl, h1, h2, h3⟩ := h
  rcases h3 with h | ⟨b, off, rfl, h⟩
  · subst h; simp at hne
  · exact ⟨b, off, cap, rfl, h⟩

theorem Tryd.info47 : (Tryd.prog.info? 3).map (fun i => (i.zero, i.size, i.bytes)) = some (some (.int .i64 0), 1, 8) := by kernel_rfl

end Go.Proofs.YtdojalhaklkegaaDoor

namespace Go.Proofs.YtdojalhaklkegaaDoor.M

/-- The number of the first k digits. -/
def gi (l : List Nat) : Nat → Nat
  | 0 => 0
  | k + 1 => gi l k + l.getD k 0 * 256 ^ k

/-- The first n digits of a number. -/
def dg (v : Nat) : Nat → List Nat
  | 0 => []
  | n + 1 => dg v n ++ [v / 256 ^ n % 256]

theorem dg_length (v n : Nat) : (dg v n).length = n := by
  induction n with
  | zero => rfl
  | succ n ih => simp [dg, ih]

end Go.Proofs.YtdojalhaklkegaaDoor.M
