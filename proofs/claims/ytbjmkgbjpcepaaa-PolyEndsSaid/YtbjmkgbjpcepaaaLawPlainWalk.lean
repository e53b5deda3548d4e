/-
  THE WALK OF orloplaw05.PolyPlain: it returns true, and writes nothing that was there. Conditions: none but that the arrays are arrays of their lengths.
-/
import Derived.Test.YtbjmkgbjpcepaaaLawLooseWalk
namespace Go.Proofs.Ytbjmkgbjpcepaaa
open Go.RowKit
set_option linter.unusedVariables false

namespace M

theorem le_gl (b : List UInt8) : ∀ k, k ≤ b.length → le (gl b k) k = b.take k := by
  intro k
  induction k with
  | zero => intro _; simp [le]
  | succ k ih =>
    intro h
    have e1 : le (gl b (k + 1)) k = le (gl b k) k := le_congr _ _ _ (by rw [gl, Nat.add_mul_mod_self_right])
    have e2 : gl b (k + 1) / 256 ^ k = (b.getD k 0).toNat := by
      rw [gl, Nat.add_mul_div_right _ _ (pow_pos k), Nat.div_eq_of_lt (gl_lt b k), Nat.zero_add]
    rw [le, e1, ih (by omega), e2, List.take_succ_eq_append_getElem (by omega)]
    simp [show k < b.length by omega]

theorem tag_none (r s : List UInt8) (hr : r.length = 16) (hs : s.length = 16) : tag (r ++ s) [] = s := by
  have hd : (r ++ s).drop 16 = s := by rw [List.drop_append_of_le_length (by omega), List.drop_eq_nil_of_le (by omega), List.nil_append]
  have h0 : accN (rN (r ++ s)) [] (List.range ((([] : List UInt8).length + 15) / 16)) = 0 := rfl
  rw [tag, hd, h0, Nat.zero_add, le_gl s 16 (by omega), List.take_of_length_le (by omega)]

theorem accN_zero (m : List UInt8) (pre : List Nat) : accN 0 m pre = 0 := by
  have h : ∀ (l : List Nat), l.foldl (stepN 0 m) 0 = 0 := by
    intro l
    induction l with
    | nil => rfl
    | cons c l ih => rw [List.foldl_cons, stepN, Nat.mul_zero, Nat.zero_mod, ih]
  exact h pre

theorem tag_rzero (z s m : List UInt8) (hz : z.length = 16) (hs : s.length = 16) (hr : rN (z ++ s) = 0) : tag (z ++ s) m = s := by
  have hd : (z ++ s).drop 16 = s := by rw [List.drop_append_of_le_length (by omega), List.drop_eq_nil_of_le (by omega), List.nil_append]
  rw [tag, hd, hr, accN_zero, Nat.zero_add, le_gl s 16 (by omega), List.take_of_length_le (by omega)]

/-- What PolyPlain lays for the key's first half. -/
def zb (r : List UInt8) (i : Nat) : UInt8 := if i % 4 = 3 then up (r.getD i 0) else if 0 < i ∧ i % 4 = 0 then lo (r.getD i 0) else 0

def zR (r : List UInt8) : Nat → List UInt8
  | 0 => []
  | k + 1 => zR r k ++ [zb r k]

theorem zR_length (r : List UInt8) (k : Nat) : (zR r k).length = k := by
  induction k with
  | zero => rfl
  | succ k ih => simp [zR, ih]

theorem zR_get (r : List UInt8) (k i : Nat) (h : i < k) : (zR r k).getD i 0 = zb r i := by
  induction k with
  | zero => omega
  | succ k ih =>
    by_cases hk : i < k
    · have := ih hk
      rw [List.getD_eq_getElem?_getD] at this ⊢
      rw [zR, List.getElem?_append_left (by rw [zR_length]; exact hk)]
      exact this
    · have : i = k := by omega
      subst this
      rw [zR, List.getD_eq_getElem?_getD, List.getElem?_append_right (by rw [zR_length]; omega), zR_length, Nat.sub_self]
      rfl

theorem gl_zero (b : List UInt8) (k : Nat) (h : ∀ i, i < k → (b.getD i 0).toNat = 0) : gl b k = 0 := by
  induction k with
  | zero => rfl
  | succ k ih => rw [gl, ih (fun i hi => h i (by omega)), h k (by omega), Nat.zero_mul]

theorem zR_rzero (r s : List UInt8) (hs : s.length = 16) : rN (zR r 16 ++ s) = 0 := by
  have hl : (zR r 16 ++ s).length = 32 := by rw [List.length_append, zR_length, hs]
  rw [rN_eq _ hl]
  apply gl_zero
  intro i hi
  have hg : (zR r 16 ++ s).getD i 0 = zb r i := by
    rw [List.getD_eq_getElem?_getD, List.getElem?_append_left (by rw [zR_length]; exact hi), ← List.getD_eq_getElem?_getD, zR_get r 16 i hi]
  rw [clamp_get _ hl i hi, hg, zb]
  by_cases h3 : i % 4 = 3
  · rw [if_pos h3, if_pos h3, up_nat]
    omega
  · rw [if_neg h3, if_neg h3]
    by_cases h0 : 0 < i ∧ i % 4 = 0
    · rw [if_pos h0, if_pos h0, lo_nat]
      omega
    · rw [if_neg h0, if_neg h0]
      rfl

end M

/-- 'b[:]' of an array of 16 bytes. -/
theorem slice16_all (g : Nat) (w : World) :
    (Instr.sliceAt 30 (.pointer (some ⟨g, 0, none⟩)) none none none).run Try.prog w = .ok (.slice (some ⟨g, 0, none⟩) 16 16) w := by
  have hal : Try.prog.arrayLen 30 = 16 := by simp [Program.arrayLen, Try.underlying30]
  have hel : Try.prog.elem 30 = 5 := by simp [Program.elem, Try.underlying30]
  rw [run_sliceAt_array_all w 30 ⟨g, 0, none⟩ (by rw [hal, hel]; exact Try.underlying30), hel, Try.sizeOf5]
  simp only [Result.andThen_ok, slicedAt, hal]
  rw [if_neg (by omega), Nat.zero_mul, Addr.add_lit]

/-- 'append(bs, ys...)' as one step of a region that draws. -/
theorem step_appBs5 {w : World} {ops : Array Oper} {o : Oper} {a : Act} {K : Act → World → Prop} {Q : Exit → Act → World → Prop} {E : Prop} (hg : o.guard = none) (s x : Operand)
    (ho : o.op = .call { callee := .builtin .append, args := #[s, x], argTypes := #[22, 22] })
    (B : Nat) (v : Value) (bs : List UInt8) (hs : a.eval s = v) (hown : Own w B v bs) (ad : Addr) (n cap : Nat) (ys : List UInt8) (hx : a.eval x = .slice (some ad) n cap) (hi : IsB w (.slice (some ad) n cap) ys) (hn : n = ys.length)
    (hlen : bs.length + ys.length ≤ 140737488355000) (hB : B ≤ w.heap.size)
    (h : ∀ v' w', Own w' B v' (bs ++ ys) → Below B w w' → K (a.put o.dst v') w') : if Region.wanted o (yielded ops a.tmps) = true then Oper.wp Try.prog o a w K Q else E := by
  obtain ⟨i0, h0, hz0, hz1, hz2⟩ := info_parts Try.info5
  have hw : Region.wanted o (yielded ops a.tmps) = true := by simp [Region.wanted, hg]
  rw [if_pos hw]
  subst hn
  refine wp_append_own w s x _ ho B 5 i0 (.int .u8 0) 1 1 Try.underlying22 h0 hz0 hz1 hz2 rfl (by decide) v bs.length _ hs hown.row ad ys.length cap (Lib.byteCells ys) hx (by rw [byteCells_length, Nat.mul_one]) (hi.cells.2.2 ad rfl) (byteCells_oneCell _) (by unfold maxLen; omega) (by omega) hB ?_
  intro v' w' hown' hgrow _
  refine h v' w' ?_ ((Below.refl B w).grown hgrow hB fun k hk => (hown.row.lt k hk).1)
  rw [Own, List.length_append, byteCells_append]
  exact hown'

set_option maxHeartbeats 4000000 in
theorem polyPlain_walk (w : World) (s : List UInt8) (hs : s.length = 16) (r : List UInt8) (hr : r.length = 16) (mv : Value) (m : List UInt8) (hm : IsB w mv m) :
    Calls Try.prog 5 #[.agg (Lib.byteCells s).toArray, .agg (Lib.byteCells r).toArray, mv] w fun e w' => e = .returned (.bool true) ∧ Below w.heap.size w w' := by
  have HS := Lib.hid hs
  have HR := Lib.hid hr
  have HM := Lib.hid hm
  obtain ⟨a2, c2, rfl, hm1, hm2, hmt⟩ := hm
  obtain ⟨L, hL⟩ : ∃ L, L = m.length := ⟨_, rfl⟩
  have HLN := Lib.hid hL
  rw [← hL] at HM hm1 ⊢
  unfold maxLen at hm2
  obtain ⟨w1, hw1⟩ : ∃ x, Hid (x = (w.alloc (.cells (Lib.byteCells s).toArray 30)).alloc (.cells (Lib.byteCells r).toArray 30)) := ⟨_, rfl⟩
  have B0 : Hid (Blk w1 w.heap.size 30 (Lib.byteCells s)) := by rw [hw1.out]; exact (Blk.newAt _ _ _ _ _ rfl (by simp)).alloc _
  have B1 : Hid (Blk w1 (w.heap.size + 1) 30 (Lib.byteCells r)) := by rw [hw1.out]; exact Blk.newAt _ _ _ _ _ (by simp) (by simp)
  have k1 : Below w.heap.size w w1 := by rw [hw1.out]; exact ((Below.refl _ _).alloc (Nat.le_refl _) _).alloc (by simp) _
  clear hs hr hL hmt
  go_enter Try.func5, Try.ntmps5
  go_wp2_with fail
  rw [← hw1.out]
  refine (polyAwake_any w1).mono ?_
  rintro e w2 ⟨rfl, k2⟩
  have kk2 : Below w.heap.size w w2 := k1.trans (k2.mono k1.size)
  have HB0 : Hid (∀ W, Below w2.heap.size w2 W → IsB W (.slice (some ⟨w.heap.size, 0, none⟩) 16 16) s) := fun W kW => blk_isB0 ((B0.out.below k2 B0.out.lt).below kW (B0.out.below k2 B0.out.lt).lt) 16 HS.out (by decide)
  have HB1 : Hid (∀ W, Below w2.heap.size w2 W → IsB W (.slice (some ⟨w.heap.size + 1, 0, none⟩) 16 16) r) := fun W kW => blk_isB0 ((B1.out.below k2 B1.out.lt).below kW (B1.out.below k2 B1.out.lt).lt) 16 HR.out (by decide)
  have HRC : Hid (∀ W, Below w2.heap.size w2 W → ∀ i, i < 16 → W.cell? ⟨w.heap.size + 1, i, none⟩ = some (.int .u8 ((r.getD i 0).toNat : Int))) := fun W kW i hi => by
    rw [((B1.out.below k2 B1.out.lt).below kW (B1.out.below k2 B1.out.lt).lt).cell, byteCells_getElem? _ _ (by rw [HR.out]; exact hi)]
  have HMM : Hid (∀ W, Below w2.heap.size w2 W → IsB W (.slice a2 L c2) m) := fun W kW => HM.out.below (kk2.trans (kW.mono kk2.size))
  clear B0 B1 k1 k2
  by_cases hb : 2048 < L
  · go_wp2
    go_ret
    exact ⟨rfl, kk2⟩
  · have HL2 : Hid (m.length ≤ 2048) := by rw [Hid, ← HLN.out]; omega
    have hsl0 := slice16_all w.heap.size
    have hsl1 := slice16_all (w.heap.size + 1)
    have HT1 : Hid (∀ v W, Below w2.heap.size w2 W → IsB W v (r ++ s) → Calls Try.prog 8 #[v, .slice none 0 0] W fun e w' => ∃ r, e = .returned (.tuple #[r, .int .i64 0]) ∧ Own w' W.heap.size r s ∧ Below W.heap.size W w') := fun v W kW iW => by
      have h := tag_yes v (.slice none 0 0) (r ++ s) [] W iW (IsB.nil W) (by rw [List.length_append, HR.out, HS.out]) (by decide)
      rw [M.tag_none r s HR.out HS.out] at h
      exact h
    go_upto_region 5 with fail
    refine wp_region_any (by kernel_rfl) ?_
    change wpAny _ _ _ _ _ _ _ (World.drew _)
    refine wpAny_of_held (S := fun _ => True) _ _ _ _ ?_
    refine wpAnyH_take_at (i := 1) (v := .slice (some ⟨w.heap.size + 1, 0, none⟩) 16 16) rfl rfl (by kernel_rfl) (by kernel_rfl) (by kernel_rfl) (fun _ _ _ h => h) (Or.inl ⟨by rfl, fun w _ => by go_simp⟩) trivial ?_
    simp only [List.setIfInBounds_toArray, List.set_cons_zero, List.set_cons_succ]
    refine wpAnyH_take_at (i := 3) (v := .slice (some ⟨w.heap.size, 0, none⟩) 16 16) rfl rfl (by kernel_rfl) (by kernel_rfl) (by kernel_rfl) (fun _ _ _ h => h) (Or.inl ⟨by rfl, fun w _ => by go_simp⟩) trivial ?_
    simp only [List.setIfInBounds_toArray, List.set_cons_zero, List.set_cons_succ]
    refine wpAnyH_ready (rs := [0]) (by kernel_rfl) (by simp) ?_
    refine AllReadyH.cons rfl (fun K hK => ?_) AllReadyH.nil
    go_simp
    have o3 : Own (w2.alloc (.cells #[] 5)).drew w2.heap.size (.slice (some ⟨w2.heap.size, 0, none⟩) 0 0) [] := own_empty w2
    have k3 : Below w2.heap.size w2 (w2.alloc (.cells #[] 5)).drew := drewN_below ((Below.refl _ _).alloc (Nat.le_refl _) _) 1
    obtain ⟨w3, hw3⟩ : ∃ W, Hid (W = (w2.alloc (.cells #[] 5)).drew) := ⟨_, rfl⟩
    rw [← hw3.out] at o3 k3 ⊢
    refine hK.out _ _ trivial (fun _ => ?_)
    clear hK K
    refine wpAnyH_ready (rs := [2]) (by kernel_rfl) (by simp) ?_
    refine AllReadyH.cons rfl (fun K hK => ?_) AllReadyH.nil
    refine step_appBs5 rfl (.tmp 19) (.tmp 20) rfl w2.heap.size _ [] rfl o3 ⟨w.heap.size + 1, 0, none⟩ 16 16 r rfl (HB1.out _ k3) HR.out.symm (by rw [HR.out]; decide) k3.size ?_
    intro v4 w4 o4 k4
    have k24 : Below w2.heap.size w2 w4 := k3.trans k4
    refine hK.out _ _ trivial (fun _ => ?_)
    clear hK K
    refine wpAnyH_ready (rs := [4]) (by kernel_rfl) (by simp) ?_
    refine AllReadyH.cons rfl (fun K hK => ?_) AllReadyH.nil
    refine step_appBs5 rfl (.tmp 21) (.tmp 22) rfl w2.heap.size v4 r rfl o4 ⟨w.heap.size, 0, none⟩ 16 16 s rfl (HB0.out _ k24) HS.out.symm (by rw [HR.out, HS.out]; decide) k24.size ?_
    intro v5 w5 o5 k5
    have k25 : Below w2.heap.size w2 w5 := k24.trans k5
    refine hK.out _ _ trivial (fun _ => ?_)
    clear hK K
    refine wpAnyH_ready (rs := [5]) (by kernel_rfl) (by simp) ?_
    refine AllReadyH.cons rfl (fun K hK => ?_) AllReadyH.nil
    go_simp
    refine (HT1.out v5 w5 k25 (Own.isB (B := w2.heap.size) o5)).mono ?_
    rintro e w6 ⟨r6, rfl, o6, k6⟩
    refine hK.out _ _ trivial (fun _ => ?_)
    clear hK K
    have k26 : Below w2.heap.size w2 w6 := k25.trans (k6.mono k25.size)
    have O6 : Hid (IsB w6 r6 s) := o6.isB
    clear o3 o4 o5 o6 k3 k4 k5 k6 k24 k25 HT1
    refine wpAnyH_take_at (i := 6) (v := .tuple #[r6, .int .i64 0]) rfl rfl (by kernel_rfl) (by kernel_rfl) (by kernel_rfl) (fun _ _ _ h => h) (Or.inl ⟨by rfl, fun w _ => by go_simp⟩) trivial ?_
    simp only [List.setIfInBounds_toArray, List.set_cons_zero, List.set_cons_succ]
    refine wpAnyH_take_at (i := 7) (v := r6) rfl rfl (by kernel_rfl) (by kernel_rfl) (by kernel_rfl) (fun _ _ _ h => h) (Or.inl ⟨by rfl, fun w _ => by go_simp⟩) trivial ?_
    simp only [List.setIfInBounds_toArray, List.set_cons_zero, List.set_cons_succ]
    refine wpAnyH_take_at (i := 8) (v := .int .i64 0) rfl rfl (by kernel_rfl) (by kernel_rfl) (by kernel_rfl) (fun _ _ _ h => h) (Or.inl ⟨by rfl, fun w _ => by go_simp⟩) trivial ?_
    simp only [List.setIfInBounds_toArray, List.set_cons_zero, List.set_cons_succ]
    refine wpAnyH_take_at (i := 9) (v := r6) rfl rfl (by kernel_rfl) (by kernel_rfl) (by kernel_rfl) (fun _ _ _ h => h) (Or.inl ⟨by rfl, fun w _ => by go_simp⟩) trivial ?_
    simp only [List.setIfInBounds_toArray, List.set_cons_zero, List.set_cons_succ]
    refine wpAnyH_take_at (i := 10) (v := .int .i64 0) rfl rfl (by kernel_rfl) (by kernel_rfl) (by kernel_rfl) (fun _ _ _ h => h) (Or.inl ⟨by rfl, fun w _ => by go_simp⟩) trivial ?_
    simp only [List.setIfInBounds_toArray, List.set_cons_zero, List.set_cons_succ]
    refine wpAnyH_done (by kernel_rfl) ?_ _
    go_wp2_with (refine wpList_make_cap _ rfl _ _ rfl .i64 .i64 _ _ 16 16 rfl rfl rfl rfl (by omega) (by omega) ?_; intro w7 o7 k7)
    obtain ⟨gz, hgz⟩ : ∃ g, g = w6.heap.size := ⟨_, rfl⟩
    have O7 : Hid (w7.ownsRow w6.heap.size 5 1 (.slice (some ⟨gz, 0, none⟩) 16 16) 16 (Lib.byteCells (M.zR r 0 ++ List.replicate (16 - 0) 0))) := by rw [Hid, hgz]; exact o7
    have HGZ := Lib.hid hgz
    rw [← hgz]
    clear o7 hgz
    go_loopw [10] (fun iv wr => ∃ i : Nat, i ≤ 16 ∧ iv = .int .i64 i ∧ Hid (wr.ownsRow w6.heap.size 5 1 (.slice (some ⟨gz, 0, none⟩) 16 16) 16 (Lib.byteCells (M.zR r i ++ List.replicate (16 - i) 0))) ∧ Below w6.heap.size w6 wr)
      (fun iv _ => 16 - (intOf iv).toNat)
    case atStart => exact ⟨0, by omega, rfl, O7, k7⟩
    case round =>
      clear O7 k7
      obtain ⟨wz, rfl⟩ : ∃ x, x = wr := ⟨_, rfl⟩
      obtain ⟨i, hi, rfl, oo, kz⟩ := hrel
      have k2z : Below w2.heap.size w2 wz := k26.trans (kz.mono k26.size)
      by_cases hlt : i < 16
      · obtain ⟨x, hx⟩ : ∃ x, Hid (x = r.getD i 0) := ⟨_, rfl⟩
        have cx : wz.cell? ⟨w.heap.size + 1, i, none⟩ = some (.int .u8 (x.toNat : Int)) := by rw [hx.out]; exact HRC.out wz k2z i hlt
        obtain ⟨n, hn⟩ : ∃ n, 16 - i = n + 1 := ⟨15 - i, by omega⟩
        have hlen : (Lib.byteCells (M.zR r i ++ List.replicate (16 - i) 0)).length = 16 := by rw [byteCells_length, List.length_append, M.zR_length, List.length_replicate]; omega
        have cz : wz.cell? ⟨gz, i, none⟩ = some (.int .u8 0) := by
          rw [oo.out.cellAt i (by omega), byteCells_append, List.getElem?_append_right (by rw [byteCells_length, M.zR_length]; exact Nat.le_refl _), byteCells_length, M.zR_length, Nat.sub_self, hn, List.replicate_succ]
          rfl
        have fz : wz.frozen? ⟨gz, i, none⟩ = false := oo.out.frozenAt i
        obtain ⟨z, hz⟩ : ∃ z, Hid (z = M.zb r i) := ⟨_, rfl⟩
        have fin : ∀ W : World, W.ownsRow w6.heap.size 5 1 (.slice (some ⟨gz, 0, none⟩) 16 16) 16 ((Lib.byteCells (M.zR r i ++ List.replicate (16 - i) 0)).set i (.int .u8 (z.toNat : Int))) → Hid (W.ownsRow w6.heap.size 5 1 (.slice (some ⟨gz, 0, none⟩) 16 16) 16 (Lib.byteCells (M.zR r (i + 1) ++ List.replicate (16 - (i + 1)) 0))) := by
          intro W hW
          rw [bc_set, List.set_append_right _ _ (by rw [M.zR_length]; exact Nat.le_refl _), M.zR_length, Nat.sub_self, hn, List.replicate_succ, List.set_cons_zero] at hW
          rw [Hid, M.zR, ← hz.out, show 16 - (i + 1) = n by omega, List.append_assoc]
          exact hW
        have HF := Lib.hid fin
        have HST : Hid (∀ u, (wz.setCell ⟨gz, i, none⟩ u).ownsRow w6.heap.size 5 1 (.slice (some ⟨gz, 0, none⟩) 16 16) 16 ((Lib.byteCells (M.zR r i ++ List.replicate (16 - i) 0)).set i u)) := fun u => (oo.out.stored i u).1
        have hgz6 : Hid (w6.heap.size ≤ gz) := Nat.le_of_eq HGZ.out.symm
        obtain ⟨i4, hi4⟩ : ∃ j, j = i % 4 := ⟨_, rfl⟩
        have u1 : (i : Int) % 4 = (i4 : Int) := by omega
        have u2 : (i : Int).tmod 4 = (i4 : Int) := by rw [Int.tmod_eq_emod_of_nonneg (by omega)]; omega
        have HI4 := Lib.hid hi4
        have HZB : Hid (z = if i % 4 = 3 then M.up x else if 0 < i ∧ i % 4 = 0 then M.lo x else 0) := by rw [Hid, hz.out, M.zb, ← hx.out]
        clear fin hi4 hn
        by_cases h3 : i4 = 3
        · have h3i : (i4 : Int) = 3 := by omega
          have h0i : ¬ (i4 : Int) = 0 := by omega
          have hi0 : 0 < i := by have := HI4.out; omega
          have hi0i : (0 : Int) < i := by omega
          obtain ⟨q, hq⟩ : ∃ q, q = x.toNat / 16 := ⟨_, rfl⟩
          have hzx : z.toNat = q * 16 := by
            have e := HZB.out
            have := HI4.out
            rw [if_pos (by omega)] at e
            rw [e, M.up_nat, hq]
          have hxb := x.toNat_lt
          have hzb := z.toNat_lt
          have t1 : (x.toNat : Int) / 16 = (q : Int) := by omega
          have t2 : (x.toNat : Int).tdiv 16 = (q : Int) := by rw [Int.tdiv_eq_ediv_of_nonneg (by omega)]; omega
          have t3 : (q : Int) * 16 = (z.toNat : Int) := by omega
          have t3m : (z.toNat : Int) % 256 = (z.toNat : Int) := by omega
          have t3w : IntKind.u8.wrap (z.toNat : Int) = (z.toNat : Int) := t3m
          clear hq hzx hlen
          go_wp2
          go_roundw
          case rel => exact ⟨i + 1, by omega, by go_num, HF.out _ (HST.out _), below_set kz hgz6.out _⟩
          case measure => simp [intOf]; omega
        · have h3i : ¬ (i4 : Int) = 3 := by omega
          by_cases h0 : 0 < i ∧ i4 = 0
          · have h0i : (i4 : Int) = 0 := by omega
            have hi0 : 0 < i := h0.1
            have hi0i : (0 : Int) < i := by omega
            have hzx : z.toNat = x.toNat % 4 := by
              have e := HZB.out
              have := HI4.out
              rw [if_neg (by omega), if_pos (by omega)] at e
              rw [e, M.lo_nat]
            have t1 : (x.toNat : Int) % 4 = (z.toNat : Int) := by omega
            have t2 : (x.toNat : Int).tmod 4 = (z.toNat : Int) := by rw [Int.tmod_eq_emod_of_nonneg (by omega)]; omega
            clear hzx hlen h0
            go_wp2
            go_roundw
            case rel => exact ⟨i + 1, by omega, by go_num, HF.out _ (HST.out _), below_set kz hgz6.out _⟩
            case measure => simp [intOf]; omega
          · have hz0 : z = 0 := by
              have e := HZB.out
              have := HI4.out
              rw [if_neg (by omega), if_neg (by omega)] at e
              exact e
            have hsame : Hid (wz.ownsRow w6.heap.size 5 1 (.slice (some ⟨gz, 0, none⟩) 16 16) 16 (Lib.byteCells (M.zR r (i + 1) ++ List.replicate (16 - (i + 1)) 0))) := by
              refine HF.out _ ?_
              have e : (Lib.byteCells (M.zR r i ++ List.replicate (16 - i) 0)).set i (.int .u8 (z.toNat : Int)) = Lib.byteCells (M.zR r i ++ List.replicate (16 - i) 0) := by
                rw [hz0]
                have hc := cz
                rw [oo.out.cellAt i (by omega)] at hc
                have hi2 := (List.getElem?_eq_some_iff.1 hc)
                obtain ⟨h1, h2⟩ := hi2
                refine List.ext_getElem? fun j => ?_
                rw [List.getElem?_set]
                split
                · rename_i hij
                  subst hij
                  exact hc.symm
                · rfl
              rw [e]
              exact oo.out
            by_cases hi0 : 0 < i
            · have hi0i : (0 : Int) < i := by omega
              have h0i : ¬ (i4 : Int) = 0 := by omega
              clear hz0 hlen h0
              go_wp2
              go_roundw
              case rel => exact ⟨i + 1, by omega, by go_num, hsame, kz⟩
              case measure => simp [intOf]; omega
            · have hi0i : ¬ (0 : Int) < i := by omega
              clear hz0 hlen h0
              go_wp2
              all_goals try (exfalso; omega)
              go_roundw
              case rel => exact ⟨i + 1, by omega, by go_num, hsame, kz⟩
              case measure => simp [intOf]; omega
      · obtain rfl : i = 16 := by omega
        have OZ : Hid (Own wz w6.heap.size (.slice (some ⟨gz, 0, none⟩) 16 16) (M.zR r 16)) := by
          have h := oo.out
          rw [Nat.sub_self, List.replicate_zero, List.append_nil] at h
          rw [Hid, Own, M.zR_length]
          exact h
        have HT2 : Hid (∀ v W, Below w2.heap.size w2 W → IsB W v (M.zR r 16 ++ s) → Calls Try.prog 8 #[v, .slice a2 L c2] W fun e w' => ∃ r, e = .returned (.tuple #[r, .int .i64 0]) ∧ Own w' W.heap.size r s ∧ Below W.heap.size W w') := fun v W kW iW => by
          have h := tag_yes v (.slice a2 L c2) (M.zR r 16 ++ s) m W iW (HMM.out W kW) (by rw [List.length_append, M.zR_length, HS.out]) (by have := HL2.out; omega)
          rw [M.tag_rzero (M.zR r 16) s m (M.zR_length r 16) HS.out (M.zR_rzero r s HS.out)] at h
          exact h
        have iS := HB0.out wz k2z
        have HZL : Hid ((M.zR r 16).length + s.length ≤ 140737488355328) := by rw [Hid, M.zR_length, HS.out]; decide
        clear oo
        go_wp2_with (at_builtin; go_must (refine wpList_app _ rfl _ _ rfl w6.heap.size _ (M.zR r 16) rfl OZ.out _ s rfl iS (fun n c h => by cases h) HZL.out kz.size ?_))
        intro v8 w8 o8 k8 _
        have k28 : Below w2.heap.size w2 w8 := k26.trans ((kz.trans k8).mono k26.size)
        have I6 : Hid (IsB w8 r6 s) := O6.out.below (kz.trans k8)
        have I8 : Hid (IsB w8 v8 (M.zR r 16 ++ s)) := Own.isB (B := w6.heap.size) o8
        clear o8 k8 kz k2z iS
        go_wp2_with fail
        refine (HT2.out v8 w8 k28 I8.out).mono ?_
        rintro e w9 ⟨r9, rfl, o9, k9⟩
        have k29 : Below w2.heap.size w2 w9 := k28.trans (k9.mono k28.size)
        have HE1 := Lib.hid (requal_yes5 r6 (.slice (some ⟨w.heap.size, 0, none⟩) 16 16) s w9 (I6.out.below k9) (HB0.out w9 k29))
        have I9 : Hid (IsB w9 r9 s) := o9.isB
        clear o9 k9 HT2
        go_wp2_with fail
        refine HE1.out.mono ?_
        rintro e wa ⟨rfl, ka⟩
        have k2a : Below w2.heap.size w2 wa := k29.trans (ka.mono k29.size)
        have HE2 := Lib.hid (requal_yes5 r9 (.slice (some ⟨w.heap.size, 0, none⟩) 16 16) s wa (I9.out.below ka) (HB0.out wa k2a))
        clear HE1 ka
        go_wp2_with fail
        refine HE2.out.mono ?_
        rintro e wb ⟨rfl, kb⟩
        have kwb : Below w.heap.size w wb := kk2.trans ((k2a.trans (kb.mono k2a.size)).mono kk2.size)
        go_wp2
        go_ret
        exact ⟨rfl, kwb⟩

end Go.Proofs.Ytbjmkgbjpcepaaa
