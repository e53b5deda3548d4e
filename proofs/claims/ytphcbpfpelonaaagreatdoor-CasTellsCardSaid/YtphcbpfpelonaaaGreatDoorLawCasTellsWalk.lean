/-
  THE WALK OF orloplaw13.CasTells: true, whatever the files and the live digests. Conditions: the tables of package sha lie as laid.
-/
import Derived.Test.YtphcbpfpelonaaaGreatDoorPcD
namespace Go.Proofs.YtphcbpfpelonaaaGreatDoor
open Go.RowKit Go.Maps
set_option linter.unusedVariables false
set_option maxRecDepth 100000

theorem M.small_data13 {l : M.FL} (h : M.SmallF l) : ∀ c ∈ l, c.data.length ≤ 1099511627776 := by
  intro c hc
  obtain ⟨i, hi, rfl⟩ := List.mem_iff_getElem.1 hc
  have := (h.2.1 i hi).2
  rw [List.getD_eq_getElem?_getD, List.getElem?_eq_getElem hi] at this
  have h2 : l[i].data.length ≤ 10000 := this
  omega

theorem M.len_parts (p : List UInt8 → Bool) : ∀ l : List (List UInt8), (l.filter p).length + (l.filter fun d => !p d).length = l.length
  | [] => rfl
  | d :: r => by
    have h := M.len_parts p r
    by_cases hp : p d = true
    · rw [List.filter_cons_of_pos hp, List.filter_cons_of_neg (by simp [hp]), List.length_cons, List.length_cons]
      omega
    · rw [List.filter_cons_of_neg hp, List.filter_cons_of_pos (by simp [hp]), List.length_cons, List.length_cons]
      omega

theorem requal_same2 (v1 v2 : Value) (xs ys : List UInt8) (he : xs = ys) (w : World) (h1 : IsB w v1 xs) (h2 : IsB w v2 ys) :
    Calls Tryz.prog 14 #[v1, v2] w fun e w' => e = .returned (.bool true) ∧ Below w.heap.size w w' := by
  subst he
  have h := requal_b v1 v2 xs xs w h1 h2
  rwa [show decide (xs = xs) = true from decide_eq_true rfl] at h

section
variable {w0 w w' : World} {g gf gc N B : Nat} {F : M.Fs} {Q : Nat → Prop} {c : M.Cr} {cv : Value}

/-- Blocks from B on, and new ones. -/
theorem CasSt.up (s : CasSt w0 w g gf gc N F c cv (fun b => Q b ∨ (B ≤ b ∧ b < w.heap.size))) (hB : B ≤ w.heap.size) (k : Below w.heap.size w w') : CasSt w0 w' g gf gc N F c cv (fun b => Q b ∨ (B ≤ b ∧ b < w'.heap.size)) :=
  (s.below k).less fun b hb => by
    rcases hb with hb | hb
    · exact .inl (.inl hb)
    · by_cases h : b < w.heap.size
      · exact .inl (.inr ⟨hb.1, h⟩)
      · exact .inr ⟨by omega, hb.2⟩

theorem CasSt.up2 (hB : B ≤ w.heap.size) (s : CasSt w0 w' g gf gc N F c cv (fun b => (Q b ∨ (B ≤ b ∧ b < w.heap.size)) ∨ (w.heap.size ≤ b ∧ b < w'.heap.size))) : CasSt w0 w' g gf gc N F c cv (fun b => Q b ∨ (B ≤ b ∧ b < w'.heap.size)) :=
  s.less fun b hb => by
    rcases hb with hb | hb
    · exact .inl (.inl hb)
    · by_cases h : b < w.heap.size
      · exact .inl (.inr ⟨hb.1, h⟩)
      · exact .inr ⟨by omega, hb.2⟩

theorem InLL.below {S : Nat → Prop} {v : Value} {L : List (List UInt8)} {rows : List Value} (h : InLL S w v L rows) (k : Below w.heap.size w w') : InLL S w' v L rows :=
  h.chg (Chg.of_below (F := fun _ => False) k) fun _ _ h => h
end

theorem M.blob_some {F : M.Fs} {d : List UInt8} (h : d ∈ M.marked 98 F) : d.length = 32 ∧ ∃ x, M.blob F d = some x ∧ M.dat F (98 :: d) = x := by
  obtain ⟨h1, h2⟩ := (M.mem_marked 98 F d).1 h
  cases hl : M.look F (98 :: d) with
  | none => rw [hl] at h2; cases h2
  | some x => exact ⟨h1, x, by rw [M.blob, if_pos h1, hl], by rw [M.dat, hl]; rfl⟩

theorem M.getD_memL {ds : List (List UInt8)} {j : Nat} (h : j < ds.length) : ds.getD j [] ∈ ds := by
  rw [List.getD_eq_getElem?_getD, List.getElem?_eq_getElem h]
  exact List.getElem_mem _

set_option maxHeartbeats 32000000 in
theorem casTells_walk (w : World) (hL : Laid w) (fv : Value) (l : M.FL) (xs : List Value) (hf : IsFL w fv l xs) (vv : Value) (live : List (List UInt8)) (ys : List Value) (hv : IsLL w vv live ys) :
    Calls Tryz.prog 3 #[fv, vv] w fun e w' => e = .returned (.bool true) ∧ Below w.heap.size w w' := by
  have HL := Lib.hid hL
  have CA := Lib.hid (awake13_any w hL)
  obtain ⟨fo, fc, hfs⟩ : ∃ a c, fv = .slice a l.length c := by obtain ⟨a, c, e, _⟩ := hf; exact ⟨a, c, e⟩
  subst hfs
  obtain ⟨vo, vc, rfl⟩ := hv.shape
  obtain ⟨fn, hfn⟩ : ∃ n, n = l.length := ⟨_, rfl⟩
  obtain ⟨vn, hvn⟩ : ∃ n, n = live.length := ⟨_, rfl⟩
  rw [← hfn] at hf ⊢
  rw [← hvn] at hv ⊢
  have HF := Lib.hid hf
  have HV := Lib.hid hv
  have HVN : Hid (live.length = vn) := hvn.symm
  clear hL hf hv hfn hvn
  go_enter Tryz.func3, Tryz.ntmps3
  go_wp2_with fail
  refine CA.out.mono ?_
  rintro e w1 ⟨rfl, k1⟩
  have K1 := Lib.hid k1
  have CS := Lib.hid (rsmall_any (HF.out.below k1))
  clear CA k1
  go_wp2_with fail
  refine CS.out.mono ?_
  rintro e w1' ⟨rfl, rfl⟩
  clear CS
  obtain ⟨sm, hsm⟩ : ∃ b, b = decide (M.SmallF l) := ⟨_, rfl⟩
  rw [← hsm]
  cases sm with
  | false =>
    clear hsm
    go_wp2
    go_ret
    exact ⟨rfl, K1.out⟩
  | true =>
  have HSM : Hid (M.SmallF l) := by rw [Hid]; simpa using hsm.symm
  clear hsm
  by_cases hbig : 100 < vn
  · have b1 : (100 : Int) < (vn : Int) := by omega
    clear hbig
    go_wp2
    go_ret
    exact ⟨rfl, K1.out⟩
  have HVL : Hid (vn ≤ 100) := by rw [Hid]; omega
  have b1 : ¬ (100 : Int) < (vn : Int) := by omega
  have CN := Lib.hid (dst_new (w0 := w) (R := fun _ => False) 274 (by decide) K1.out (fun k h => h.elim))
  clear hbig
  go_wp2_with fail
  refine CN.out.mono ?_
  rintro e w2 ⟨g, rfl, d2, k2⟩
  have CO := Lib.hid (fine_new13 (n := 274) d2 HL.out (by decide) (by decide))
  clear CN d2 k2 b1
  go_wp2_with fail
  refine CO.out.mono ?_
  rintro e w3 ⟨-, gf, rfl, f3⟩
  obtain ⟨R3, F3⟩ : ∃ R, Hid (Fine w w3 g gf 200 [] R) := ⟨_, f3⟩
  obtain ⟨r, hr⟩ : ∃ r, r = M.fcode ((200 : Nat) : Int) [] l := ⟨_, rfl⟩
  obtain ⟨F, hF⟩ : ∃ F, F = if r = 0 then M.fapply [] l else [] := ⟨_, rfl⟩
  have CC := Lib.hid (F3.out.commit HL.out (.slice fo fn fc) l xs (fun x c => HF.out.below (F3.out.under.trans (Chg.below c F3.out.under.size fun _ h => h.2))) (by have := HSM.out.1; omega) (M.small_data13 HSM.out) r hr F hF)
  clear CO f3 hr hF
  go_wp2_with fail
  refine CC.out.mono ?_
  rintro e w4 ⟨rfl, -, f4⟩
  have F4 := Lib.hid f4
  have CR := Lib.hid (real_any w4)
  clear CC f4 F3
  go_wp2_with fail
  refine CR.out.mono ?_
  rintro e w4' ⟨rfl, rfl⟩
  have CW := Lib.hid (casNew_any (T := fun _ => False) (c := .real) F4.out rfl (fun _ h => h.elim) (.inr rfl))
  clear CR F4
  go_wp2_with fail
  refine CW.out.mono ?_
  rintro e w5 ⟨gc, rfl, s5, -⟩
  obtain ⟨CV, hCV⟩ : ∃ c : Value, Hid (c = Value.iface 74 (.agg #[])) := ⟨_, rfl⟩
  have S5 : Hid (CasSt w w5 g gf gc 200 F .real CV (fun b => False ∨ (w5.heap.size ≤ b ∧ b < w5.heap.size))) := by
    rw [Hid, hCV.out]
    exact s5.less fun k hk => by rcases hk with hk | hk; exact hk.elim; omega
  have CL := Lib.hid S5.out.list
  clear CW s5 HF HSM
  go_wp2_with fail
  refine CL.out.mono ?_
  rintro e w6 ⟨av, arows, rfl, oa, k6⟩
  obtain ⟨all, hall⟩ : ∃ a, a = M.marked 98 F := ⟨_, rfl⟩
  rw [← hall] at oa
  obtain ⟨aa, ac, hav⟩ := ownShape oa.row
  subst hav
  obtain ⟨n, hn⟩ : ∃ n, n = all.length := ⟨_, rfl⟩
  have HN : Hid (all.length = n) := hn.symm
  have S6 := Lib.hid (S5.out.up (Nat.le_refl _) k6)
  have H64 : Hid (n ≤ 64) := by rw [Hid, hn, hall]; exact Nat.le_trans (M.marked_le 98 F) S6.out.few
  have HALL := Lib.hid hall
  rw [← hn] at oa ⊢
  have A6 := Lib.hid oa.inLL
  have HZ6 := Lib.hid k6.size
  clear CL oa k6 hall hn S5
  have hm1 := sum_real
  go_wp2
  go_loopw [9, 10] (fun v i wr => ∃ (j : Nat) (rows2 : List Value), i = .int .i64 (j : Int) ∧ Hid (j ≤ n) ∧ Hid (Chg (fun k => w.heap.size ≤ k ∧ k < w5.heap.size) w6 wr) ∧ Hid (CasSt w wr g gf gc 200 F .real CV (fun b => False ∨ (w5.heap.size ≤ b ∧ b < wr.heap.size))) ∧ Hid (OwnRS (fun b => w5.heap.size ≤ b ∧ b < w6.heap.size) wr w6.heap.size v ((all.take j).filter (M.spB F)) rows2))
    (fun v i _ => n - numOf i)
  case atStart => exact ⟨0, [], rfl, Nat.zero_le _, Chg.refl _ _, S6.out, by rw [List.take_zero]; exact OwnRS.nil _ _ _⟩
  case round =>
    obtain ⟨wz, rfl⟩ : ∃ x, x = wr := ⟨_, rfl⟩
    obtain ⟨v9, rfl⟩ : ∃ x, x = u9 := ⟨_, rfl⟩
    obtain ⟨j, rows2, rfl, hj, ch, sz, oo⟩ := hrel
    clear S6
    by_cases hlt : j < n
    · have b1 : (j : Int) < (n : Int) := by omega
      have hjl : j < all.length := by rw [HN.out]; exact hlt
      have az := A6.out.chg ch.out fun k hk h => by omega
      obtain ⟨lb, lo, rfl, c0, id, d0⟩ := az.1.at_ j hjl
      have hlb : w5.heap.size ≤ lb ∧ lb < w6.heap.size := az.2.1 _ _ _ rfl
      have ld := az.2.2 j hjl
      obtain ⟨d, hd⟩ : ∃ d, d = all.getD j [] := ⟨_, rfl⟩
      have hdm : d ∈ M.marked 98 F := by rw [← HALL.out, hd]; exact M.getD_memL hjl
      have HIN := Lib.hid (M.filter_next (M.spB F) all j hjl)
      rw [← hd] at id HIN
      obtain ⟨h32, x, hblob, hdat⟩ := M.blob_some hdm
      obtain ⟨ra, rc, hrv⟩ := id.shape
      rw [hrv, h32] at c0 id ld d0
      have hzc := ch.out.size
      have hz6 := HZ6.out
      have CG := Lib.hid (sz.out.get_yes HL.out trivial (.slice ra 32 rc) d x id (ld.mono fun k hk => .inl (.inr ⟨hk.1, by omega⟩)) hblob)
      have HXL : Hid (x.length ≤ 1099511627776) := by
        rw [M.blob, if_pos h32] at hblob
        exact sz.out.size hblob
      have HSP : Hid (M.spB F d = !decide (M.csum .real x = d)) := by rw [Hid, M.spB, hdat]; rfl
      have ID := Lib.hid id
      have LD := Lib.hid ld
      have D0 := Lib.hid d0
      have C0 := Lib.hid c0
      have HLT := Lib.hid hlt
      have HLB := Lib.hid hlb
      have HZC := Lib.hid hzc
      have g2 : (0 : Int) ≤ (j : Int) := Int.natCast_nonneg j
      have g3 : ((j : Int)).toNat = j := Int.toNat_natCast j
      have G1 : Hid (wrap64 ((j : Int) + 1) = ((j + 1 : Nat) : Int)) := wrap_next (by have := H64.out; omega)
      clear hjl az hd hdm h32 hblob hdat hrv id ld d0 hlt hlb hzc hz6
      go_wp2_with fail
      refine CG.out.mono ?_
      rintro e wg ⟨rv, rfl, hrg, sg, far⟩
      have hz5 := HZ6.out
      have hzc := HZC.out
      have hlb := HLB.out
      have hzg := far.size
      have SG := Lib.hid (CasSt.up2 (by omega) sg)
      have CHG : Hid (Chg (fun k => w.heap.size ≤ k ∧ k < w5.heap.size) w6 wg) := ch.out.trans far fun k hk h => ⟨h.2, by
        by_cases h1 : k < w5.heap.size
        · exact h1
        · exact absurd (.inr ⟨by omega, by omega⟩) h.1⟩
      have OOG : Hid (OwnRS (fun b => w5.heap.size ≤ b ∧ b < w6.heap.size) wg w6.heap.size v9 ((all.take j).filter (M.spB F)) rows2) := oo.out.chg far (fun k h1 h2 h => h.1 (.inr ⟨by omega, h2⟩)) fun k hk h => h.1 (.inr ⟨hk.1, by omega⟩)
      have IDG : Hid (IsB wg (.slice ra 32 rc) d) := ID.out.chg far (LD.out.mono fun k hk h => h.1 (.inr ⟨hk.1, by omega⟩))
      have cg : wg.cell? ⟨lb, lo + j, none⟩ = some (.slice ra 32 rc) := by
        rw [World.cell?_of_block (far.block lb (World.block_lt_of_cell? wz _ C0.out) fun h => h.1 (.inr ⟨hlb.1, by omega⟩)), C0.out]
      have HC : Hid (∀ y, Below wg.heap.size wg y → y.cell? ⟨lb, lo + j, none⟩ = some (.slice ra 32 rc)) := fun y k => (k.cell (p := ⟨lb, lo + j, none⟩) (World.block_lt_of_cell? wg _ cg)).trans cg
      have HZG : Hid (w5.heap.size ≤ w6.heap.size ∧ w6.heap.size ≤ wg.heap.size) := ⟨hz5, by omega⟩
      have U := Lib.hid SG.out.under
      clear CG sg far ch sz oo ID c0 C0 cg hz5 hzc hlb hzg HZC
      by_cases hg : M.csum .real x = d
      · rw [if_pos hg, if_pos hg]
        obtain ⟨ir, -, -⟩ := hrg hg
        obtain ⟨xa, xc, rfl⟩ := ir.shape
        have hno : (all.take (j + 1)).filter (M.spB F) = (all.take j).filter (M.spB F) := by rw [HIN.out, if_neg (by rw [HSP.out, decide_eq_true hg]; decide), List.append_nil]
        have HNO := Lib.hid hno
        have IR := Lib.hid ir
        have HG := Lib.hid hg
        obtain ⟨xn, hxn⟩ : ∃ q, q = x.length := ⟨_, rfl⟩
        rw [← hxn] at IR ⊢
        have CSM := Lib.hid fun (y : World) (k : Below wg.heap.size wg y) => realSum_any (.slice xa xn xc) x y (HL.out.below (U.out.trans (k.mono U.out.size)) (Nat.le_trans HL.out.size (Nat.le_refl _))) (IR.out.below k) (by have := HXL.out; omega)
        clear hrg hg ir hno hxn
        go_upto_region 17 with fail
        refine wp_region_any (by kernel_rfl) ?_
        change wpAny _ _ _ _ _ _ _ (World.drew _)
        refine wpAny_of_held (S := fun w' => Below wg.heap.size wg w') _ _ _ _ ?_
        have S0 : Below wg.heap.size wg wg.drew := (Below.refl _ _).drew
        refine wpAnyH_take_at (i := 0) (v := .int .i64 0) rfl rfl (by kernel_rfl) (by kernel_rfl) (by kernel_rfl) (fun _ _ _ h => h) (Or.inl ⟨by rfl, fun w hS => by go_simp⟩) S0 ?_
        try simp only [List.setIfInBounds_toArray, List.set_cons_zero, List.set_cons_succ]
        refine wpAnyH_take_at (i := 1) (v := .bool true) rfl rfl (by kernel_rfl) (by kernel_rfl) (by kernel_rfl) (fun _ _ _ h => h) (Or.inl ⟨by rfl, fun w hS => by go_simp⟩) S0 ?_
        try simp only [List.setIfInBounds_toArray, List.set_cons_zero, List.set_cons_succ]
        refine wpAnyH_take_at (i := 2) (v := .bool true) rfl rfl (by kernel_rfl) (by kernel_rfl) (by kernel_rfl) (fun _ _ _ h => h) (Or.inl ⟨by rfl, fun w hS => by go_simp⟩) S0 ?_
        try simp only [List.setIfInBounds_toArray, List.set_cons_zero, List.set_cons_succ]
        refine wpAnyH_take_at (i := 3) (v := .iface 74 (.agg #[])) rfl rfl (by kernel_rfl) (by kernel_rfl) (by kernel_rfl) (fun _ _ _ h => h) (Or.inl ⟨by rfl, fun w hS => by go_simp⟩) S0 ?_
        try simp only [List.setIfInBounds_toArray, List.set_cons_zero, List.set_cons_succ]
        refine wpAnyH_take_at (i := 4) (v := .slice xa xn xc) rfl rfl (by kernel_rfl) (by kernel_rfl) (by kernel_rfl) (fun _ _ _ h => h) (Or.inl ⟨by rfl, fun w hS => by go_simp⟩) S0 ?_
        try simp only [List.setIfInBounds_toArray, List.set_cons_zero, List.set_cons_succ]
        refine wpAnyH_take_at (i := 6) (v := .slice (some ⟨lb, lo, none⟩) n ac) rfl rfl (by kernel_rfl) (by kernel_rfl) (by kernel_rfl) (fun _ _ _ h => h) (Or.inl ⟨by rfl, fun w hS => by go_simp⟩) S0 ?_
        try simp only [List.setIfInBounds_toArray, List.set_cons_zero, List.set_cons_succ]
        refine wpAnyH_take_at (i := 7) (v := .int .i64 (j : Int)) rfl rfl (by kernel_rfl) (by kernel_rfl) (by kernel_rfl) (fun _ _ _ h => h) (Or.inl ⟨by rfl, fun w hS => by go_simp⟩) S0 ?_
        try simp only [List.setIfInBounds_toArray, List.set_cons_zero, List.set_cons_succ]
        refine wpAnyH_take_at (i := 8) (v := .pointer (some ⟨lb, lo + j, none⟩)) rfl rfl (by kernel_rfl) (by kernel_rfl) (by kernel_rfl) (fun _ _ _ h => h) (Or.inl ⟨by rfl, fun w hS => by go_simp⟩) S0 ?_
        try simp only [List.setIfInBounds_toArray, List.set_cons_zero, List.set_cons_succ]
        refine wpAnyH_take_at (i := 9) (v := .slice ra 32 rc) rfl rfl (by kernel_rfl) (by kernel_rfl) (by kernel_rfl) (fun _ _ _ h => h) (Or.inl ⟨by rfl, fun w hS => by have c := HC.out w hS; go_simp⟩) S0 ?_
        try simp only [List.setIfInBounds_toArray, List.set_cons_zero, List.set_cons_succ]
        refine wpAnyH_ready (rs := [5]) (by kernel_rfl) (by simp) ?_
        refine AllReadyH.cons rfl (fun K hK => ?_) AllReadyH.nil
        go_simp
        refine (CSM.out _ S0).mono ?_
        rintro e w2 ⟨sv, rfl, o2, k2⟩
        have K2 : Below wg.heap.size wg w2 := S0.trans (k2.mono S0.size)
        refine hK.out _ _ K2 (fun _ => ?_)
        clear hK
        refine wpAnyH_ready (rs := [10]) (by kernel_rfl) (by simp) ?_
        refine AllReadyH.cons rfl (fun K hK => ?_) AllReadyH.nil
        go_simp
        refine (requal_same2 sv (.slice ra 32 rc) (M.sha x) d HG.out w2 o2.isB (IDG.out.below K2)).mono ?_
        rintro e w3 ⟨rfl, k3⟩
        have K3 : Below wg.heap.size wg w3 := K2.trans (k3.mono K2.size)
        refine hK.out _ _ K3 (fun _ => ?_)
        clear hK
        refine wpAnyH_take_at (i := 11) (v := .bool false) rfl rfl (by kernel_rfl) (by kernel_rfl) (by kernel_rfl) (fun _ _ _ h => h) (Or.inl ⟨by rfl, fun w hS => by go_simp⟩) K3 ?_
        try simp only [List.setIfInBounds_toArray, List.set_cons_zero, List.set_cons_succ]
        refine wpAnyH_take_at (i := 12) (v := .bool false) rfl rfl (by kernel_rfl) (by kernel_rfl) (by kernel_rfl) (fun _ _ _ h => h) (Or.inl ⟨by rfl, fun w hS => by go_simp⟩) K3 ?_
        try simp only [List.setIfInBounds_toArray, List.set_cons_zero, List.set_cons_succ]
        refine wpAnyH_take_at (i := 13) (v := .bool false) rfl rfl (by kernel_rfl) (by kernel_rfl) (by kernel_rfl) (fun _ _ _ h => h) (Or.inl ⟨by rfl, fun w hS => by go_simp⟩) K3 ?_
        try simp only [List.setIfInBounds_toArray, List.set_cons_zero, List.set_cons_succ]
        refine wpAnyH_take_at (i := 14) (v := .int .i64 0) rfl rfl (by kernel_rfl) (by kernel_rfl) (by kernel_rfl) (fun _ _ _ h => h) (Or.inl ⟨by rfl, fun w hS => by go_simp⟩) K3 ?_
        try simp only [List.setIfInBounds_toArray, List.set_cons_zero, List.set_cons_succ]
        refine wpAnyH_take_at (i := 15) (v := .bool false) rfl rfl (by kernel_rfl) (by kernel_rfl) (by kernel_rfl) (fun _ _ _ h => h) (Or.inl ⟨by rfl, fun w hS => by go_simp⟩) K3 ?_
        try simp only [List.setIfInBounds_toArray, List.set_cons_zero, List.set_cons_succ]
        refine wpAnyH_take_at (i := 16) (v := .bool false) rfl rfl (by kernel_rfl) (by kernel_rfl) (by kernel_rfl) (fun _ _ _ h => h) (Or.inl ⟨by rfl, fun w hS => by go_simp⟩) K3 ?_
        try simp only [List.setIfInBounds_toArray, List.set_cons_zero, List.set_cons_succ]
        refine wpAnyH_take_at (i := 17) (v := undef) rfl rfl (by kernel_rfl) (by kernel_rfl) (by kernel_rfl) (fun _ _ _ h => h) (Or.inr ⟨by rfl, rfl⟩) K3 ?_
        try simp only [List.setIfInBounds_toArray, List.set_cons_zero, List.set_cons_succ]
        refine wpAnyH_take_at (i := 18) (v := undef) rfl rfl (by kernel_rfl) (by kernel_rfl) (by kernel_rfl) (fun _ _ _ h => h) (Or.inr ⟨by rfl, rfl⟩) K3 ?_
        try simp only [List.setIfInBounds_toArray, List.set_cons_zero, List.set_cons_succ]
        refine wpAnyH_take_at (i := 19) (v := .bool false) rfl rfl (by kernel_rfl) (by kernel_rfl) (by kernel_rfl) (fun _ _ _ h => h) (Or.inl ⟨by rfl, fun w hS => by go_simp⟩) K3 ?_
        try simp only [List.setIfInBounds_toArray, List.set_cons_zero, List.set_cons_succ]
        refine wpAnyH_take_at (i := 20) (v := .bool false) rfl rfl (by kernel_rfl) (by kernel_rfl) (by kernel_rfl) (fun _ _ _ h => h) (Or.inl ⟨by rfl, fun w hS => by go_simp⟩) K3 ?_
        try simp only [List.setIfInBounds_toArray, List.set_cons_zero, List.set_cons_succ]
        refine wpAnyH_done (by kernel_rfl) ?_ _
        have KK := Lib.hid K3
        clear S0 k2 K2 o2 k3 K3
        go_wp2
        go_roundw
        case rel => exact ⟨j + 1, rows2, by first | rfl | rw [G1.out], HLT.out, (CHG.out.trans (Chg.of_below (F := fun _ => False) KK.out) fun _ _ h => h.elim), SG.out.up (by have := HZG.out; omega) KK.out, by rw [HNO.out]; exact OOG.out.below KK.out⟩
        case measure =>
          have := HLT.out
          try rw [G1.out]
          show n - (((j + 1 : Nat) : Int)).toNat < n - ((j : Int)).toNat
          omega
      · rw [if_neg hg, if_neg hg]
        have hyes : (all.take (j + 1)).filter (M.spB F) = (all.take j).filter (M.spB F) ++ [d] := by rw [HIN.out, if_pos (by rw [HSP.out, decide_eq_false hg]; rfl)]
        have HYES := Lib.hid hyes
        have HFLL : Hid (((all.take j).filter (M.spB F)).length ≤ 64) := by
          have h1 := List.length_filter_le (M.spB F) (all.take j)
          rw [List.length_take] at h1
          have := H64.out
          have := HLT.out
          rw [Hid]
          omega
        clear hrg hg hyes
        go_upto_region 17 with fail
        refine wp_region_any (by kernel_rfl) ?_
        change wpAny _ _ _ _ _ _ _ (World.drew _)
        refine wpAny_of_held (S := fun w' => Below wg.heap.size wg w') _ _ _ _ ?_
        have S0 : Below wg.heap.size wg wg.drew := (Below.refl _ _).drew
        refine wpAnyH_take_at (i := 0) (v := .int .i64 6) rfl rfl (by kernel_rfl) (by kernel_rfl) (by kernel_rfl) (fun _ _ _ h => h) (Or.inl ⟨by rfl, fun w hS => by go_simp⟩) S0 ?_
        try simp only [List.setIfInBounds_toArray, List.set_cons_zero, List.set_cons_succ]
        refine wpAnyH_take_at (i := 1) (v := .bool false) rfl rfl (by kernel_rfl) (by kernel_rfl) (by kernel_rfl) (fun _ _ _ h => h) (Or.inl ⟨by rfl, fun w hS => by go_simp⟩) S0 ?_
        try simp only [List.setIfInBounds_toArray, List.set_cons_zero, List.set_cons_succ]
        refine wpAnyH_take_at (i := 2) (v := .bool false) rfl rfl (by kernel_rfl) (by kernel_rfl) (by kernel_rfl) (fun _ _ _ h => h) (Or.inl ⟨by rfl, fun w hS => by go_simp⟩) S0 ?_
        try simp only [List.setIfInBounds_toArray, List.set_cons_zero, List.set_cons_succ]
        refine wpAnyH_take_at (i := 3) (v := undef) rfl rfl (by kernel_rfl) (by kernel_rfl) (by kernel_rfl) (fun _ _ _ h => h) (Or.inr ⟨by rfl, rfl⟩) S0 ?_
        try simp only [List.setIfInBounds_toArray, List.set_cons_zero, List.set_cons_succ]
        refine wpAnyH_take_at (i := 4) (v := undef) rfl rfl (by kernel_rfl) (by kernel_rfl) (by kernel_rfl) (fun _ _ _ h => h) (Or.inr ⟨by rfl, rfl⟩) S0 ?_
        try simp only [List.setIfInBounds_toArray, List.set_cons_zero, List.set_cons_succ]
        refine wpAnyH_take_at (i := 5) (v := undef) rfl rfl (by kernel_rfl) (by kernel_rfl) (by kernel_rfl) (fun _ _ _ h => h) (Or.inr ⟨by rfl, rfl⟩) S0 ?_
        try simp only [List.setIfInBounds_toArray, List.set_cons_zero, List.set_cons_succ]
        refine wpAnyH_take_at (i := 6) (v := undef) rfl rfl (by kernel_rfl) (by kernel_rfl) (by kernel_rfl) (fun _ _ _ h => h) (Or.inr ⟨by rfl, rfl⟩) S0 ?_
        try simp only [List.setIfInBounds_toArray, List.set_cons_zero, List.set_cons_succ]
        refine wpAnyH_take_at (i := 7) (v := undef) rfl rfl (by kernel_rfl) (by kernel_rfl) (by kernel_rfl) (fun _ _ _ h => h) (Or.inr ⟨by rfl, rfl⟩) S0 ?_
        try simp only [List.setIfInBounds_toArray, List.set_cons_zero, List.set_cons_succ]
        refine wpAnyH_take_at (i := 8) (v := undef) rfl rfl (by kernel_rfl) (by kernel_rfl) (by kernel_rfl) (fun _ _ _ h => h) (Or.inr ⟨by rfl, rfl⟩) S0 ?_
        try simp only [List.setIfInBounds_toArray, List.set_cons_zero, List.set_cons_succ]
        refine wpAnyH_take_at (i := 9) (v := undef) rfl rfl (by kernel_rfl) (by kernel_rfl) (by kernel_rfl) (fun _ _ _ h => h) (Or.inr ⟨by rfl, rfl⟩) S0 ?_
        try simp only [List.setIfInBounds_toArray, List.set_cons_zero, List.set_cons_succ]
        refine wpAnyH_take_at (i := 10) (v := undef) rfl rfl (by kernel_rfl) (by kernel_rfl) (by kernel_rfl) (fun _ _ _ h => h) (Or.inr ⟨by rfl, rfl⟩) S0 ?_
        try simp only [List.setIfInBounds_toArray, List.set_cons_zero, List.set_cons_succ]
        refine wpAnyH_take_at (i := 11) (v := undef) rfl rfl (by kernel_rfl) (by kernel_rfl) (by kernel_rfl) (fun _ _ _ h => h) (Or.inr ⟨by rfl, rfl⟩) S0 ?_
        try simp only [List.setIfInBounds_toArray, List.set_cons_zero, List.set_cons_succ]
        refine wpAnyH_take_at (i := 12) (v := .bool false) rfl rfl (by kernel_rfl) (by kernel_rfl) (by kernel_rfl) (fun _ _ _ h => h) (Or.inl ⟨by rfl, fun w hS => by go_simp⟩) S0 ?_
        try simp only [List.setIfInBounds_toArray, List.set_cons_zero, List.set_cons_succ]
        refine wpAnyH_take_at (i := 13) (v := .bool false) rfl rfl (by kernel_rfl) (by kernel_rfl) (by kernel_rfl) (fun _ _ _ h => h) (Or.inl ⟨by rfl, fun w hS => by go_simp⟩) S0 ?_
        try simp only [List.setIfInBounds_toArray, List.set_cons_zero, List.set_cons_succ]
        refine wpAnyH_take_at (i := 14) (v := .int .i64 6) rfl rfl (by kernel_rfl) (by kernel_rfl) (by kernel_rfl) (fun _ _ _ h => h) (Or.inl ⟨by rfl, fun w hS => by go_simp⟩) S0 ?_
        try simp only [List.setIfInBounds_toArray, List.set_cons_zero, List.set_cons_succ]
        refine wpAnyH_take_at (i := 15) (v := .bool true) rfl rfl (by kernel_rfl) (by kernel_rfl) (by kernel_rfl) (fun _ _ _ h => h) (Or.inl ⟨by rfl, fun w hS => by go_simp⟩) S0 ?_
        try simp only [List.setIfInBounds_toArray, List.set_cons_zero, List.set_cons_succ]
        refine wpAnyH_take_at (i := 16) (v := .bool true) rfl rfl (by kernel_rfl) (by kernel_rfl) (by kernel_rfl) (fun _ _ _ h => h) (Or.inl ⟨by rfl, fun w hS => by go_simp⟩) S0 ?_
        try simp only [List.setIfInBounds_toArray, List.set_cons_zero, List.set_cons_succ]
        refine wpAnyH_take_at (i := 17) (v := .int .i64 6) rfl rfl (by kernel_rfl) (by kernel_rfl) (by kernel_rfl) (fun _ _ _ h => h) (Or.inl ⟨by rfl, fun w hS => by go_simp⟩) S0 ?_
        try simp only [List.setIfInBounds_toArray, List.set_cons_zero, List.set_cons_succ]
        refine wpAnyH_take_at (i := 18) (v := .bool false) rfl rfl (by kernel_rfl) (by kernel_rfl) (by kernel_rfl) (fun _ _ _ h => h) (Or.inl ⟨by rfl, fun w hS => by go_simp⟩) S0 ?_
        try simp only [List.setIfInBounds_toArray, List.set_cons_zero, List.set_cons_succ]
        refine wpAnyH_take_at (i := 19) (v := .bool false) rfl rfl (by kernel_rfl) (by kernel_rfl) (by kernel_rfl) (fun _ _ _ h => h) (Or.inl ⟨by rfl, fun w hS => by go_simp⟩) S0 ?_
        try simp only [List.setIfInBounds_toArray, List.set_cons_zero, List.set_cons_succ]
        refine wpAnyH_take_at (i := 20) (v := .bool false) rfl rfl (by kernel_rfl) (by kernel_rfl) (by kernel_rfl) (fun _ _ _ h => h) (Or.inl ⟨by rfl, fun w hS => by go_simp⟩) S0 ?_
        try simp only [List.setIfInBounds_toArray, List.set_cons_zero, List.set_cons_succ]
        refine wpAnyH_done (by kernel_rfl) ?_ _
        generalize wg.drew = wd at S0 ⊢
        have c1 := HC.out _ S0
        obtain ⟨W7, hW7⟩ : ∃ x, Hid (x = wd.alloc (.cells #[.slice ra 32 rc] 38)) := ⟨_, rfl⟩
        obtain ⟨p7, hp7⟩ : ∃ x, Hid (x = wd.heap.size) := ⟨_, rfl⟩
        have k7 : Below wd.heap.size wd W7 := by rw [hW7.out]; exact (Below.refl _ _).alloc (Nat.le_refl _) _
        have K7 : Below wg.heap.size wg W7 := S0.trans (k7.mono S0.size)
        have B7 : Hid (Blk W7 p7 38 [.slice ra 32 rc]) := by rw [hW7.out]; exact Blk.newAt _ _ _ _ _ hp7.out rfl
        have OO7 := Lib.hid (OOG.out.below K7)
        have ID7 := Lib.hid (IDG.out.below K7)
        have S7 := Lib.hid (SG.out.up (by have := HZG.out; omega) K7)
        have C7 : Hid (Chg (fun k => w.heap.size ≤ k ∧ k < w5.heap.size) w6 W7) := CHG.out.trans (Chg.of_below (F := fun _ => False) K7) fun _ _ h => h.elim
        have HZ7 : Hid (w5.heap.size ≤ w6.heap.size ∧ w6.heap.size ≤ W7.heap.size) := ⟨HZG.out.1, by have := HZG.out; have := K7.size; omega⟩
        have HC1 : Hid (∀ u ∈ [Value.slice ra 32 rc], u.oneCell' = true) := by intro u hu; simp only [List.mem_cons, List.not_mem_nil, or_false] at hu; rw [hu]; rfl
        clear k7 K7 S0 OOG IDG SG CHG
        go_wp2_with (rw [← hW7.out, ← hp7.out]; at_builtin; go_must (refine wpList_app_row rows10 _ rfl _ _ rfl w6.heap.size v9 ((all.take j).filter (M.spB F)).length rows2 rfl OO7.out.row ⟨p7, 0, none⟩ 1 1 [.slice ra 32 rc] rfl rfl ?d1 HC1.out ?d2 ?d3 HZ7.out.2 ?_))
        case d1 => exact fun j u hj => by rw [Addr.add_lit, Nat.zero_add, B7.out.cell]; exact hj
        case d2 => have := HFLL.out; unfold maxLen; omega
        case d3 => have := HFLL.out; omega
        intro v8 w8 o8 g8 a8
        have hq7 := HZ7.out
        have hown : ∀ b, v9.ownBlock = some b → w6.heap.size ≤ b ∧ b < W7.heap.size := fun b hb => OO7.out.row.lt b hb
        have c8 : Chg (fun b => v9.ownBlock = some b) W7 w8 := Chg.of_grown g8 fun k hk => hk
        have OO8 : Hid (OwnRS (fun b => w5.heap.size ≤ b ∧ b < w6.heap.size) w8 w6.heap.size v8 ((all.take (j + 1)).filter (M.spB F)) (rows2 ++ [.slice ra 32 rc])) := by
          rw [HYES.out]
          exact OO7.out.add (fun k hk => hk.2) ID7.out LD.out D0.out o8 g8
        have S8 : Hid (CasSt w w8 g gf gc 200 F .real CV (fun b => False ∨ (w5.heap.size ≤ b ∧ b < w8.heap.size))) := CasSt.up2 (by omega) (S7.out.ref (P := fun b => v9.ownBlock = some b) (fun k hk => .inr ⟨by have := hown k hk; omega, (hown k hk).2⟩) c8)
        have C8 : Hid (Chg (fun k => w.heap.size ≤ k ∧ k < w5.heap.size) w6 w8) := C7.out.trans c8 fun k hk h => by have := hown k h; omega
        clear hq7 hown c8 o8 g8 a8 B7 OO7 ID7 S7 C7 HZ7 HC1 HFLL hW7 hp7 c1
        go_wp2
        go_roundw
        case rel => exact ⟨j + 1, _, by first | rfl | rw [G1.out], HLT.out, C8.out, S8.out, OO8.out⟩
        case measure =>
          have := HLT.out
          try rw [G1.out]
          show n - (((j + 1 : Nat) : Int)).toNat < n - ((j : Int)).toNat
          omega
    · have b1 : ¬ (j : Int) < (n : Int) := by omega
      obtain rfl : n = j := by have := hj.out; omega
      rw [show all.take n = all by rw [← HN.out, List.take_length]] at oo
      have hz6 := HZ6.out
      have hzc := ch.out.size
      obtain ⟨BS, hBS⟩ : ∃ l, l = all.filter (M.spB F) := ⟨_, rfl⟩
      rw [← hBS] at oo
      obtain ⟨ba, bc, hbv⟩ := ownShape oo.out.row
      subst hbv
      have BAD7 : Hid (InLL (fun k => w5.heap.size ≤ k ∧ k < wz.heap.size) wz (.slice ba BS.length bc) BS rows2) := oo.out.inLL.mono fun k hk => by omega
      obtain ⟨bn, hbn⟩ : ∃ q, q = BS.length := ⟨_, rfl⟩
      have CF := Lib.hid (sz.out.fsck HL.out)
      have HRISE := Lib.hid sz.out.rise
      have HBS := Lib.hid hBS
      have HBN : Hid (BS.length = bn) := hbn.symm
      have HBL : Hid (bn ≤ n) := by rw [Hid, hbn, hBS, ← HN.out]; exact List.length_filter_le _ _
      rw [← hbn] at BAD7 ⊢
      have HZ7 : Hid (w5.heap.size ≤ wz.heap.size) := by rw [Hid]; omega
      clear ch sz oo hj hBS hbn hz6 hzc hlt
      go_wp2_with fail
      refine CF.out.mono ?_
      rintro e w8 ⟨far8, r, hr3, mv, mrows, z, rfl, s8, im⟩
      have U8 := Lib.hid s8.under
      rcases hr3 with rfl | rfl | rfl
      rotate_left
      · rw [if_neg (by decide)]
        clear far8 s8 im CF BAD7 A6
        go_wp2
        go_ret
        exact ⟨rfl, U8.out⟩
      · rw [if_neg (by decide)]
        clear far8 s8 im CF BAD7 A6
        go_wp2
        go_ret
        exact ⟨rfl, U8.out⟩
      rw [if_pos rfl] at s8 ⊢
      obtain ⟨G, hG⟩ : ∃ G, G = M.fscked F := ⟨_, rfl⟩
      have HLEFT : Hid (M.marked 98 G = all.filter fun d => !M.spB F d) := by rw [Hid, hG, M.marked_fscked HRISE.out, HALL.out]
      have HFINE : Hid (∀ d ∈ M.marked 98 G, M.spB G d = false) := fun d h => by rw [hG] at h ⊢; exact M.fscked_fine HRISE.out h
      rw [← hG] at s8
      rw [← HALL.out, ← HBS.out] at im
      obtain ⟨ma, mc, rfl⟩ := im.1.shape
      rw [HBN.out] at im ⊢
      obtain ⟨Q8, S8, q8⟩ : ∃ Q : Nat → Prop, Hid (CasSt w w8 g gf gc 200 G .real CV (fun b => Q b ∨ (w8.heap.size ≤ b ∧ b < w8.heap.size))) ∧ Hid (∀ k, ((w5.heap.size ≤ k ∧ k < wz.heap.size) ∨ (wz.heap.size ≤ k ∧ k < z)) → Q k) := ⟨_, s8.less (fun k hk => hk.resolve_right (by omega)), fun k h => h.imp_left .inr⟩
      have BAD8 : Hid (InLL Q8 w8 (.slice ba bn bc) BS rows2) := (BAD7.out.chg far8 (fun k hk h => h.1 (.inr hk))).mono fun k hk => q8.out k (.inl hk)
      have MV8 : Hid (InLL Q8 w8 (.slice ma bn mc) BS mrows) := im.mono fun k hk => q8.out k (.inr hk)
      have CL2 := Lib.hid S8.out.list
      clear far8 s8 im CF BAD7 A6 hG HRISE q8
      go_wp2_with fail
      refine CL2.out.mono ?_
      rintro e w9 ⟨lv, lrows, rfl, ol, k9⟩
      obtain ⟨left, hleft⟩ : ∃ a, a = M.marked 98 G := ⟨_, rfl⟩
      rw [← hleft] at ol
      obtain ⟨la, lc, hlv⟩ := ownShape ol.row
      subst hlv
      obtain ⟨m, hm⟩ : ∃ n, n = left.length := ⟨_, rfl⟩
      have HM : Hid (left.length = m) := hm.symm
      rw [← hleft] at HLEFT HFINE
      have HMN : Hid (m + bn = n) := by
        rw [Hid, hm, HLEFT.out, ← HBN.out, ← HN.out, HBS.out]
        have := M.len_parts (M.spB F) all
        omega
      rw [← hm] at ol ⊢
      have HLF := Lib.hid hleft
      obtain ⟨Q9, S9, q9⟩ : ∃ Q : Nat → Prop, Hid (CasSt w w9 g gf gc 200 G .real CV (fun b => Q b ∨ (w9.heap.size ≤ b ∧ b < w9.heap.size))) ∧ Hid ((∀ k, Q8 k → Q k) ∧ ∀ k, (w8.heap.size ≤ k ∧ k < w9.heap.size) → Q k) := ⟨_, (S8.out.up (Nat.le_refl _) k9).less (fun k hk => hk.resolve_right (by omega)), fun k h => .inl h, fun k h => .inr h⟩
      have BAD9 : Hid (InLL Q9 w9 (.slice ba bn bc) BS rows2) := (BAD8.out.below k9).mono q9.out.1
      have MV9 : Hid (InLL Q9 w9 (.slice ma bn mc) BS mrows) := (MV8.out.below k9).mono q9.out.1
      have L9 : Hid (InLL Q9 w9 (.slice la m lc) left lrows) := ol.inLL.mono q9.out.2
      clear CL2 ol k9 hleft hm S8 BAD8 MV8 q9 hm1
      go_wp2
      go_loopw [16] (fun i wr => ∃ (j : Nat), i = .int .i64 (j : Int) ∧ Hid (j ≤ m) ∧ Hid (Chg (fun k => ¬ Q9 k ∧ w.heap.size ≤ k) w9 wr) ∧ Hid (CasSt w wr g gf gc 200 G .real CV (fun b => Q9 b ∨ (w9.heap.size ≤ b ∧ b < wr.heap.size))))
        (fun i _ => m - numOf i)
      case atStart => exact ⟨0, rfl, Nat.zero_le _, Chg.refl _ _, S9.out⟩
      case round =>
        obtain ⟨wy, rfl⟩ : ∃ x, x = wr := ⟨_, rfl⟩
        obtain ⟨j, rfl, hj, ch, sz⟩ := hrel
        clear S9
        by_cases hlt : j < m
        · have b1 : (j : Int) < (m : Int) := by omega
          have hjl : j < left.length := by rw [HM.out]; exact hlt
          have az := L9.out.chg ch.out fun k hk h => h.1 hk
          obtain ⟨lb, lo, rfl, c0, id, d0⟩ := az.1.at_ j hjl
          have ld := az.2.2 j hjl
          obtain ⟨d, hd⟩ : ∃ d, d = left.getD j [] := ⟨_, rfl⟩
          have hdl : d ∈ left := by rw [hd]; exact M.getD_memL hjl
          have hdm : d ∈ M.marked 98 G := by rw [← HLF.out]; exact hdl
          rw [← hd] at id
          obtain ⟨h32, x, hblob, hdat⟩ := M.blob_some hdm
          have hg : M.csum .real x = d := by
            have := HFINE.out d hdl
            rw [M.spB, hdat] at this
            have h2 : M.sha x = d := by simpa using this
            exact h2
          obtain ⟨ra, rc, hrv⟩ := id.shape
          rw [hrv] at c0 id ld d0
          rw [h32] at c0 id ld d0
          have hzc := ch.out.size
          have CG := Lib.hid (sz.out.get_yes HL.out trivial (.slice ra 32 rc) d x id (ld.mono fun k hk => .inl (.inl hk)) hblob)
          have HG := Lib.hid hg
          have HLT := Lib.hid hlt
          have HZC := Lib.hid hzc
          have g2 : (0 : Int) ≤ (j : Int) := Int.natCast_nonneg j
          have g3 : ((j : Int)).toNat = j := Int.toNat_natCast j
          have G1 : Hid (wrap64 ((j : Int) + 1) = ((j + 1 : Nat) : Int)) := wrap_next (by have := H64.out; have := HMN.out; omega)
          clear hjl az hd hdl hdm h32 hblob hdat hg hrv id ld d0 hlt hzc
          go_wp2_with fail
          refine CG.out.mono ?_
          rintro e wg ⟨rv, rfl, -, sg, far⟩
          rw [if_pos HG.out, if_pos HG.out]
          have SG := Lib.hid (CasSt.up2 HZC.out sg)
          have CHG : Hid (Chg (fun k => ¬ Q9 k ∧ w.heap.size ≤ k) w9 wg) := ch.out.trans far fun k hk h => ⟨fun hq => h.1 (.inl hq), h.2⟩
          clear CG sg far ch sz c0
          go_wp2
          go_roundw
          case rel => exact ⟨j + 1, by first | rfl | rw [G1.out], HLT.out, CHG.out, SG.out⟩
          case measure =>
            have := HLT.out
            try rw [G1.out]
            show m - (((j + 1 : Nat) : Int)).toNat < m - ((j : Int)).toNat
            omega
        · have b1 : ¬ (j : Int) < (m : Int) := by omega
          obtain rfl : m = j := by have := hj.out; omega
          have BAD10 := Lib.hid (BAD9.out.chg ch.out fun k hk h => h.1 hk)
          have MV10 := Lib.hid (MV9.out.chg ch.out fun k hk h => h.1 hk)
          have L10 := Lib.hid (L9.out.chg ch.out fun k hk h => h.1 hk)
          have CSW := Lib.hid (sz.out.sweep HL.out (.slice vo vn vc) live ys (HV.out.below sz.out.under) (by rw [HVN.out]; have := HVL.out; omega))
          have HRISE := Lib.hid sz.out.rise
          clear ch sz hj hlt BAD9 MV9 L9
          go_wp2_with fail
          refine CSW.out.mono ?_
          rintro e w11 ⟨rfl, far11, s11⟩
          obtain ⟨E, hE⟩ : ∃ E, E = M.swept live G := ⟨_, rfl⟩
          obtain ⟨sn, hsn⟩ : ∃ n, n = (M.swN live (M.marked 98 G)).length := ⟨_, rfl⟩
          rw [← hE] at s11
          rw [← hsn]
          have HEND : Hid (M.marked 98 E = left.filter fun d => decide (d ∈ live)) := by rw [Hid, hE, M.marked_swept live HRISE.out, HLF.out]
          have HASIDE : Hid (M.marked 113 E = []) := by rw [Hid, hE]; exact M.aside_swept live HRISE.out
          have HSN : Hid (sn = (left.filter fun d => !decide (d ∈ live)).length) := by rw [Hid, hsn, ← HLF.out]; rfl
          have S11 := Lib.hid s11
          have CL3 := Lib.hid s11.list
          have BAD11 := Lib.hid (BAD10.out.chg far11 fun k hk h => h.1 (.inl hk)).1
          have MV11 := Lib.hid (MV10.out.chg far11 fun k hk h => h.1 (.inl hk)).1
          have L11 := Lib.hid (L10.out.chg far11 fun k hk h => h.1 (.inl hk)).1
          clear CSW far11 s11 hE hsn BAD10 MV10 L10 HRISE
          go_wp2_with fail
          refine CL3.out.mono ?_
          rintro e w12 ⟨ev, erows, rfl, oe, k12⟩
          obtain ⟨en_, hen⟩ : ∃ a, a = M.marked 98 E := ⟨_, rfl⟩
          rw [← hen] at oe HEND
          obtain ⟨ea, ec, hev⟩ := ownShape oe.row
          subst hev
          obtain ⟨en, hn2⟩ : ∃ n, n = en_.length := ⟨_, rfl⟩
          have HEN : Hid (en_.length = en) := hn2.symm
          rw [← hn2] at oe ⊢
          have HSE : Hid (en + sn = m) := by
            rw [Hid, HSN.out, ← HEN.out, HEND.out, ← HM.out]
            exact M.len_parts _ left
          have HIE : Hid (∀ d ∈ en_, d ∈ live ∧ d ∈ left) := fun d hd => by
            rw [HEND.out, List.mem_filter] at hd
            exact ⟨by simpa using hd.2, hd.1⟩
          have HIL : Hid (∀ d ∈ left, d ∈ live → d ∈ en_) := fun d hd hl => by
            rw [HEND.out, List.mem_filter]
            exact ⟨hd, by simpa using hl⟩
          have S12 := Lib.hid (S11.out.below k12)
          have BAD := Lib.hid (BAD11.out.below k12)
          have MV := Lib.hid (MV11.out.below k12)
          have LE := Lib.hid (L11.out.below k12)
          have EE := Lib.hid oe.isLL
          have LV : Hid (IsLL w12 (.slice vo vn vc) live ys) := HV.out.below S12.out.under
          have U12 := Lib.hid S12.out.under
          clear CL3 oe k12 hen hn2 S11 BAD11 MV11 L11 HEND HSN HFINE HLEFT
          go_wp2
          go_loopw [22] (fun i wr => ∃ (k : Nat), i = .int .i64 (k : Int) ∧ Hid (k ≤ en) ∧ Hid (Below w12.heap.size w12 wr))
            (fun i _ => en - numOf i)
          case atStart => exact ⟨0, rfl, Nat.zero_le _, Below.refl _ _⟩
          case round =>
            obtain ⟨wx, rfl⟩ : ∃ x, x = wr := ⟨_, rfl⟩
            obtain ⟨k, rfl, hk, kk⟩ := hrel
            by_cases hlt : k < en
            · have b1 : (k : Int) < (en : Int) := by omega
              have hkl : k < en_.length := by rw [HEN.out]; exact hlt
              obtain ⟨eb, eo, rfl, c0, id, -⟩ := (EE.out.below kk.out).at_ k hkl
              obtain ⟨d, hd⟩ : ∃ d, d = en_.getD k [] := ⟨_, rfl⟩
              have hin := HIE.out d (by rw [hd]; exact M.getD_memL hkl)
              rw [← hd] at id
              obtain ⟨ra, rc, hrv⟩ := id.shape
              rw [hrv] at c0 id
              obtain ⟨dn, hdn⟩ : ∃ q, q = d.length := ⟨_, rfl⟩
              rw [← hdn] at c0 id
              have ci := rin_any (.slice ra dn rc) d (.slice vo vn vc) live ys id (LV.out.below kk.out) (by rw [HVN.out]; have := HVL.out; omega)
              rw [decide_eq_true hin.1] at ci
              have CI := Lib.hid ci
              have HIN := Lib.hid hin.2
              have ID := Lib.hid id
              have C0 := Lib.hid c0
              have HLT := Lib.hid hlt
              have g2 : (0 : Int) ≤ (k : Int) := Int.natCast_nonneg k
              have g3 : ((k : Int)).toNat = k := Int.toNat_natCast k
              have G1 : Hid (wrap64 ((k : Int) + 1) = ((k + 1 : Nat) : Int)) := wrap_next (by have := H64.out; have := HMN.out; have := HSE.out; omega)
              clear hkl hd hin hrv hdn ci id hlt
              go_wp2_with fail
              refine CI.out.mono ?_
              rintro e w13 ⟨rfl, k13⟩
              have kk13 := kk.out.trans (k13.mono kk.out.size)
              have c1 : w13.cell? ⟨eb, eo + k, none⟩ = some (.slice ra dn rc) := (k13.cell (p := ⟨eb, eo + k, none⟩) (World.block_lt_of_cell? wx _ C0.out)).trans C0.out
              have ci := rin_any (.slice ra dn rc) d (.slice la m lc) left lrows (ID.out.below k13) (LE.out.below kk13) (by rw [HM.out]; have := H64.out; have := HMN.out; omega)
              rw [decide_eq_true HIN.out] at ci
              have CI2 := Lib.hid ci
              have K13 := Lib.hid kk13
              clear CI ci k13 kk13 kk ID C0 c0
              go_wp2_with fail
              refine CI2.out.mono ?_
              rintro e w14 ⟨rfl, k14⟩
              have K14 : Hid (Below w12.heap.size w12 w14) := K13.out.trans (k14.mono K13.out.size)
              clear CI2 k14 K13 c1
              go_wp2
              go_roundw
              case rel => exact ⟨k + 1, by first | rfl | rw [G1.out], HLT.out, by first | exact K14 | exact K14.out.drew⟩
              case measure =>
                have := HLT.out
                try rw [G1.out]
                show en - (((k + 1 : Nat) : Int)).toNat < en - ((k : Int)).toNat
                omega
            · have b1 : ¬ (k : Int) < (en : Int) := by omega
              obtain rfl : en = k := by have := hk.out; omega
              clear hlt hk HIE
              go_wp2
              have KX := Lib.hid kk.out
              clear kk
              go_loopw [23] (fun i wr => ∃ (q : Nat), i = .int .i64 (q : Int) ∧ Hid (q ≤ m) ∧ Hid (Below w12.heap.size w12 wr))
                (fun i _ => m - numOf i)
              case atStart => exact ⟨0, rfl, Nat.zero_le _, by first | exact KX | exact KX.out.drew⟩
              case round =>
                obtain ⟨wv, rfl⟩ : ∃ x, x = wr := ⟨_, rfl⟩
                obtain ⟨q, rfl, hq, kk⟩ := hrel
                by_cases hlt : q < m
                · have b1 : (q : Int) < (m : Int) := by omega
                  have hkl : q < left.length := by rw [HM.out]; exact hlt
                  obtain ⟨lb, lo, rfl, c0, id, -⟩ := (LE.out.below kk.out).at_ q hkl
                  obtain ⟨d, hd⟩ : ∃ d, d = left.getD q [] := ⟨_, rfl⟩
                  have hin := HIL.out d (by rw [hd]; exact M.getD_memL hkl)
                  rw [← hd] at id
                  obtain ⟨ra, rc, hrv⟩ := id.shape
                  rw [hrv] at c0 id
                  obtain ⟨dn, hdn⟩ : ∃ q, q = d.length := ⟨_, rfl⟩
                  rw [← hdn] at c0 id
                  have ci := rin_any (.slice ra dn rc) d (.slice vo vn vc) live ys id (LV.out.below kk.out) (by rw [HVN.out]; have := HVL.out; omega)
                  obtain ⟨li, hli⟩ : ∃ b, b = decide (d ∈ live) := ⟨_, rfl⟩
                  rw [← hli] at ci
                  have CI := Lib.hid ci
                  have HIN : Hid (li = true → d ∈ en_) := fun h => hin (by rw [h] at hli; simpa using hli.symm)
                  have ID := Lib.hid id
                  have C0 := Lib.hid c0
                  have HLT := Lib.hid hlt
                  have g2 : (0 : Int) ≤ (q : Int) := Int.natCast_nonneg q
                  have g3 : ((q : Int)).toNat = q := Int.toNat_natCast q
                  have G1 : Hid (wrap64 ((q : Int) + 1) = ((q + 1 : Nat) : Int)) := wrap_next (by have := H64.out; have := HMN.out; omega)
                  clear hkl hd hin hrv hdn ci id hlt hli
                  go_wp2_with fail
                  refine CI.out.mono ?_
                  rintro e w13 ⟨rfl, k13⟩
                  have kk13 := kk.out.trans (k13.mono kk.out.size)
                  have K13 := Lib.hid kk13
                  cases li with
                  | false =>
                    clear CI k13 kk13 kk ID C0 c0
                    go_wp2
                    go_roundw
                    case rel => exact ⟨q + 1, by first | rfl | rw [G1.out], HLT.out, by first | exact K13 | exact K13.out.drew⟩
                    case measure =>
                      have := HLT.out
                      try rw [G1.out]
                      show m - (((q + 1 : Nat) : Int)).toNat < m - ((q : Int)).toNat
                      omega
                  | true =>
                    have c1 : w13.cell? ⟨lb, lo + q, none⟩ = some (.slice ra dn rc) := (k13.cell (p := ⟨lb, lo + q, none⟩) (World.block_lt_of_cell? wv _ C0.out)).trans C0.out
                    have ci := rin_any (.slice ra dn rc) d (.slice ea en ec) en_ erows (ID.out.below k13) (EE.out.below kk13) (by rw [HEN.out]; have := H64.out; have := HMN.out; have := HSE.out; omega)
                    rw [decide_eq_true (HIN.out rfl)] at ci
                    have CI2 := Lib.hid ci
                    clear CI ci k13 kk13 kk ID C0 c0
                    go_wp2_with fail
                    refine CI2.out.mono ?_
                    rintro e w14 ⟨rfl, k14⟩
                    have K14 : Hid (Below w12.heap.size w12 w14) := K13.out.trans (k14.mono K13.out.size)
                    clear CI2 k14 K13 c1
                    go_wp2
                    go_roundw
                    case rel => exact ⟨q + 1, by first | rfl | rw [G1.out], HLT.out, by first | exact K14 | exact K14.out.drew⟩
                    case measure =>
                      have := HLT.out
                      try rw [G1.out]
                      show m - (((q + 1 : Nat) : Int)).toNat < m - ((q : Int)).toNat
                      omega
                · have b1 : ¬ (q : Int) < (m : Int) := by omega
                  obtain rfl : m = q := by have := hq.out; omega
                  obtain ⟨ns, hns⟩ : ∃ l, l = E.map M.Fil.nm := ⟨_, rfl⟩
                  have CNM := Lib.hid (S12.out.see kk.out).names
                  rw [← hns] at CNM
                  have H33 : Hid (∀ x ∈ ns, x.length = 33 → (x.getD 0 0) ≠ 113) := fun x hx h33 h0 => by
                    cases x with
                    | nil => simp at h33
                    | cons a r =>
                      have ha : a = 113 := by simpa using h0
                      subst ha
                      have hm := (M.mem_markN 113 ns r).2 ⟨by simpa using h33, hx⟩
                      have h2 := HASIDE.out
                      rw [M.marked, ← hns] at h2
                      rw [h2] at hm
                      cases hm
                  have H40 : Hid (∀ x ∈ ns, x.length ≤ 40) := fun x hx => by
                    rw [hns] at hx
                    obtain ⟨p, hp, rfl⟩ := List.mem_map.1 hx
                    exact (S12.out.nms p hp).2
                  obtain ⟨cn, hcn⟩ : ∃ n, n = ns.length := ⟨_, rfl⟩
                  have HCN : Hid (ns.length = cn) := hcn.symm
                  have HC64 : Hid (cn ≤ 64) := by rw [Hid, hcn, hns, List.length_map]; exact S12.out.few
                  have KV := Lib.hid kk.out
                  clear hns hcn hlt hq HIL kk HASIDE KX
                  go_wp2_with fail
                  refine CNM.out.mono ?_
                  rintro e w15 ⟨nv, rfl, on, k15⟩
                  obtain ⟨na, nc, hnv⟩ := ownShape on
                  rw [HCN.out] at hnv
                  subst hnv
                  have ON := Lib.hid on
                  have K15 : Hid (Below w12.heap.size w12 w15) := KV.out.trans (k15.mono KV.out.size)
                  clear CNM on k15
                  go_wp2
                  go_loopw [25] (fun i wr => ∃ (p : Nat), i = .int .i64 (p : Int) ∧ Hid (p ≤ cn) ∧ Hid (Below w15.heap.size w15 wr))
                    (fun i _ => cn - numOf i)
                  case atStart => exact ⟨0, rfl, Nat.zero_le _, by first | exact Lib.hid (Below.refl _ _) | exact Lib.hid (Below.refl _ _).drew⟩
                  case round =>
                    obtain ⟨wu, rfl⟩ : ∃ x, x = wr := ⟨_, rfl⟩
                    obtain ⟨p, rfl, hp, kk⟩ := hrel
                    by_cases hlt : p < cn
                    · have b1 : (p : Int) < (cn : Int) := by omega
                      have onz := own_below ON.out kk.out
                      rw [HCN.out] at onz
                      obtain ⟨nb0, hna, _, hcs, _⟩ := ownCells onz (by omega)
                      have hjl : p < ns.length := by rw [HCN.out]; exact hlt
                      obtain ⟨nm, hnm⟩ : ∃ x, x = ns.getD p [] := ⟨_, rfl⟩
                      have hcell : wu.cell? ⟨nb0, p, none⟩ = some (.string ⟨nm.toArray⟩) := by
                        rw [hcs p (by rw [List.length_map]; exact hjl), List.getElem?_map, List.getElem?_eq_getElem hjl, hnm, List.getD_eq_getElem?_getD, List.getElem?_eq_getElem hjl]
                        rfl
                      have hmem : nm ∈ ns := by rw [hnm]; exact M.getD_memL hjl
                      have hl40 := H40.out nm hmem
                      have h33 := H33.out nm hmem
                      obtain ⟨ql, hql⟩ : ∃ x, x = nm.length := ⟨_, rfl⟩
                      rw [← hql] at hl40 h33
                      obtain ⟨sq, hsq⟩ : ∃ s : ByteArray, s = ⟨nm.toArray⟩ := ⟨_, rfl⟩
                      rw [← hsq] at hcell
                      have hsz : sq.size = ql := by rw [hsq, hql]; exact size_list nm
                      have HLT := Lib.hid hlt
                      have g2 : (0 : Int) ≤ (p : Int) := Int.natCast_nonneg p
                      have g3 : ((p : Int)).toNat = p := Int.toNat_natCast p
                      have G1 : Hid (wrap64 ((p : Int) + 1) = ((p + 1 : Nat) : Int)) := wrap_next (by have := HC64.out; omega)
                      subst hna
                      clear onz hcs hjl hnm hmem
                      by_cases hq33 : ql = 33
                      · have hix : ∀ W, (Instr.index 9 (.string sq) (.int .i64 0)).run Tryz.prog W = .ok (.int .u8 ((nm.getD 0 0).toNat : Int)) W := fun W => by
                          rw [hsq]
                          exact index_list nm 0 (by rw [← hql]; omega) W
                        have hne : ¬ (((nm.getD 0 0).toNat : Nat) : Int) = 113 := fun h => h33 hq33 (by
                          have h2 : (nm.getD 0 0).toNat = 113 := by omega
                          exact UInt8.toNat_inj.1 h2)
                        obtain ⟨cc, hcc⟩ : ∃ n, n = (nm.getD 0 0).toNat := ⟨_, rfl⟩
                        rw [← hcc] at hix hne
                        subst hq33
                        clear h33 hl40 hsq hql hcc hlt
                        go_wp2
                        go_roundw
                        case rel => exact ⟨p + 1, by first | rfl | rw [G1.out], HLT.out, by first | exact kk | exact kk.out.drew⟩
                        case measure =>
                          have := HLT.out
                          try rw [G1.out]
                          show cn - (((p + 1 : Nat) : Int)).toNat < cn - ((p : Int)).toNat
                          omega
                      · have b33 : ¬ (ql : Int) = 33 := by omega
                        clear h33 hl40 hsq hql hlt hq33
                        go_wp2
                        go_roundw
                        case rel => exact ⟨p + 1, by first | rfl | rw [G1.out], HLT.out, by first | exact kk | exact kk.out.drew⟩
                        case measure =>
                          have := HLT.out
                          try rw [G1.out]
                          show cn - (((p + 1 : Nat) : Int)).toNat < cn - ((p : Int)).toNat
                          omega
                    · have b1 : ¬ (p : Int) < (cn : Int) := by omega
                      have KU : Below w12.heap.size w12 wu := K15.out.trans (kk.out.mono K15.out.size)
                      have CRL := Lib.hid (rlists_yes (.slice ma bn mc) (.slice ba bn bc) BS mrows rows2 (MV.out.below KU) (BAD.out.below KU) (by rw [HBN.out]; have := HBL.out; have := H64.out; omega))
                      have KW : Hid (Below w.heap.size w wu) := U12.out.trans (KU.mono U12.out.size)
                      have W1 : wrap64 ((n : Int) - (bn : Int)) = (m : Int) := by
                        have := HMN.out
                        have := H64.out
                        unfold wrap64
                        omega
                      have W2 : wrap64 ((m : Int) - (en : Int)) = (sn : Int) := by
                        have := HMN.out
                        have := HSE.out
                        have := H64.out
                        unfold wrap64
                        omega
                      clear hlt hp kk KU
                      go_wp2_with fail
                      refine CRL.out.mono ?_
                      rintro e w16 ⟨rfl, k16⟩
                      have KF : Hid (Below w.heap.size w w16) := KW.out.trans (k16.mono KW.out.size)
                      clear CRL k16
                      go_wp2
                      go_ret
                      exact ⟨rfl, KF.out⟩

end Go.Proofs.YtphcbpfpelonaaaGreatDoor
