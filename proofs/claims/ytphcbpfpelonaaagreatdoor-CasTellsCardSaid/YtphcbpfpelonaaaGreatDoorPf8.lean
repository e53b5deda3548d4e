/-
  CONTRACTS OF (*disk.Disk).place AND lay: where a block's safe bytes lie, and a write laid there. Conditions: the disk lies so; the block is there; the bytes are a block's.
  CONTRACTS OF (*disk.Disk).Write: what it refuses, and a write that waits. Conditions: the disk lies so; what is written lies out of it; fewer than a million writes wait.
-/
import Derived.Test.YtphcbpfpelonaaaGreatDoorPf7

namespace Go.Proofs.YtphcbpfpelonaaaGreatDoor
open Go.RowKit
set_option linter.unusedVariables false

set_option maxHeartbeats 2000000 in
theorem place9_any {T : Nat → Prop} {w : World} {g sb cap : Nat} {wv : Value} {dvs : List Value} {m : M.Dsk} (h : DkAt T w g (.slice (some ⟨sb, 0, none⟩) (256 * m.safe.length) cap) wv dvs m) (hc : 256 * m.safe.length ≤ cap) (i : Nat) (hi : i < m.safe.length) (W : World)
    (hW : W.cell? ⟨g, 0, none⟩ = some (.slice (some ⟨sb, 0, none⟩) (256 * m.safe.length) cap)) :
    Calls Tryz.prog 120 #[.pointer (some ⟨g, 0, none⟩), .int .i64 (i : Int)] W fun e w' => e = .returned (.slice (some ⟨sb, 256 * i, none⟩) 256 (cap - 256 * i)) ∧ w' = W := by
  have hf := h.ok.few
  obtain ⟨n, hn⟩ : ∃ n, n = 256 * m.safe.length := ⟨_, rfl⟩
  obtain ⟨p, hp⟩ : ∃ p, p = 256 * i := ⟨_, rfl⟩
  rw [← hn] at hW hc
  rw [← hp]
  have hm : cap ≤ maxLen := by
    rcases h.srow.2 with ⟨e, _⟩ | ⟨g', cap', cur, e, _, _, h3, h4, _⟩
    · cases e
    · injection e with e1 e2 e3
      omega
  obtain ⟨c, hc'⟩ : ∃ c, c = cap - p := ⟨_, rfl⟩
  have hel : Tryz.prog.elem 38 = 5 := by simp [Program.elem, Tryz.underlying38]
  have s1 : (Instr.slice 38 (.slice (some ⟨sb, 0, none⟩) n cap) (some (.int .i64 (p : Int))) none none).run Tryz.prog W = .ok (.slice (some ⟨sb, p, none⟩) (n - p) c) W := by
    have hr : (Instr.slice 38 (.slice (some ⟨sb, 0, none⟩) n cap) (some (.int .i64 (p : Int))) none none).run Tryz.prog W = .ok (sliced (some ⟨sb, 0, none⟩) p n cap 1) W := by
      rw [run_slice_l W 38 (some ⟨sb, 0, none⟩) n cap (by rw [hel]; exact Tryz.underlying38) .i64 (p : Int) (by omega) (by omega), hel, Tryz.sizeOf5]
      simp
    rw [hr, sliced, if_neg (by omega), hc']
    simp [Addr.add]
    omega
  have t1 : wrap64 ((i : Int) * 256) = (p : Int) := by unfold wrap64; omega
  have t2 : (256 : Int) ≤ (c : Int) := by omega
  rw [← hc']
  clear h hf hn hp hm hc hi hc'
  go_enter Tryz.func120, Tryz.ntmps120
  go_wp2
  go_ret
  exact ⟨rfl, rfl⟩

set_option maxRecDepth 100000 in
set_option maxHeartbeats 4000000 in
theorem lay9_any {T : Nat → Prop} {w : World} {g : Nat} {sv wv : Value} {dvs : List Value} {m : M.Dsk} (h : DkAt T w g sv wv dvs m) (i : Nat) (hi : i < m.safe.length) (dv : Value) (bs : List UInt8) (hd : IsB w dv bs) (hl : bs.length = 256) :
    Calls Tryz.prog 98 #[.pointer (some ⟨g, 0, none⟩), .agg #[.int .i64 (i : Int), dv]] w fun e w' => e = .returned (.tuple #[]) ∧ DkAt T w' g sv wv dvs { m with safe := m.safe.set i bs } ∧ Chg (fun k => sv.ownBlock = some k) w w' := by
  have hf := h.ok.few
  obtain ⟨sb, cap, cur, es, _, hb, h1, h2, h3, h4⟩ := h.srow.blk9 (by rw [h.flat]; omega)
  rw [h.flat] at es h1 h4
  subst es
  have H := Lib.hid h
  obtain ⟨W, hW⟩ : ∃ W, Hid (W = w.alloc (.cells #[.int .i64 (i : Int), dv] 152)) := ⟨_, rfl⟩
  have kW : Below w.heap.size w W := by rw [hW.out]; exact (Below.refl _ _).alloc (Nat.le_refl _) _
  obtain ⟨x, hx⟩ : ∃ x, x = w.heap.size := ⟨_, rfl⟩
  have B1 : Blk W x 152 [.int .i64 (i : Int), dv] := by rw [hW.out]; exact Blk.newAt _ _ _ _ _ hx rfl
  have HWW := h.below kW
  have c0 : W.drew.cell? ⟨g, 0, none⟩ = some (.slice (some ⟨sb, 0, none⟩) (256 * m.safe.length) cap) := HWW.blk.cell 0
  have x0 : W.drew.cell? ⟨x, 0, none⟩ = some (.int .i64 (i : Int)) := B1.cell 0
  have x1 : W.drew.cell? ⟨x, 1, none⟩ = some dv := B1.cell 1
  have CP := place9_any HWW h1 i hi W.drew c0
  obtain ⟨da, dc, hdd⟩ := hd.shape
  rw [hl] at hdd
  obtain ⟨db, doff, rfl, hcell⟩ : ∃ b off, da = some ⟨b, off, none⟩ ∧ ∀ j, j < bs.length → w.cell? ⟨b, off + j, none⟩ = some (.int .u8 ((bs.getD j 0).toNat : Int)) := by
    obtain ⟨ao, cap', e, _, _, hat⟩ := hd
    rw [e] at hdd
    injection hdd with e1 e2 e3
    rcases hat with hat | ⟨b, off, e4, hc⟩
    · rw [hat] at hl; cases hl
    · exact ⟨b, off, by rw [← e1, e4], hc⟩
  subst hdd
  have HSRC : Hid (∀ j v, (Lib.byteCells bs)[j]? = some v → W.drew.cell? (Addr.add ⟨db, doff, none⟩ j) = some v) := by
    intro j v hj
    have hj2 : j < bs.length := by
      have := (List.getElem?_eq_some_iff.1 hj).1
      rwa [byteCells_length] at this
    rw [Addr.add_lit, ← hj, byteCells_getElem? _ _ hj2, ← hcell j hj2]
    exact kW.cell (p := ⟨db, doff + j, none⟩) (World.block_lt_of_cell? w _ (hcell j hj2))
  have HB : Hid (Blk W.drew sb 5 cur) := (hb.below kW hb.lt).drew
  have HL := Lib.hid hl
  have H1 := Lib.hid h1
  have H2 := Lib.hid h2
  have H3 := Lib.hid h3
  have H4 := Lib.hid h4
  have HI := Lib.hid hi
  have KW := Lib.hid kW
  have HR := Lib.hid HWW
  clear h hf hb h1 h2 h3 h4 kW B1 hd hcell hl hi HWW
  go_enter Tryz.func98, Tryz.ntmps98
  go_upto_region 1 with fail
  rw [← hW.out, ← hx]
  clear hW hx
  refine wp_region_still 6 (by kernel_rfl) (by kernel_rfl) ?_
  simp only [List.take_succ_cons, List.take_zero, List.drop_succ_cons, List.drop_zero]
  repeat (first | still_step | still_call CP)
  refine wpStill_nil ?_
  refine wpList_copy_blk rfl (.tmp 7) (.tmp 9) 38 38 rfl 5 Tryz.underlying38 (by kernel_rfl) (some ⟨sb, 256 * i, none⟩) (some ⟨db, doff, none⟩) 256 (cap - 256 * i) 256 dc rfl rfl sb (256 * i) cur 5 HB.out (Lib.byteCells bs) (by rw [byteCells_length, HL.out]; rfl) (fun _ => ⟨rfl, _, rfl, HSRC.out⟩) (by rw [byteCells_length, HL.out]; have := HI.out; have := H1.out; have := H3.out; omega) (byteCells_oneCell _) ?_
  intro w2 hb2 ho2
  have e2 := splice_row (cur := cur) (bs := m.safe.flatten) (xs := bs) (o := 256 * i) (by rw [H.out.flat]; exact H4.out) (by rw [HL.out, H.out.flat]; have := HI.out; omega) (by rw [H.out.flat]; have := H1.out; have := H3.out; omega)
  rw [HL.out, ← M.flat_set m.safe i bs H.out.ok.full HI.out] at e2
  have hfs : (m.safe.set i bs).flatten.length = 256 * m.safe.length := by
    rw [flat_length _ (fun c hc => by
      rcases List.mem_or_eq_of_mem_set hc with hc | hc
      · exact H.out.ok.full c hc
      · exact hc ▸ HL.out), List.length_set]
  have o2 : Own w2 0 (.slice (some ⟨sb, 0, none⟩) (256 * m.safe.length) cap) (m.safe.set i bs).flatten := by
    rw [← hfs]
    refine Own.of_blk9 (Nat.zero_le _) hb2 (by rw [hfs]; exact H1.out) H2.out ?_ (by rw [hfs, ← H.out.flat]; exact e2)
    rw [splice, List.length_append, List.length_append, List.length_take, List.length_drop, byteCells_length, HL.out]
    have := HI.out; have := H1.out; have := H3.out; omega
  have k2 : Chg (fun k => (Value.slice (some ⟨sb, 0, none⟩) (256 * m.safe.length) cap).ownBlock = some k) W w2 := (Chg.refl _ W).drew.trans (Chg.of_grown (F := fun k => (Value.slice (some ⟨sb, 0, none⟩) (256 * m.safe.length) cap).ownBlock = some k) ho2 fun k e => e) fun _ _ h => h
  have R2 := Lib.hid (HR.out.lay (m.safe.set i bs) k2 o2 (by simp) (fun c hc => by
      rcases List.mem_or_eq_of_mem_set hc with hc | hc
      · exact H.out.ok.full c hc
      · exact hc ▸ HL.out))
  have K2 : Hid (Chg (fun k => (Value.slice (some ⟨sb, 0, none⟩) (256 * m.safe.length) cap).ownBlock = some k) w w2) := (Chg.of_below KW.out).trans k2 fun _ _ h => h
  clear hb2 ho2 e2 hfs o2 k2 HSRC HB HL H1 H2 H3 H4 HI KW HR
  go_wp2
  go_end0
  exact ⟨rfl, R2.out, K2.out⟩

end Go.Proofs.YtphcbpfpelonaaaGreatDoor

namespace Go.Proofs.YtphcbpfpelonaaaGreatDoor
open Go.RowKit
set_option linter.unusedVariables false

theorem write_row9 : RowTy 64 152 2 32 (.agg #[.int .i64 0, .slice none 0 0]) := ⟨Tryz.underlying64, by kernel_rfl, rfl, by decide⟩

set_option maxHeartbeats 2000000 in
theorem write9_no {T : Nat → Prop} {w : World} {g : Nat} {sv wv : Value} {dvs : List Value} {m : M.Dsk} (h : DkAt T w g sv wv dvs m) (i : Int) (bv : Value) (bs : List UInt8) (hbv : IsB w bv bs) (hno : ¬ (0 ≤ i ∧ i < m.safe.length ∧ bs.length = 256)) :
    Calls Tryz.prog 87 #[.pointer (some ⟨g, 0, none⟩), .int .i64 i, bv] w fun e w' => e = .returned (.int .i64 1) ∧ w' = w := by
  have C := Lib.hid (has9_any h i)
  obtain ⟨l, hl⟩ : ∃ l, l = bs.length := ⟨_, rfl⟩
  obtain ⟨ba, bc, eb⟩ := hbv.shape
  rw [← hl] at eb hno
  subst eb
  obtain ⟨d, hd⟩ : ∃ d, d = decide (0 ≤ i ∧ i < (m.safe.length : Int)) := ⟨_, rfl⟩
  rw [← hd] at C
  cases d with
  | false =>
    clear h hbv hl hd hno
    go_enter Tryz.func87, Tryz.ntmps87
    go_wp2_with fail
    refine C.out.mono ?_
    rintro e w1 ⟨rfl, rfl⟩
    go_wp2
    go_ret
    exact ⟨rfl, rfl⟩
  | true =>
    have hi := of_decide_eq_true hd.symm
    have h3 : ¬ (l : Int) = 256 := by omega
    have h4 : ((l : Int) == 256) = false := by simpa using h3
    have h5 : ((l : Int) != 256) = true := by simpa using h3
    clear h hbv hl hd hno hi
    go_enter Tryz.func87, Tryz.ntmps87
    go_wp2_with fail
    refine C.out.mono ?_
    rintro e w1 ⟨rfl, rfl⟩
    go_wp2
    go_ret
    exact ⟨rfl, rfl⟩

set_option maxHeartbeats 2000000 in
theorem write9_down {T : Nat → Prop} {w : World} {g : Nat} {sv wv : Value} {dvs : List Value} {m : M.Dsk} (h : DkAt T w g sv wv dvs m) (i : Nat) (hi : i < m.safe.length) (bv : Value) (bs : List UInt8) (hbv : IsB w bv bs) (hl : bs.length = 256) (hd : m.down = true) :
    Calls Tryz.prog 87 #[.pointer (some ⟨g, 0, none⟩), .int .i64 (i : Int), bv] w fun e w' => e = .returned (.int .i64 11) ∧ w' = w := by
  have C := Lib.hid (has9_any h (i : Int))
  have c3 : w.cell? ⟨g, 3, none⟩ = some (.bool true) := by rw [← hd]; exact h.blk.cell 3
  rw [decide_eq_true (show (0 : Int) ≤ (i : Int) ∧ (i : Int) < (m.safe.length : Int) by omega)] at C
  obtain ⟨ba, bc, eb⟩ := hbv.shape
  rw [hl] at eb
  subst eb
  clear h hbv hl hd hi
  go_enter Tryz.func87, Tryz.ntmps87
  go_wp2_with fail
  refine C.out.mono ?_
  rintro e w1 ⟨rfl, rfl⟩
  go_wp2
  go_ret
  exact ⟨rfl, rfl⟩

set_option maxRecDepth 100000 in
set_option maxHeartbeats 4000000 in
theorem write9_ok {T : Nat → Prop} {w : World} {g : Nat} {sv wv : Value} {dvs : List Value} {m : M.Dsk} (h : DkAt T w g sv wv dvs m) (i : Nat) (hi : i < m.safe.length) (bv : Value) (bs : List UInt8) (hbv : IsB w bv bs) (hl : bs.length = 256) (hd : m.down = false) (hfew : m.wait.length < 1000000) :
    Calls Tryz.prog 87 #[.pointer (some ⟨g, 0, none⟩), .int .i64 (i : Int), bv] w fun e w' =>
      e = .returned (.int .i64 (if (({ m with wait := m.wait ++ [(i, bs)] } : M.Dsk).goes).2 then 11 else 0)) ∧ Chg T w w' ∧ ∃ wv' dvs' T', DkAt T' w' g sv wv' dvs' (m.write i bs) ∧ ∀ k, T' k → T k ∨ w.heap.size ≤ k := by
  have C := Lib.hid (has9_any h (i : Int))
  rw [decide_eq_true (show (0 : Int) ≤ (i : Int) ∧ (i : Int) < (m.safe.length : Int) by omega)] at C
  have H := Lib.hid h
  have HBV := Lib.hid hbv
  have HL := Lib.hid hl
  have HI := Lib.hid hi
  have HF := Lib.hid hfew
  have c1 : w.cell? ⟨g, 1, none⟩ = some wv := h.blk.cell 1
  have c3 : w.cell? ⟨g, 3, none⟩ = some (.bool false) := by rw [← hd]; exact h.blk.cell 3
  obtain ⟨q, hq⟩ : ∃ q, q = m.wait.length := ⟨_, rfl⟩
  obtain ⟨wa, wc, ew⟩ := ownShape h.wrow
  obtain ⟨ba, bc, eb⟩ := hbv.shape
  rw [← hq] at ew
  rw [hl] at eb
  subst ew eb
  have HQ : Hid (q = m.wait.length) := hq
  have HDN : Hid (m.down = false) := hd
  obtain ⟨mw, hmw⟩ : ∃ x, Hid (x = ({ m with wait := m.wait ++ [(i, bs)] } : M.Dsk)) := ⟨_, rfl⟩
  have MW : Hid (m.write i bs = mw.goes.1) := by rw [Hid, hmw.out]; rfl
  rw [MW.out, ← hmw.out]
  obtain ⟨c, hc⟩ : ∃ c : Int, Hid ((if mw.goes.2 = true then 11 else 0) = c) := ⟨_, rfl⟩
  rw [hc.out]
  clear h hbv hl hfew hd hq hi
  go_enter Tryz.func87, Tryz.ntmps87
  go_wp2_with fail
  refine C.out.mono ?_
  rintro e w1 ⟨rfl, rfl⟩
  clear C
  obtain ⟨w, rfl⟩ : ∃ x, x = w1 := ⟨_, rfl⟩
  go_upto_region 5 with fail
  refine region_T (fun w' => w'.cell? ⟨g, 1, none⟩ = some (.slice wa q wc)) [11, 12, 13] (by kernel_rfl) ?_
  have S0 : w.drew.cell? ⟨g, 1, none⟩ = some (.slice wa q wc) := c1
  refine anyT_take_at (i := 0) (v := .pointer (some ⟨g, 0, none⟩)) rfl rfl (by kernel_rfl) (by kernel_rfl) (by kernel_rfl) (by kernel_rfl) (fun _ _ _ h => h) (Or.inl ⟨by rfl, fun w hS => by have c : w.cell? ⟨g, 1, none⟩ = some (.slice wa q wc) := hS; go_simp⟩) S0 ?_
  simp only [List.setIfInBounds_toArray, List.set_cons_zero, List.set_cons_succ]
  refine anyT_take_at (i := 1) (v := .pointer (some ⟨g, 0, none⟩)) rfl rfl (by kernel_rfl) (by kernel_rfl) (by kernel_rfl) (by kernel_rfl) (fun _ _ _ h => h) (Or.inl ⟨by rfl, fun w hS => by have c : w.cell? ⟨g, 1, none⟩ = some (.slice wa q wc) := hS; go_simp⟩) S0 ?_
  simp only [List.setIfInBounds_toArray, List.set_cons_zero, List.set_cons_succ]
  refine anyT_take_at (i := 2) (v := .pointer (some ⟨g, 0, none⟩)) rfl rfl (by kernel_rfl) (by kernel_rfl) (by kernel_rfl) (by kernel_rfl) (fun _ _ _ h => h) (Or.inl ⟨by rfl, fun w hS => by have c : w.cell? ⟨g, 1, none⟩ = some (.slice wa q wc) := hS; go_simp⟩) S0 ?_
  simp only [List.setIfInBounds_toArray, List.set_cons_zero, List.set_cons_succ]
  refine anyT_take_at (i := 3) (v := .pointer (some ⟨g, 1, none⟩)) rfl rfl (by kernel_rfl) (by kernel_rfl) (by kernel_rfl) (by kernel_rfl) (fun _ _ _ h => h) (Or.inl ⟨by rfl, fun w hS => by have c : w.cell? ⟨g, 1, none⟩ = some (.slice wa q wc) := hS; go_simp⟩) S0 ?_
  simp only [List.setIfInBounds_toArray, List.set_cons_zero, List.set_cons_succ]
  refine anyT_take_at (i := 4) (v := .slice wa q wc) rfl rfl (by kernel_rfl) (by kernel_rfl) (by kernel_rfl) (by kernel_rfl) (fun _ _ _ h => h) (Or.inl ⟨by rfl, fun w hS => by have c : w.cell? ⟨g, 1, none⟩ = some (.slice wa q wc) := hS; go_simp⟩) S0 ?_
  simp only [List.setIfInBounds_toArray, List.set_cons_zero, List.set_cons_succ]
  refine anyT_take_at (i := 5) (v := .int .i64 (i : Int)) rfl rfl (by kernel_rfl) (by kernel_rfl) (by kernel_rfl) (by kernel_rfl) (fun _ _ _ h => h) (Or.inl ⟨by rfl, fun w hS => by have c : w.cell? ⟨g, 1, none⟩ = some (.slice wa q wc) := hS; go_simp⟩) S0 ?_
  simp only [List.setIfInBounds_toArray, List.set_cons_zero, List.set_cons_succ]
  refine anyT_take_at (i := 6) (v := .slice ba 256 bc) rfl rfl (by kernel_rfl) (by kernel_rfl) (by kernel_rfl) (by kernel_rfl) (fun _ _ _ h => h) (Or.inl ⟨by rfl, fun w hS => by have c : w.cell? ⟨g, 1, none⟩ = some (.slice wa q wc) := hS; go_simp⟩) S0 ?_
  simp only [List.setIfInBounds_toArray, List.set_cons_zero, List.set_cons_succ]
  refine anyT_ready (rs := [7]) (by kernel_rfl) (by simp) ?_
  refine ReadyT.cons rfl (fun K hK => ?_) ReadyT.nil
  go_simp
  have blk := H.out.blk
  have gl := blk.lt
  have kd : Below w.heap.size w w.drew := drewN_below (Below.refl _ w) 1
  refine (clone9_any (.slice ba 256 bc) bs w.drew (HBV.out.below kd) (by rw [HL.out]; decide)).mono ?_
  rintro e w2 ⟨dv, rfl, od, k2⟩
  have kw2 : Below w.heap.size w w2 := kd.trans k2
  obtain ⟨da, dc, rfl⟩ := ownShape od
  rw [HL.out] at od ⊢
  refine hK.out _ _ (.inr ((blk.below kw2 gl).cell 1)) ?_
  clear hK K
  refine anyT_take_at (i := 8) (v := .agg #[.int .i64 (i : Int), .slice da 256 dc]) rfl rfl (by kernel_rfl) (by kernel_rfl) (by kernel_rfl) (by kernel_rfl) (fun _ _ _ h => h) (Or.inl ⟨by rfl, fun w hS => by go_simp⟩) ((blk.below kw2 gl).cell 1) ?_
  simp only [List.setIfInBounds_toArray, List.set_cons_zero, List.set_cons_succ]
  refine anyT_ready (rs := [9]) (by kernel_rfl) (by simp) ?_
  refine ReadyT.cons rfl (fun K hK => ?_) ReadyT.nil
  go_simp
  obtain ⟨dv, hdv⟩ : ∃ x, x = Value.slice da 256 dc := ⟨_, rfl⟩
  rw [← hdv] at od ⊢
  obtain ⟨w3, hw3⟩ : ∃ x, x = w2.alloc (.cells #[.int .i64 (i : Int), dv] 152) := ⟨_, rfl⟩
  obtain ⟨p, hp⟩ : ∃ x, x = w2.heap.size := ⟨_, rfl⟩
  rw [← hw3, ← hp]
  have k3 : Below w2.heap.size w2 w3 := by rw [hw3]; exact (Below.refl _ _).alloc (Nat.le_refl _) _
  have kw3 : Below w.heap.size w w3 := kw2.trans (k3.mono kw2.size)
  have b3 : Blk w3 p 152 [.int .i64 (i : Int), dv] := by rw [hw3]; exact Blk.newAt _ _ _ _ _ hp rfl
  have d3 : IsB w3 dv bs := (od.isB).below k3
  have ld : Lies (fun b => w.heap.size ≤ b ∧ b < w2.heap.size) dv := Own.lies od fun k h1 h2 => ⟨h1, h2⟩
  have r3 := own_chg H.out.wrow (Chg.of_below (F := fun _ => False) kw3) (fun _ _ h => h)
  rw [← HQ.out] at r3
  refine hK.out _ _ (.inr ((blk.below kw3 gl).cell 1)) ?_
  clear hK K hw3 k2
  refine anyT_ready (rs := [10]) (by kernel_rfl) (by simp) ?_
  refine ReadyT.cons rfl (fun K hK => ?_) ReadyT.nil
  refine step_app_row write_row9 rfl (.tmp 24) (.tmp 29) rfl 0 _ q _ rfl r3 ⟨p, 0, none⟩ 1 1 [.int .i64 (i : Int), dv] rfl rfl ?cc ?c1 (by have := HF.out; rw [← HQ.out] at this; unfold maxLen; omega) (by have := HF.out; rw [← HQ.out] at this; omega) (Nat.zero_le _) ?_
  case cc => exact fun j u hj => by rw [Addr.add_lit, Nat.zero_add, b3.cell]; exact hj
  case c1 => intro u hu; simp only [List.mem_cons, List.not_mem_nil, or_false] at hu; rcases hu with rfl | rfl; rfl; rw [hdv]; rfl
  intro wv0 w4 o4 g4 a4
  obtain ⟨wa', wc', rfl⟩ := ownShape o4
  have hrow : ∀ b, (Value.slice wa q wc).ownBlock = some b → T b ∧ b ≠ g := fun b hb => ⟨(H.out.tw b hb).1, (H.out.tw b hb).2.1⟩
  have B4 : Blk w4 g 66 [sv, .slice wa q wc, .int .i64 (m.left : Int), .bool m.down] := (blk.below kw3 gl).grown g4 fun e => (hrow g e.symm).2 rfl
  refine hK.out _ _ (.inr (B4.cell 1)) ?_
  clear hK K
  refine anyT_free_at (i := 11) (v := .pointer (some ⟨g, 0, none⟩)) rfl rfl (by kernel_rfl) (by kernel_rfl) (by kernel_rfl) (by kernel_rfl) (fun _ _ _ h => h) (Or.inl ⟨by rfl, fun w _ => by go_simp⟩) ?_
  simp only [List.setIfInBounds_toArray, List.set_cons_zero, List.set_cons_succ]
  refine anyT_free_at (i := 12) (v := .pointer (some ⟨g, 1, none⟩)) rfl rfl (by kernel_rfl) (by kernel_rfl) (by kernel_rfl) (by kernel_rfl) (fun _ _ _ h => h) (Or.inl ⟨by rfl, fun w _ => by go_simp⟩) ?_
  simp only [List.setIfInBounds_toArray, List.set_cons_zero, List.set_cons_succ]
  refine anyT_ready (rs := [13]) (by kernel_rfl) (by simp) ?_
  refine ReadyT.cons rfl (fun K hK => ?_) ReadyT.nil
  have c4 := B4.cell 1
  have f4 := B4.frozen 1
  go_simp
  obtain ⟨wv', hwv'⟩ : ∃ x, x = Value.slice wa' (q + 1) wc' := ⟨_, rfl⟩
  rw [← hwv'] at o4 a4 ⊢
  have hbn : ∀ b, wv'.ownBlock = some b → (T b ∧ b ≠ g) ∨ (w2.heap.size ≤ b ∧ b < w4.heap.size) := fun b hb => by
    rcases a4 with a4 | a4
    · exact .inl (hrow b (a4 ▸ hb))
    · rw [a4] at hb
      injection hb with hb
      have h1 := (o4.lt b (by rw [a4, hb])).2
      have h2 := k3.size
      exact .inr ⟨by omega, h1⟩
  obtain ⟨w5, hw5⟩ : ∃ x, x = w4.setCell ⟨g, 1, none⟩ wv' := ⟨_, rfl⟩
  rw [← hw5]
  have kc : Chg (fun b => b = g) w4 w5 := by rw [hw5]; exact (Chg.refl _ w4).cell 1 wv'
  have B5 : Blk w5 g 66 [sv, wv', .int .i64 (m.left : Int), .bool m.down] := by rw [hw5]; exact B4.set_ 1 wv'
  have hth := H.out.there
  have kA : Chg (fun b => b = g ∨ (Value.slice wa q wc).ownBlock = some b) w w5 := by
    have e1 : Chg (fun b => b = g ∨ (Value.slice wa q wc).ownBlock = some b) w w3 := Chg.of_below kw3
    have e2 : Chg (fun b => b = g ∨ (Value.slice wa q wc).ownBlock = some b) w3 w4 := Chg.of_grown g4 fun k hk => .inr hk
    exact (e1.trans e2 fun _ _ h => h).trans kc fun _ _ h => .inl h
  have o5 : w5.ownsRow 0 152 2 wv' (q + 1) (chgs m.wait dvs ++ [.int .i64 (i : Int), dv]) := own_chg o4 kc fun b hb e => by
    rcases hbn b hb with h | h
    · exact h.2 e
    · have := kw2.size
      omega
  have d5 : IsB w5 dv bs := (d3.chg (Chg.of_grown (F := fun b => (Value.slice wa q wc).ownBlock = some b) g4 fun k hk => hk) (ld.mono fun b hb e => by have := hth b (hrow b e).1; omega)).chg kc (ld.mono fun b hb e => by omega)
  have l5 : Lies (fun b => w.heap.size ≤ b ∧ b < w5.heap.size ∧ wv'.ownBlock ≠ some b) dv := ld.mono fun b hb => ⟨hb.1, by have h1 := k3.size; have h2 := g4.size; have h3 := kc.size; omega, fun e => by
    rcases hbn b e with h | h
    · have := hth b h.1
      omega
    · omega⟩
  have R5 := Lib.hid (H.out.push (i := i) (bs := bs) (wv' := wv') (dv := dv) HI.out HL.out (HQ.out ▸ kA) B5 (by rw [← HQ.out]; exact o5) d5 l5 (by
    rcases a4 with a4 | a4
    · exact .inl a4
    · have h1 := (o4.lt _ a4).2
      exact .inr ⟨_, a4, kw3.size, Nat.lt_of_lt_of_le h1 kc.size⟩))
  have KA : Hid (Chg T w w5) := kA.mono fun k hk e => by
    rcases e with e | e
    · exact e ▸ H.out.tg
    · exact (hrow k e).1
  refine hK.out _ _ (.inl (by simp)) ?_
  clear hK K
  refine anyT_done (by kernel_rfl) ?_ _
  rw [← hmw.out] at R5
  have KT : Hid (∀ k, Grown T w w5 k → T k ∨ w.heap.size ≤ k) := fun k h => h.1
  have KG : Hid (∀ k, k < w.heap.size → k = g → T k) := fun k _ e => e ▸ H.out.tg
  have HMD : Hid (mw.down = false) := by rw [Hid, hmw.out]; exact HDN.out
  clear hmw hw5 hwv' o4 a4 g4 hbn kc B5 hth kA o5 d5 l5 B4 hrow c4 f4 b3 d3 ld r3 k3 kw3 kw2 od hdv hp blk gl S0 H HBV HL HI HF HQ c1 c3 kd
  go_wp2_with fail
  have AC := Lib.hid (act9_any R5.out HMD.out)
  rw [hc.out] at AC
  refine AC.out.mono ?_
  rintro e w6 ⟨rfl, r6, k6⟩
  have R6 := Lib.hid r6
  have K6 : Hid (Chg T w w6) := KA.out.trans k6 KG.out
  clear r6 k6 R5 KA KG AC
  go_wp2
  go_ret
  exact ⟨rfl, K6.out, wv', _, _, R6.out, KT.out⟩

end Go.Proofs.YtphcbpfpelonaaaGreatDoor
