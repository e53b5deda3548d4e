/-
  CONTRACTS OF (*disk.Disk).place AND lay: where a block's safe bytes lie, and a write laid there. Conditions: the disk lies so; the block is there; the bytes are a block's.
-/
import Derived.Test.YthmamdlhgfkckaaDiskB
namespace Go.Proofs.Ythmamdlhgfkckaa
open Go.RowKit
set_option linter.unusedVariables false

set_option maxHeartbeats 2000000 in
theorem place9_any {T : Nat → Prop} {w : World} {g sb cap : Nat} {wv : Value} {dvs : List Value} {m : M.Dsk} (h : DkAt T w g (.slice (some ⟨sb, 0, none⟩) (256 * m.safe.length) cap) wv dvs m) (hc : 256 * m.safe.length ≤ cap) (i : Nat) (hi : i < m.safe.length) (W : World)
    (hW : W.cell? ⟨g, 0, none⟩ = some (.slice (some ⟨sb, 0, none⟩) (256 * m.safe.length) cap)) :
    Calls Try.prog 40 #[.pointer (some ⟨g, 0, none⟩), .int .i64 (i : Int)] W fun e w' => e = .returned (.slice (some ⟨sb, 256 * i, none⟩) 256 (cap - 256 * i)) ∧ w' = W := by
  have hf := h.ok.few
  obtain ⟨n, hn⟩ : ∃ n, n = 256 * m.safe.length := ⟨_, rfl⟩
  obtain ⟨p, hp⟩ : ∃ p, p = 256 * i := ⟨_, rfl⟩
  rw [← hn] at hW hc
  rw [← hp]
  have hm : cap ≤ maxLen := by
    rcases h.srow.2 with ⟨e, _⟩ | ⟨g', cap', cur, e, _, _, h3, h4, _⟩
    · cases e
    · injection e with e1 e2 e3
      omega
  obtain ⟨c, hc'⟩ : ∃ c, c = cap - p := ⟨_, rfl⟩
  have hel : Try.prog.elem 22 = 5 := by simp [Program.elem, Try.underlying22]
  have s1 : (Instr.slice 22 (.slice (some ⟨sb, 0, none⟩) n cap) (some (.int .i64 (p : Int))) none none).run Try.prog W = .ok (.slice (some ⟨sb, p, none⟩) (n - p) c) W := by
    have hr : (Instr.slice 22 (.slice (some ⟨sb, 0, none⟩) n cap) (some (.int .i64 (p : Int))) none none).run Try.prog W = .ok (sliced (some ⟨sb, 0, none⟩) p n cap 1) W := by
      rw [run_slice_l W 22 (some ⟨sb, 0, none⟩) n cap (by rw [hel]; exact Try.underlying22) .i64 (p : Int) (by omega) (by omega), hel, Try.sizeOf5]
      simp
    rw [hr, sliced, if_neg (by omega), hc']
    simp [Addr.add]
    omega
  have t1 : wrap64 ((i : Int) * 256) = (p : Int) := by unfold wrap64; omega
  have t2 : (256 : Int) ≤ (c : Int) := by omega
  rw [← hc']
  clear h hf hn hp hm hc hi hc'
  go_enter Try.func40, Try.ntmps40
  go_wp2
  go_ret
  exact ⟨rfl, rfl⟩

set_option maxRecDepth 100000 in
set_option maxHeartbeats 4000000 in
theorem lay9_any {T : Nat → Prop} {w : World} {g : Nat} {sv wv : Value} {dvs : List Value} {m : M.Dsk} (h : DkAt T w g sv wv dvs m) (i : Nat) (hi : i < m.safe.length) (dv : Value) (bs : List UInt8) (hd : IsB w dv bs) (hl : bs.length = 256) :
    Calls Try.prog 37 #[.pointer (some ⟨g, 0, none⟩), .agg #[.int .i64 (i : Int), dv]] w fun e w' => e = .returned (.tuple #[]) ∧ DkAt T w' g sv wv dvs { m with safe := m.safe.set i bs } ∧ Chg (fun k => sv.ownBlock = some k) w w' := by
  have hf := h.ok.few
  obtain ⟨sb, cap, cur, es, _, hb, h1, h2, h3, h4⟩ := h.srow.blk9 (by rw [h.flat]; omega)
  rw [h.flat] at es h1 h4
  subst es
  have H := Lib.hid h
  obtain ⟨W, hW⟩ : ∃ W, Hid (W = w.alloc (.cells #[.int .i64 (i : Int), dv] 64)) := ⟨_, rfl⟩
  have kW : Below w.heap.size w W := by rw [hW.out]; exact (Below.refl _ _).alloc (Nat.le_refl _) _
  obtain ⟨x, hx⟩ : ∃ x, x = w.heap.size := ⟨_, rfl⟩
  have B1 : Blk W x 64 [.int .i64 (i : Int), dv] := by rw [hW.out]; exact Blk.newAt _ _ _ _ _ hx rfl
  have HWW := h.below kW
  have c0 : W.drew.cell? ⟨g, 0, none⟩ = some (.slice (some ⟨sb, 0, none⟩) (256 * m.safe.length) cap) := HWW.blk.cell 0
  have x0 : W.drew.cell? ⟨x, 0, none⟩ = some (.int .i64 (i : Int)) := B1.cell 0
  have x1 : W.drew.cell? ⟨x, 1, none⟩ = some dv := B1.cell 1
  have CP := place9_any HWW h1 i hi W.drew c0
  obtain ⟨da, dc, hdd⟩ := hd.shape
  rw [hl] at hdd
  obtain ⟨db, doff, rfl, hcell⟩ : ∃ b off, da = some ⟨b, off, none⟩ ∧ ∀ j, j < bs.length → w.cell? ⟨b, off + j, none⟩ = some (.int .u8 ((bs.getD j 0).toNat : Int)) := by
    obtain ⟨ao, cap', e, _, _, hat⟩ := hd
    rw [e] at hdd
    injection hdd with e1 e2 e3
    rcases hat with hat | ⟨b, off, e4, hc⟩
    · rw [hat] at hl; cases hl
    · exact ⟨b, off, by rw [← e1, e4], hc⟩
  subst hdd
  have HSRC : Hid (∀ j v, (Lib.byteCells bs)[j]? = some v → W.drew.cell? (Addr.add ⟨db, doff, none⟩ j) = some v) := by
    intro j v hj
    have hj2 : j < bs.length := by
      have := (List.getElem?_eq_some_iff.1 hj).1
      rwa [byteCells_length] at this
    rw [Addr.add_lit, ← hj, byteCells_getElem? _ _ hj2, ← hcell j hj2]
    exact kW.cell (p := ⟨db, doff + j, none⟩) (World.block_lt_of_cell? w _ (hcell j hj2))
  have HB : Hid (Blk W.drew sb 5 cur) := (hb.below kW hb.lt).drew
  have HL := Lib.hid hl
  have H1 := Lib.hid h1
  have H2 := Lib.hid h2
  have H3 := Lib.hid h3
  have H4 := Lib.hid h4
  have HI := Lib.hid hi
  have KW := Lib.hid kW
  have HR := Lib.hid HWW
  clear h hf hb h1 h2 h3 h4 kW B1 hd hcell hl hi HWW
  go_enter Try.func37, Try.ntmps37
  go_upto_region 1 with fail
  rw [← hW.out, ← hx]
  clear hW hx
  refine wp_region_still 6 (by kernel_rfl) (by kernel_rfl) ?_
  simp only [List.take_succ_cons, List.take_zero, List.drop_succ_cons, List.drop_zero]
  repeat (first | still_step | still_call CP)
  refine wpStill_nil ?_
  refine wpList_copy_blk rfl (.tmp 7) (.tmp 9) 22 22 rfl 5 Try.underlying22 (by kernel_rfl) (some ⟨sb, 256 * i, none⟩) (some ⟨db, doff, none⟩) 256 (cap - 256 * i) 256 dc rfl rfl sb (256 * i) cur 5 HB.out (Lib.byteCells bs) (by rw [byteCells_length, HL.out]; rfl) (fun _ => ⟨rfl, _, rfl, HSRC.out⟩) (by rw [byteCells_length, HL.out]; have := HI.out; have := H1.out; have := H3.out; omega) (byteCells_oneCell _) ?_
  intro w2 hb2 ho2
  have e2 := splice_row (cur := cur) (bs := m.safe.flatten) (xs := bs) (o := 256 * i) (by rw [H.out.flat]; exact H4.out) (by rw [HL.out, H.out.flat]; have := HI.out; omega) (by rw [H.out.flat]; have := H1.out; have := H3.out; omega)
  rw [HL.out, ← M.flat_set m.safe i bs H.out.ok.full HI.out] at e2
  have hfs : (m.safe.set i bs).flatten.length = 256 * m.safe.length := by
    rw [flat_length _ (fun c hc => by
      rcases List.mem_or_eq_of_mem_set hc with hc | hc
      · exact H.out.ok.full c hc
      · exact hc ▸ HL.out), List.length_set]
  have o2 : Own w2 0 (.slice (some ⟨sb, 0, none⟩) (256 * m.safe.length) cap) (m.safe.set i bs).flatten := by
    rw [← hfs]
    refine Own.of_blk9 (Nat.zero_le _) hb2 (by rw [hfs]; exact H1.out) H2.out ?_ (by rw [hfs, ← H.out.flat]; exact e2)
    rw [splice, List.length_append, List.length_append, List.length_take, List.length_drop, byteCells_length, HL.out]
    have := HI.out; have := H1.out; have := H3.out; omega
  have k2 : Chg (fun k => (Value.slice (some ⟨sb, 0, none⟩) (256 * m.safe.length) cap).ownBlock = some k) W w2 := (Chg.refl _ W).drew.trans (Chg.of_grown (F := fun k => (Value.slice (some ⟨sb, 0, none⟩) (256 * m.safe.length) cap).ownBlock = some k) ho2 fun k e => e) fun _ _ h => h
  have R2 := Lib.hid (HR.out.lay (m.safe.set i bs) k2 o2 (by simp) (fun c hc => by
      rcases List.mem_or_eq_of_mem_set hc with hc | hc
      · exact H.out.ok.full c hc
      · exact hc ▸ HL.out))
  have K2 : Hid (Chg (fun k => (Value.slice (some ⟨sb, 0, none⟩) (256 * m.safe.length) cap).ownBlock = some k) w w2) := (Chg.of_below KW.out).trans k2 fun _ _ h => h
  clear hb2 ho2 e2 hfs o2 k2 HSRC HB HL H1 H2 H3 H4 HI KW HR
  go_wp2
  go_end0
  exact ⟨rfl, R2.out, K2.out⟩

end Go.Proofs.Ythmamdlhgfkckaa
