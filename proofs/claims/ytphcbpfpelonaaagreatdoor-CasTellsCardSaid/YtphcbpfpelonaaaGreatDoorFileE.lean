/-
  CONTRACT OF package file's table.bytes: what tells of the files. Conditions: as each says.
-/
import Derived.Test.YtphcbpfpelonaaaGreatDoorPfR
import Derived.Test.YtphcbpfpelonaaaGreatDoorPf20
import Derived.Lib.BufferWrite
namespace Go.Proofs.YtphcbpfpelonaaaGreatDoor
open Go.RowKit Go.Maps
set_option linter.unusedVariables false
set_option maxRecDepth 100000

theorem Hd.set {w : World} {g cap i : Nat} {bs : List UInt8} (h : Hd w g cap bs) (hi : i < bs.length) (x : UInt8) : Hd (w.setCell ⟨g, i, none⟩ (.int .u8 (x.toNat : Int))) g cap (bs.set i x) := by
  obtain ⟨cur, hb, h1, h2, h3, h4⟩ := h
  refine ⟨_, hb.set_ i _, by rw [List.length_set, h1], by rw [List.length_set]; exact h2, h3, ?_⟩
  rw [List.length_set, List.take_set, h4]
  simp [Lib.byteCells, List.map_set]

theorem Hd.cell {w : World} {g cap i : Nat} {bs : List UInt8} (h : Hd w g cap bs) (hi : i < bs.length) : w.cell? ⟨g, i, none⟩ = some (.int .u8 ((bs.getD i 0).toNat : Int)) := by
  obtain ⟨cur, hb, h1, h2, h3, h4⟩ := h
  rw [hb.cell]
  have e : cur[i]? = (cur.take bs.length)[i]? := by rw [List.getElem?_take, if_pos hi]
  rw [e, h4, byteCells_getElem? _ _ hi]

theorem Hd.frozen {w : World} {g cap : Nat} {bs : List UInt8} (h : Hd w g cap bs) (i : Nat) : w.frozen? ⟨g, i, none⟩ = false := by
  obtain ⟨cur, hb, _⟩ := h
  exact hb.frozen i

theorem Hd.isB {w : World} {g cap : Nat} {bs : List UInt8} (h : Hd w g cap bs) : IsB w (.slice (some ⟨g, 0, none⟩) bs.length cap) bs := (h.own (Nat.zero_le _)).isB

/-- 'copy(row[o:], s)' of a text. -/
theorem Hd.copyStr {w : World} {g cap o dLen dCap : Nat} {bs : List UInt8} (h : Hd w g cap bs) (s : List UInt8) (hle : s.length ≤ dLen) (ho : o + s.length ≤ bs.length) (ty : TypeId) :
    ∃ w', (Builtin.copy_ #[38, 9] ty #[.slice (some ⟨g, o, none⟩) dLen dCap, .string ⟨s.toArray⟩]).run Tryz.prog w = .ok (goInt s.length) w' ∧ Hd w' g cap (M.lay11 bs o s) ∧ Only g w w' := by
  obtain ⟨cur, hb, h1, h2, h3, h4⟩ := h
  have hrun := Lib.run_copy_row_string (P := Tryz.prog) w 38 9 ty 5 g o dLen dCap ⟨s.toArray⟩ cur.toArray 5 Tryz.underlying38 (by kernel_rfl) hb (by simpa [ByteArray.size] using hle) (by simp [ByteArray.size]; omega)
  refine ⟨_, hrun, ?_, ⟨rfl, rfl, rfl, by simp, fun k _ hne => setRow_other w g k _ (fun e => hne (by rw [e]))⟩⟩
  refine Hd.lay h1 h2 h3 h4 ho ?_
  have hs := setRow_heap w g cur.toArray (cur.toArray.toList.take o ++ Lib.byteCells (⟨s.toArray⟩ : ByteArray).data.toList ++ cur.toArray.toList.drop (o + (⟨s.toArray⟩ : ByteArray).size)).toArray 5 (0, 0) hb
  show _ = _
  rw [hs]
  congr 2
  simp [splice, ByteArray.size, byteCells_length]

theorem M.rows11_snoc : ∀ (t : M.Tab) (i : Nat) (p : M.Pl) (l : List UInt8), M.rows11 (t ++ [p]) i l = M.row11 (i + t.length) p (M.rows11 t i l)
  | [], i, p, l => rfl
  | q :: r, i, p, l => by
    show M.rows11 (r ++ [p]) (i + 1) _ = _
    rw [M.rows11_snoc r (i + 1) p, List.length_cons, show i + 1 + r.length = i + (r.length + 1) by omega]
    rfl

theorem M.rows11_next (t : M.Tab) (k : Nat) (hk : k < t.length) (l : List UInt8) : M.rows11 (t.take (k + 1)) 0 l = M.row11 k (t.getD k default) (M.rows11 (t.take k) 0 l) := by
  rw [List.take_succ_eq_append_getElem hk, M.rows11_snoc, List.length_take, Nat.min_eq_left (Nat.le_of_lt hk), Nat.zero_add, List.getD_eq_getElem?_getD, List.getElem?_eq_getElem hk]
  rfl

theorem M.marks_next (i : Nat) (bs : List Nat) (q : Nat) (hq : q < bs.length) (l : List UInt8) : M.marks i (bs.take (q + 1)) l = (M.marks i (bs.take q) l).set (2912 + bs.getD q 0) (UInt8.ofNat (i + 1)) := by
  rw [List.take_succ_eq_append_getElem hq, M.marks, List.foldl_append, List.getD_eq_getElem?_getD, List.getElem?_eq_getElem hq]
  rfl

theorem u8_of (n : Nat) (h : n < 256) : IntKind.u8.wrap (n : Int) = (n : Int) := by
  simp [IntKind.wrap, IntKind.signed, IntKind.bits]
  omega

theorem u8_nat (n : Nat) (h : n < 256) : ((UInt8.ofNat n).toNat : Int) = (n : Int) := by rw [UInt8.toNat_ofNat']; omega

theorem run_field_sz (w : World) (s : Int) (v : Value) : (Instr.field 110 (.agg #[.int .i64 s, v]) 0).run Tryz.prog w = .ok (.int .i64 s) w := by
  simp [Instr.field, run_underlying Tryz.underlying110, go_sem, part, isAgg, asAgg, run_underlying Tryz.underlying3]

theorem run_field_bs (w : World) (s : Int) (v : Value) : (Instr.field 110 (.agg #[.int .i64 s, v]) 1).run Tryz.prog w = .ok v w := by
  simp [Instr.field, run_underlying Tryz.underlying110, go_sem, part, isAgg, asAgg, run_underlying Tryz.underlying108]

/-- What bytes asks of a table. -/
structure TabFits (t : M.Tab) : Prop where
  few : t.length ≤ 64
  nm : ∀ p ∈ t, p.nm.length ≤ 40
  sz : ∀ p ∈ t, p.sz < 4294967296
  lt : ∀ p ∈ t, ∀ b ∈ p.bs, b < 2048
  len : ∀ p ∈ t, p.bs.length ≤ 2048

set_option maxHeartbeats 16000000 in
theorem tbytes_any {w : World} {b : Nat} {t : M.Tab} {vs : List Value} (h : IsTabV w b t vs) (hf : TabFits t) (hL : Laid w) :
    Calls Tryz.prog 81 #[.map (some b)] w (Makes w (M.tbytes t)) := by
  obtain ⟨ZC, hZC⟩ := make_run 8192 (by decide)
  have hmk : ∀ w : World, (Instr.makeSlice 38 (.int .i64 8192) (.int .i64 8192)).run Tryz.prog w = .ok (.slice (some ⟨w.heap.size, 0, none⟩) 8192 8192) (w.alloc (.cells ZC 5)) := fun w => (hZC w).1
  obtain ⟨W, hW⟩ : ∃ x, Hid (x = w.alloc (.cells ZC 5)) := ⟨_, rfl⟩
  obtain ⟨mg, hmg⟩ : ∃ x, Hid (x = w.heap.size) := ⟨_, rfl⟩
  have KW : Hid (Below w.heap.size w W) := by rw [hW.out]; exact (Below.refl _ _).alloc (Nat.le_refl _) _
  have HD0 : Hid (Hd W mg 8192 M.zeroMeta) := by
    obtain ⟨g, cap, e, _, _, hd⟩ := ((hZC w).2).hd (by rw [List.length_replicate]; decide)
    injection e with e1 e2 e3
    injection e1 with e1
    injection e1 with e1
    rw [hW.out, hmg.out, e1]
    rw [← e3] at hd
    exact hd
  have HMG : Hid (w.heap.size ≤ mg) := by rw [hmg.out]; exact Nat.le_refl _
  have lenE := (h.below KW.out).lenM
  obtain ⟨n, hn⟩ : ∃ n, n = t.length := ⟨_, rfl⟩
  have HN : Hid (t.length = n) := hn.symm
  have HT := Lib.hid (h.below KW.out)
  have HT0 := Lib.hid h
  have HF := Lib.hid hf
  have HLA := Lib.hid (hL.below KW.out hL.size)
  have HL2 := Lib.hid hL
  rw [← hn] at lenE
  clear hZC h hf hL
  by_cases h0 : n = 0
  · have e0 : M.tbytes t = M.zeroMeta := by rw [M.tbytes, if_pos (List.eq_nil_of_length_eq_zero (by rw [HN.out]; exact h0))]
    have t0 : (((n : Int)) == 0) = true := by rw [h0]; rfl
    have t1 : ((n : Int)) = 0 := by rw [h0]; rfl
    rw [e0]
    clear e0 hn h0
    go_enter Tryz.func81, Tryz.ntmps81
    go_upto_region 2 with fail
    rw [← hW.out, ← hmg.out]
    clear hW hmg
    go_wp2
    go_ret
    refine ⟨_, rfl, ?_, KW.out⟩
    have := HD0.out.own HMG.out
    rw [M.zeroMeta_length] at this
    exact this
  · have e0 : M.tbytes t = M.lay11 (M.rows11 t 0 M.zeroMeta) 0 (M.sha ((M.rows11 t 0 M.zeroMeta).drop 32)) := by rw [M.tbytes, if_neg (fun e => h0 (by rw [← HN.out, e]; rfl))]
    have t0 : (((n : Int)) == 0) = false := by simpa using h0
    have t1 : ¬ ((n : Int)) = 0 := by omega
    rw [e0]
    clear e0 hn h0
    go_enter Tryz.func81, Tryz.ntmps81
    go_upto_region 2 with fail
    rw [← hW.out, ← hmg.out]
    clear hW hmg
    go_wp2_with fail
    refine (tnames_any HT.out (by have := HF.out.few; omega)).mono ?_
    rintro e w1 ⟨nv, rfl, on, k1⟩
    obtain ⟨ng, nc, rfl, hng, hcn⟩ : ∃ g c, nv = .slice (some ⟨g, 0, none⟩) n c ∧ W.heap.size ≤ g ∧ ∀ i, i < n → w1.cell? ⟨g, i, none⟩ = some (.string ⟨(t.getD i default).nm.toArray⟩) := by
      rcases on.2 with ⟨_, hn0⟩ | ⟨g, cap, cur, rfl, hb, hg, hn1, hm, hs, ht⟩
      · rw [List.length_map, HN.out] at hn0; omega
      · refine ⟨g, cap, by rw [List.length_map, HN.out], hb, fun i hi => ?_⟩
        have h' : w1.ownsRow W.heap.size 9 1 (.slice (some ⟨g, 0, none⟩) (t.map M.Pl.nm).length cap) (t.map M.Pl.nm).length ((t.map M.Pl.nm).map encStr) := ⟨on.1, .inr ⟨g, cap, cur, rfl, hb, hg, hn1, hm, hs, ht⟩⟩
        have := h'.cellAt i (by rw [List.length_map, HN.out]; omega)
        rw [this]
        have hi2 : i < t.length := by rw [HN.out]; exact hi
        simp [List.getD_eq_getElem?_getD, hi2, encStr]
    have HCN := Lib.hid hcn
    have HD1 := Lib.hid (HD0.out.below k1)
    have K1 : Hid (Below W.heap.size W w1) := k1
    have HNG : Hid (ng ≠ mg) := by have := HD0.out.lt; rw [Hid]; omega
    clear on k1 hcn hng HD0 lenE t0 t1
    go_wp2
    go_loopw [4, 5, 6, 17] (fun _ _ _ i wr => ∃ k : Nat, i = .int .i64 (k : Int) ∧ Hid (k ≤ n) ∧ Hid (Hd wr mg 8192 (M.rows11 (t.take k) 0 M.zeroMeta)) ∧ Hid (w1.grownBy wr (some mg)))
      (fun _ _ _ i _ => n - numOf i)
    case atStart => exact ⟨0, rfl, Nat.zero_le _, by rw [List.take_zero]; exact HD1.out, World.grownBy.refl _ _⟩
    case round =>
      clear HD1
      obtain ⟨wz, rfl⟩ : ∃ x, x = wr := ⟨_, rfl⟩
      obtain ⟨k, rfl, hk, hd, hg⟩ := hrel
      by_cases hlt : k < n
      · have b1 : (k : Int) < (n : Int) := by omega
        have hkt : k < t.length := by rw [HN.out]; exact hlt
        have hk64 : k < 64 := by have := HF.out.few; have := HN.out; omega
        obtain ⟨p, hp⟩ : ∃ p, p = t.getD k default := ⟨_, rfl⟩
        have hmem : p ∈ t := by rw [hp, List.getD_eq_getElem?_getD, List.getElem?_eq_getElem hkt]; exact List.getElem_mem _
        obtain ⟨M0, hM0⟩ : ∃ x, x = M.rows11 (t.take k) 0 M.zeroMeta := ⟨_, rfl⟩
        have HM0L : Hid (M0.length = 8192) := by
          rw [hM0]
          exact M.rows11_length _ _ _ M.zeroMeta_length (by rw [List.length_take]; omega) fun q hq => HF.out.nm q (List.mem_of_mem_take hq)
        have HNX : Hid (M.rows11 (t.take (k + 1)) 0 M.zeroMeta = M.row11 k p M0) := by rw [Hid, M.rows11_next t k hkt, ← hp, ← hM0]
        rw [← hM0] at hd
        have hc0 := HCN.out k hlt
        rw [← hp] at hc0
        have hngl := World.block_lt_of_cell? w1 _ hc0
        have c0 : wz.cell? ⟨ng, k, none⟩ = some (.string ⟨p.nm.toArray⟩) := hg.out.cell hc0 (by have := HNG.out; intro e; injection e with e; exact this e)
        have HPM := Lib.hid hmem
        have HP40 := Lib.hid (HF.out.nm p hmem)
        have HK := Lib.hid hlt
        have HK64 := Lib.hid hk64
        have g2 : (0 : Int) ≤ (k : Int) := Int.natCast_nonneg k
        have g3 : ((k : Int)).toNat = k := Int.toNat_natCast k
        have HPE := Lib.hid hp
        obtain ⟨nm, hnm⟩ : ∃ s : ByteArray, s = ⟨p.nm.toArray⟩ := ⟨_, rfl⟩
        rw [← hnm] at c0
        have HNM := Lib.hid hnm
        have e45 : ¬ 8192 = 32 + k * 45 := by omega
        clear hc0 hmem hkt hp hM0 hngl hnm
        go_upto_region 8 with fail
        obtain ⟨r, hr⟩ : ∃ r, r = 32 + k * 45 := ⟨_, rfl⟩
        rw [← hr]
        have HR : Hid (r = M.rowAt k) := by rw [Hid, M.rowAt]; omega
        have hr2 : r ≤ 2867 := by omega
        have HR2 := Lib.hid hr2
        obtain ⟨q, hq⟩ : ∃ q, q = p.nm.length := ⟨_, rfl⟩
        have hsz : nm.size = q := by rw [HNM.out, hq]; rfl
        have hq40 : q ≤ 40 := by rw [hq]; exact HP40.out
        have HQ := Lib.hid hq
        have HQ40 := Lib.hid hq40
        have w8 := u8_of q (by omega)
        have c1 := hd.out.cell (i := r) (by rw [HM0L.out]; omega)
        have f1 := hd.out.frozen r
        clear hr hq
        go_upto_region 9 with fail
        have e8 : (Value.int .u8 (q : Int)) = .int .u8 ((UInt8.ofNat q).toNat : Int) := by rw [u8_nat q (by have := HQ40.out; omega)]
        rw [e8]
        obtain ⟨w2, hw2⟩ : ∃ x, Hid (x = wz.setCell ⟨mg, r, none⟩ (.int .u8 ((UInt8.ofNat q).toNat : Int))) := ⟨_, rfl⟩
        rw [← hw2.out]
        have HD2 : Hid (Hd w2 mg 8192 (M0.set r (UInt8.ofNat q))) := by rw [hw2.out]; exact hd.out.set (by rw [HM0L.out]; have := HR2.out; omega) _
        have G2 : Hid (w1.grownBy w2 (some mg)) := by rw [hw2.out]; exact Only.setCell hg.out (.inl rfl) _
        clear hw2 hd hg c1 f1 e8
        have e1 : ¬ 8192 - r = 1 := by omega
        obtain ⟨w3, hcp, hd3, o3⟩ := HD2.out.copyStr (o := r + 1) (dLen := 8192 - r - 1) (dCap := 8192 - r - 1) p.nm (by rw [← HQ.out]; omega) (by rw [← HQ.out, List.length_set, HM0L.out]; omega) 3
        rw [← HNM.out] at hcp
        have HD3 := Lib.hid hd3
        have G3 : Hid (w1.grownBy w3 (some mg)) := Only.trans G2.out o3
        have KZ3 : Hid (Below w.heap.size w w3) := (KW.out.trans (K1.out.mono KW.out.size)).grown G3.out (Nat.le_trans KW.out.size K1.out.size) fun j hj => by injection hj with hj; rw [← hj]; exact HMG.out
        have hkt : k < t.length := by rw [HN.out]; exact HK.out
        have IB := HT0.out.each k hkt
        rw [← HPE.out] at IB
        obtain ⟨sa, sc, esv⟩ := IB.shape
        obtain ⟨bn, hbn⟩ : ∃ z, z = p.bs.length := ⟨_, rfl⟩
        rw [← hbn] at esv
        have IBH : Hid (IsI w (.slice sa bn sc) p.bs) := by rw [← esv]; exact IB
        have HLK : Hid (∀ y, Below w.heap.size w y → (Instr.lookup 68 (.map (some b)) (.string nm) false).run Tryz.prog y = .ok (.agg #[.int .i64 (p.sz : Int), .slice sa bn sc]) y) := fun y ky => by
          have := (HT0.out.below ky).look (fun q hq => by have := HF.out.nm q hq; unfold maxLen; omega) k hkt
          rw [← HPE.out, ← HNM.out, plV, esv] at this
          exact this
        obtain ⟨sz, hs⟩ : ∃ z, z = p.sz := ⟨_, rfl⟩
        rw [← hs] at HLK
        have hszl : sz < 4294967296 := by rw [hs]; exact HF.out.sz p HPM.out
        have HSZ := Lib.hid hs
        have HSL := Lib.hid hszl
        have HBN := Lib.hid hbn
        clear IB esv hs hbn hd3 o3 hkt
        go_upto_region 10 with fail
        have HG3 := Lib.hid (hcp)
        clear hcp HG3 hszl
        have e2 : ¬ 8192 - r = 41 := by have := HR2.out; omega
        have e3 : IntKind.u32.wrap (sz : Int) = (sz : Int) := by have := u32_of (sz : Int) ⟨by omega, by have := HSL.out; omega⟩; rwa [Int.toNat_natCast] at this
        have E2 := Lib.hid e2
        have E3 := Lib.hid e3
        clear e2 e3 e1 w8
        refine wp_region_any (by kernel_rfl) ?_
        change wpAny _ _ _ _ _ _ _ (World.drew _)
        refine wpAny_of_held (S := fun w' => (Instr.lookup 68 (.map (some b)) (.string nm) false).run Tryz.prog w' = .ok (.agg #[.int .i64 (sz : Int), .slice sa bn sc]) w') _ _ _ _ ?_
        have S0 : (Instr.lookup 68 (.map (some b)) (.string nm) false).run Tryz.prog w3.drew = .ok (.agg #[.int .i64 (sz : Int), .slice sa bn sc]) w3.drew := HLK.out _ (drewN_below KZ3.out 1)
        refine wpAnyH_take_at (i := 0) (v := .slice (some ⟨mg, r, none⟩) (8192 - r) (8192 - r)) rfl rfl (by kernel_rfl) (by kernel_rfl) (by kernel_rfl) (fun _ _ _ h => h) (Or.inl ⟨by rfl, fun w hS => by go_simp⟩) S0 ?_
        simp only [List.setIfInBounds_toArray, List.set_cons_zero, List.set_cons_succ]
        refine wpAnyH_take_at (i := 1) (v := .slice (some ⟨mg, r + 41, none⟩) (8192 - r - 41) (8192 - r - 41)) rfl rfl (by kernel_rfl) (by kernel_rfl) (by kernel_rfl) (fun _ _ _ h => h) (Or.inl ⟨by rfl, fun w hS => by have e := E2.out; have e4 := HR2.out; have e5 : ¬ (((8192 - r : Nat)) : Int) < 41 := (by omega); go_simp⟩) S0 ?_
        simp only [List.setIfInBounds_toArray, List.set_cons_zero, List.set_cons_succ]
        refine wpAnyH_take_at (i := 2) (v := .map (some b)) rfl rfl (by kernel_rfl) (by kernel_rfl) (by kernel_rfl) (fun _ _ _ h => h) (Or.inl ⟨by rfl, fun w hS => by go_simp⟩) S0 ?_
        simp only [List.setIfInBounds_toArray, List.set_cons_zero, List.set_cons_succ]
        refine wpAnyH_take_at (i := 3) (v := .string nm) rfl rfl (by kernel_rfl) (by kernel_rfl) (by kernel_rfl) (fun _ _ _ h => h) (Or.inl ⟨by rfl, fun w hS => by go_simp⟩) S0 ?_
        simp only [List.setIfInBounds_toArray, List.set_cons_zero, List.set_cons_succ]
        refine wpAnyH_take_at (i := 4) (v := .agg #[.int .i64 (sz : Int), .slice sa bn sc]) rfl rfl (by kernel_rfl) (by kernel_rfl) (by kernel_rfl) (fun _ _ _ h => h) (Or.inl ⟨by rfl, fun w hS => by have c := hS; go_simp⟩) S0 ?_
        simp only [List.setIfInBounds_toArray, List.set_cons_zero, List.set_cons_succ]
        refine wpAnyH_take_at (i := 5) (v := .int .i64 (sz : Int)) rfl rfl (by kernel_rfl) (by kernel_rfl) (by kernel_rfl) (fun _ _ _ h => h) (Or.inl ⟨by rfl, fun w hS => by have e := run_field_sz w (sz : Int) (.slice sa bn sc); go_simp⟩) S0 ?_
        simp only [List.setIfInBounds_toArray, List.set_cons_zero, List.set_cons_succ]
        refine wpAnyH_take_at (i := 6) (v := .int .u32 (sz : Int)) rfl rfl (by kernel_rfl) (by kernel_rfl) (by kernel_rfl) (fun _ _ _ h => h) (Or.inl ⟨by rfl, fun w hS => by have e := E3.out; go_simp⟩) S0 ?_
        simp only [List.setIfInBounds_toArray, List.set_cons_zero, List.set_cons_succ]
        refine wpAnyH_ready (rs := [7]) (by kernel_rfl) (by simp) ?_
        refine AllReadyH.cons rfl (fun K hK => ?_) AllReadyH.nil
        go_simp
        refine (put32_any sz w3.drew (by have := HSL.out; omega)).mono ?_
        rintro e w5 ⟨pv, rfl, o5, k5⟩
        obtain ⟨pg, pc, rfl, hpg⟩ := o5.shape (by rw [M.le_length]; decide)
        have kd : Below w3.heap.size w3 w5 := (drewN_below (Below.refl _ w3) 1).trans k5
        have KZ5 : Hid (Below w.heap.size w w5) := KZ3.out.trans (kd.mono KZ3.out.size)
        refine hK.out _ _ (HLK.out _ KZ5.out) (fun _ => ?_)
        clear hK K S0
        obtain ⟨cur, hb5, c1, c2, c3, c4⟩ := HD3.out.below kd
        have eML : (M.lay11 (M0.set r (UInt8.ofNat q)) (r + 1) p.nm).length = 8192 := by
          rw [M.lay11_length (by rw [← HQ.out, List.length_set, HM0L.out]; have := HR2.out; have := HQ40.out; omega), List.length_set, HM0L.out]
        refine wpAnyH_ready (rs := [8]) (by kernel_rfl) (by simp) ?_
        refine AllReadyH.cons rfl (fun K hK => ?_) AllReadyH.nil
        rw [eML] at c2 c4
        refine step_copy_blk10 rfl (.tmp 37) (.tmp 43) 38 38 rfl 5 Tryz.underlying38 (by kernel_rfl) mg (r + 41) (8192 - r - 41) (8192 - r - 41) ⟨pg, 0, none⟩ (M.le sz 4).length pc rfl rfl cur 5 hb5 (Lib.byteCells (M.le sz 4)) (by rw [byteCells_length, M.le_length]; have := HR2.out; exact (Nat.min_eq_left (by omega)).symm) o5.cells (by rw [byteCells_length, M.le_length]; have := HR2.out; omega) (byteCells_oneCell _) ?_
        intro w6 hb6 ho6
        have hd6 : Hd w6 mg 8192 (M.lay11 (M.lay11 (M0.set r (UInt8.ofNat q)) (r + 1) p.nm) (r + 41) (M.le sz 4)) := Hd.lay c1 (by rw [eML]; exact c2) c3 (by rw [eML]; exact c4) (by rw [eML, M.le_length]; have := HR2.out; omega) hb6
        obtain ⟨M1, hM1⟩ : ∃ x, x = M.lay11 (M.lay11 (M0.set r (UInt8.ofNat q)) (r + 1) p.nm) (r + 41) (M.le sz 4) := ⟨_, rfl⟩
        rw [← hM1] at hd6
        have HROW : Hid (M.row11 k p M0 = M.marks k p.bs M1) := by rw [Hid, hM1, M.row11, ← HQ.out, ← HSZ.out, ← HR.out]
        have HM1L : Hid (M1.length = 8192) := by rw [Hid, hM1, M.lay11_length (by rw [eML, M.le_length]; have := HR2.out; omega), eML]
        have HD6 := Lib.hid hd6
        have G6 : Hid (w1.grownBy w6 (some mg)) := by
          have h1 : Only mg w3 w6 := Only.trans (Only.of_below kd) ho6
          exact Only.trans G3.out h1
        have KZ6 : Hid (Below w.heap.size w w6) := KZ5.out.trans (ho6.below KZ5.out.size HMG.out)
        refine hK.out _ _ (HLK.out _ KZ6.out) (fun _ => ?_)
        clear hK K hd6 hb6 ho6 c1 c2 c3 c4 hb5 kd k5 o5 eML hpg HD2 HD3 G2 G3 KZ3 KZ5 hM1 HSZ E2 E3
        refine wpAnyH_done (by kernel_rfl) ?_ _
        have hlk6 := HLK.out _ KZ6.out
        have hfb := fun y => run_field_bs y (sz : Int) (.slice sa bn sc)
        have HBL : Hid (∀ x ∈ p.bs, x < 2048) := HF.out.lt p HPM.out
        have HBS : Hid (bn ≤ 2048) := by rw [HBN.out]; exact HF.out.len p HPM.out
        have wk : IntKind.u8.wrap ((k : Int) + 1) = ((k + 1 : Nat) : Int) := by
          have := u8_of (k + 1) (by have := HK64.out; omega)
          rw [show (((k + 1 : Nat)) : Int) = (k : Int) + 1 by omega] at this
          rw [this]
          omega
        have WK := Lib.hid wk
        clear wk HLK
        go_wp2
        clear hlk6 hfb
        go_loopw [8, 50] (fun _ i wr => ∃ j : Nat, i = .int .i64 (j : Int) ∧ Hid (j ≤ bn) ∧ Hid (Hd wr mg 8192 (M.marks k (p.bs.take j) M1)) ∧ Hid (w6.grownBy wr (some mg)))
          (fun _ i _ => bn - numOf i)
        case atStart => exact ⟨0, rfl, Nat.zero_le _, by rw [List.take_zero]; exact HD6.out, World.grownBy.refl _ _⟩
        case round =>
          clear HD6
          obtain ⟨wq, rfl⟩ : ∃ x, x = wr := ⟨_, rfl⟩
          obtain ⟨j, rfl, hj, hd, hg⟩ := hrel
          by_cases hjl : j < bn
          · have b2 : (j : Int) < (bn : Int) := by omega
            have hj2 : j < p.bs.length := by rw [← HBN.out]; exact hjl
            obtain ⟨ao', cap', ee, i1, i2, i3⟩ := IBH.out
            injection ee with e1 e2 e3
            obtain ⟨ib, io, hib, hcb⟩ := i3.resolve_left (fun e => by rw [e] at hj2; cases hj2)
            rw [← e1] at hib
            subst hib
            have hxc := hcb j hj2
            have hx2 := HBL.out (p.bs.getD j 0) (by rw [List.getD_eq_getElem?_getD, List.getElem?_eq_getElem hj2]; exact List.getElem_mem _)
            obtain ⟨x, hx⟩ : ∃ x, x = p.bs.getD j 0 := ⟨_, rfl⟩
            rw [← hx] at hxc hx2
            have KQ : Below w.heap.size w wq := KZ6.out.grown hg.out KZ6.out.size fun i hi => by injection hi with hi; rw [← hi]; exact HMG.out
            have c1 : wq.cell? ⟨ib, io + j, none⟩ = some (.int .i64 (x : Int)) := (KQ.cell (p := ⟨ib, io + j, none⟩) (World.block_lt_of_cell? w _ hxc)).trans hxc
            have HML : Hid ((M.marks k (p.bs.take j) M1).length = 8192) := by rw [Hid, M.marks_length, HM1L.out]
            have c2 := hd.out.cell (i := 2912 + x) (by rw [HML.out]; omega)
            have f2 := hd.out.frozen (2912 + x)
            obtain ⟨ov, hov⟩ : ∃ v, v = Value.int .u8 (((M.marks k (p.bs.take j) M1).getD (2912 + x) 0).toNat : Int) := ⟨_, rfl⟩
            rw [← hov] at c2
            have hd2 := hd.out.set (i := 2912 + x) (by rw [HML.out]; omega) (UInt8.ofNat (k + 1))
            have HNXQ := Lib.hid (M.marks_next k p.bs j hj2 M1)
            rw [hx, ← HNXQ.out, ← hx] at hd2
            have HD7 : Hid (Hd (wq.setCell ⟨mg, 2912 + x, none⟩ (.int .u8 ((UInt8.ofNat (k + 1)).toNat : Int))) mg 8192 (M.marks k (p.bs.take (j + 1)) M1)) := hd2
            have G7 : Hid (w6.grownBy (wq.setCell ⟨mg, 2912 + x, none⟩ (.int .u8 ((UInt8.ofNat (k + 1)).toNat : Int))) (some mg)) := Only.setCell hg.out (.inl rfl) _
            have g4 : (0 : Int) ≤ (j : Int) := Int.natCast_nonneg j
            have g5 : ((j : Int)).toNat = j := Int.toNat_natCast j
            have g6 : (0 : Int) ≤ (x : Int) := Int.natCast_nonneg x
            have g7 : (x : Int) < 2048 := by omega
            have wk := WK.out
            have e8 : (Value.int .u8 ((k : Int) + 1)) = .int .u8 ((UInt8.ofNat (k + 1)).toNat : Int) := by rw [u8_nat (k + 1) (by have := HK64.out; omega)]; congr 1
            have n3 : wrap64 ((j : Int) + 1) = ((j + 1 : Nat) : Int) := by have := HBS.out; unfold wrap64; omega
            have N3 := Lib.hid n3
            have E8 := Lib.hid e8
            have HJ := Lib.hid hjl
            clear hxc hx2 hx hov hd2 hj2 hjl hcb i1 i2 i3 e1 e2 e3 n3 e8 KQ hd hg
            go_upto_region 15 with fail
            rw [E8.out]
            go_wp2
            go_roundw
            case rel => exact ⟨j + 1, by first | rw [N3.out] | rfl, HJ.out, HD7.out, G7.out⟩
            case measure =>
              first | rw [N3.out] | skip
              exact step_down HJ.out
          · have b2 : ¬ (j : Int) < (bn : Int) := by omega
            obtain rfl : j = bn := by have := hj.out; omega
            have et : p.bs.take j = p.bs := by rw [HBN.out, List.take_length]
            rw [et, ← HROW.out, ← HNX.out] at hd
            have HDN := Lib.hid hd.out
            have GN : Hid (w1.grownBy wq (some mg)) := Only.trans G6.out hg.out
            have n3 : wrap64 ((k : Int) + 1) = ((k + 1 : Nat) : Int) := by have := HK64.out; unfold wrap64; omega
            have N3 := Lib.hid n3
            clear et hd hg n3 hjl
            go_wp2
            go_roundw
            case rel => exact ⟨k + 1, by first | rw [N3.out] | rfl, HK.out, HDN.out, GN.out⟩
            case measure =>
              first | rw [N3.out] | skip
              exact step_down HK.out
      · have b1 : ¬ (k : Int) < (n : Int) := by omega
        obtain rfl : k = n := by have := hk.out; omega
        have et : t.take k = t := by rw [← HN.out, List.take_length]
        rw [et] at hd
        obtain ⟨MM, hMM⟩ : ∃ x, x = M.rows11 t 0 M.zeroMeta := ⟨_, rfl⟩
        rw [← hMM] at hd
        have HMM := Lib.hid hMM
        have HML : Hid (MM.length = 8192) := by rw [hMM]; exact M.rows11_length _ _ _ M.zeroMeta_length (by have := HF.out.few; omega) HF.out.nm
        have hib := hd.out.isB
        rw [HML.out] at hib
        obtain ⟨fa, hfa, ifa⟩ := hib.from10 32 (by decide)
        have efa : fa = some ⟨mg, 32, none⟩ := by
          have h1 := hfa wz
          rw [from_blk10 mg 8192 8192 32 (by decide) (by decide) wz] at h1
          injection h1 with h1 _
          injection h1 with h1 _ _
          exact h1.symm
        subst efa
        have KZ : Hid (Below w.heap.size w wz) := (KW.out.trans (K1.out.mono KW.out.size)).grown hg.out (Nat.le_trans KW.out.size K1.out.size) fun j hj => by injection hj with hj; rw [← hj]; exact HMG.out
        have ifb : IsB wz (.slice (some ⟨mg, 32, none⟩) 8160 8160) (MM.drop 32) := ifa
        have CS := Lib.hid (of_any _ _ wz (HL2.out.below KZ.out HL2.out.size) ifb (by rw [List.length_drop, HML.out]; decide))
        have HDZ := Lib.hid hd.out
        clear et hd hg hib hfa ifa ifb hlt hMM hk
        go_wp2_with fail
        refine CS.out.mono ?_
        rintro e w5 ⟨sv, rfl, o5, k5⟩
        obtain ⟨sg, sc, rfl, hsg⟩ := o5.shape (by rw [M.sha_length]; decide)
        obtain ⟨cur, hb5, c1, c2, c3, c4⟩ := HDZ.out.below k5
        rw [HML.out] at c2 c4
        have KZ5 : Hid (Below w.heap.size w w5) := KZ.out.trans (k5.mono KZ.out.size)
        go_wp2_with (refine wpList_copy_blk rfl (.tmp 63) (.tmp 66) 38 38 rfl 5 Tryz.underlying38 (by kernel_rfl) (some ⟨mg, 0, none⟩) (some ⟨sg, 0, none⟩) 8192 8192 32 sc rfl rfl mg 0 cur 5 hb5 (Lib.byteCells (M.sha (MM.drop 32))) (by rw [byteCells_length, M.sha_length]; rfl) (fun _ => ⟨rfl, _, rfl, by have h := o5.cells; exact h⟩) (by rw [byteCells_length, M.sha_length]; omega) (byteCells_oneCell _) ?_)
        intro w6 hb6 ho6
        have hd6 : Hd w6 mg 8192 (M.lay11 MM 0 (M.sha (MM.drop 32))) := Hd.lay c1 (by rw [HML.out]; exact c2) c3 (by rw [HML.out]; exact c4) (by rw [HML.out, M.sha_length]; decide) hb6
        have hl : (M.lay11 MM 0 (M.sha (MM.drop 32))).length = 8192 := by rw [M.lay11_length (by rw [HML.out, M.sha_length]; decide), HML.out]
        have HD6 := Lib.hid hd6
        have HL6 := Lib.hid hl
        have K6 : Hid (Below w.heap.size w w6) := KZ5.out.trans (ho6.below KZ5.out.size HMG.out)
        clear hd6 hb6 ho6 c1 c2 c3 c4 hb5 k5 o5 hsg hl
        go_wp2
        go_ret
        refine ⟨_, rfl, ?_, K6.out⟩
        have := HD6.out.own HMG.out
        rw [HL6.out, HMM.out] at this
        exact this

end Go.Proofs.YtphcbpfpelonaaaGreatDoor
