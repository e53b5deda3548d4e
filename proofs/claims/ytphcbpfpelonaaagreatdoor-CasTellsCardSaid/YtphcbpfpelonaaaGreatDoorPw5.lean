/-
  CONTRACT OF package wal's headOf: the head that tells of changes; a row of bytes laid into piece by piece (Hd). Conditions: as each says.
  CONTRACT OF package wal's whole: the changes that the journal tells (WholeOk Laid decJ). Conditions: none besides WholeOk's own.
-/
import Derived.Test.YtphcbpfpelonaaaGreatDoorPw2
import Derived.Test.YtphcbpfpelonaaaGreatDoorPf18
import Derived.Test.YtphcbpfpelonaaaGreatDoorPf19
import Derived.Test.YtphcbpfpelonaaaGreatDoorPf2

namespace Go.Proofs.YtphcbpfpelonaaaGreatDoor
open Go.RowKit
set_option linter.unusedVariables false
set_option maxRecDepth 100000

/-- 'copy' into a block that is known, as one step of a region that draws. -/
theorem step_copy_blk10 {P : Program} {w : World} {ops : Array Oper} {o : Oper} {a : Act} {K : Act → World → Prop} {Q : Exit → Act → World → Prop} {E : Prop} (hgd : o.guard = none) (d s : Operand) (dT sT : TypeId)
    (ho : o.op = .call { callee := .builtin .copy, args := #[d, s], argTypes := #[dT, sT] }) (elem : TypeId) (hu : P.underlying dT = some (.slice elem)) (hsz : (P.info? elem).map (·.size) = some 1)
    (g off dLen dCap : Nat) (ad : Addr) (sLen sCap : Nat) (hd : a.eval d = .slice (some ⟨g, off, none⟩) dLen dCap) (hs : a.eval s = .slice (some ad) sLen sCap)
    (cur : List Value) (t : TypeId) (hg : Blk w g t cur) (cs : List Value) (hn : cs.length = Nat.min sLen dLen)
    (hsrc : ∀ j v, cs[j]? = some v → w.cell? (ad.add j) = some v) (hfit : off + cs.length ≤ cur.length) (h1 : ∀ v ∈ cs, v.oneCell' = true)
    (h : ∀ w', Blk w' g t (splice cur off cs) → Only g w w' → K (a.put o.dst (.int .i64 (cs.length : Int))) w') :
    if Region.wanted o (yielded ops a.tmps) = true then Oper.wp P o a w K Q else E := by
  rw [if_pos (by simp [Region.wanted, hgd])]
  have hrun := run_copy_row (P := P) w dT sT o.type elem g off dLen dCap ad sLen sCap cur.toArray t cs hu hsz hg hn hsrc (by simpa using hfit) h1
  unfold Oper.wp
  simp [execOp, ho, resolve, invoke, builtin, hd, hs, hrun, Result.andThen]
  exact h _ (show _ = _ by simpa [splice] using setRow_heap w g _ _ t _ hg) ⟨rfl, rfl, rfl, by simp, fun k _ hne => setRow_other w g k _ (fun e => hne (by rw [e]))⟩

/-- Block g is a row of bytes, bs ahead. -/
def Hd (w : World) (g cap : Nat) (bs : List UInt8) : Prop := ∃ cur, Blk w g 5 cur ∧ cur.length = cap ∧ bs.length ≤ cap ∧ cap ≤ maxLen ∧ cur.take bs.length = Lib.byteCells bs

theorem Hd.below {w w' : World} {g cap : Nat} {bs : List UInt8} (h : Hd w g cap bs) (k : Below w.heap.size w w') : Hd w' g cap bs := by
  obtain ⟨cur, hb, h⟩ := h
  exact ⟨cur, hb.below k hb.lt, h⟩

theorem Hd.lt {w : World} {g cap : Nat} {bs : List UInt8} (h : Hd w g cap bs) : g < w.heap.size := by
  obtain ⟨cur, hb, h⟩ := h
  exact hb.lt

theorem Hd.only {w w' : World} {g g' cap : Nat} {bs : List UInt8} (h : Hd w g cap bs) (k : Only g' w w') (hne : g ≠ g') : Hd w' g cap bs := by
  obtain ⟨cur, hb, h⟩ := h
  exact ⟨cur, hb.grown k (by intro e; injection e with e; exact hne e), h⟩

theorem Hd.own {w : World} {g cap B : Nat} {bs : List UInt8} (h : Hd w g cap bs) (hB : B ≤ g) : Own w B (.slice (some ⟨g, 0, none⟩) bs.length cap) bs := by
  obtain ⟨cur, hb, h1, h2, h3, h4⟩ := h
  exact Own.of_blk9 hB hb h2 h3 h1 h4

theorem Own.hd {w : World} {B : Nat} {v : Value} {bs : List UInt8} (h : Own w B v bs) (hne : 0 < bs.length) : ∃ g cap, v = .slice (some ⟨g, 0, none⟩) bs.length cap ∧ B ≤ g ∧ bs.length ≤ cap ∧ Hd w g cap bs := by
  obtain ⟨g, cap, cur, e, hB, hb, h1, h2, h3, h4⟩ := h.blk9 hne
  exact ⟨g, cap, e, hB, h1, cur, hb, h3, h1, h2, h4⟩

/-- A piece laid into the row. -/
theorem Hd.lay {w' : World} {g cap o : Nat} {bs xs : List UInt8} {cur : List Value} (h3 : cur.length = cap) (h1 : bs.length ≤ cap) (h2 : cap ≤ maxLen) (h4 : cur.take bs.length = Lib.byteCells bs) (ho : o + xs.length ≤ bs.length)
    (hb : Blk w' g 5 (splice cur o (Lib.byteCells xs))) : Hd w' g cap (bs.take o ++ xs ++ bs.drop (o + xs.length)) := by
  have hl : (bs.take o ++ xs ++ bs.drop (o + xs.length)).length = bs.length := by
    rw [List.length_append, List.length_append, List.length_take, List.length_drop]
    omega
  refine ⟨_, hb, ?_, by rw [hl]; exact h1, h2, ?_⟩
  · rw [splice, List.length_append, List.length_append, List.length_take, List.length_drop, byteCells_length]
    omega
  · rw [hl]
    exact splice_row h4 ho (by omega)

theorem IsB.front10 {w : World} {ao : Option Addr} {n cap k : Nat} {bs : List UInt8} (h : IsB w (.slice ao n cap) bs) (hk : k ≤ n) : IsB w (.slice ao k cap) (bs.take k) := by
  obtain ⟨ao', cap', e, h1, h2, h3⟩ := h
  injection e with e1 e2 e3
  subst e1 e2 e3
  refine ⟨_, _, by rw [List.length_take, Nat.min_eq_left hk], by rw [List.length_take]; omega, h2, ?_⟩
  rcases h3 with h | ⟨b, off, rfl, h⟩
  · exact .inl (by rw [h]; simp)
  · refine .inr ⟨b, off, rfl, fun i hi => ?_⟩
    rw [List.length_take] at hi
    rw [h i (by omega), List.getD_eq_getElem?_getD, List.getD_eq_getElem?_getD, List.getElem?_take, if_pos (by omega)]

theorem IsB.from10 {w : World} {ao : Option Addr} {n cap : Nat} {bs : List UInt8} (h : IsB w (.slice ao n cap) bs) (m : Nat) (hm : m ≤ n) : ∃ a, (∀ W : World, (Instr.slice 38 (.slice ao n cap) (some (.int .i64 (m : Int))) none none).run Tryz.prog W = .ok (.slice a (n - m) (cap - m)) W) ∧ IsB w (.slice a (n - m) (cap - m)) (bs.drop m) := by
  refine ⟨if cap = m then ao else ao.map (·.add m), fun W => from9 ao n cap m hm W, ?_⟩
  obtain ⟨ao', cap', e, h1, h2, h3⟩ := h
  injection e with e1 e2 e3
  subst e1 e2 e3
  have hl : (bs.drop m).length = bs.length - m := by rw [List.length_drop]
  refine ⟨_, cap - m, by rw [hl], by rw [hl]; omega, by omega, ?_⟩
  by_cases hc : cap = m
  · exact .inl (List.eq_nil_of_length_eq_zero (by rw [hl]; omega))
  · rw [if_neg hc]
    rcases h3 with h | ⟨b, off, rfl, h⟩
    · exact .inl (by rw [h]; simp)
    · refine .inr ⟨b, off + m, by rw [Option.map_some, Addr.add_lit], fun i hi => ?_⟩
      rw [hl] at hi
      rw [Nat.add_assoc, h (m + i) (by omega)]
      simp [List.getD_eq_getElem?_getD]

/-- 'b[o:]' of a row that starts its block. -/
theorem from_blk10 (g n cap o : Nat) (ho : o < n) (hn : n ≤ cap) (W : World) : (Instr.slice 38 (.slice (some ⟨g, 0, none⟩) n cap) (some (.int .i64 (o : Int))) none none).run Tryz.prog W = .ok (.slice (some ⟨g, o, none⟩) (n - o) (cap - o)) W := by
  rw [from9 _ n cap o (by omega) W, if_neg (by omega), Option.map_some, Addr.add_lit, Nat.zero_add]

theorem u32_of (p : Int) (h : 0 ≤ p ∧ p < 4294967296) : IntKind.u32.wrap p = (p.toNat : Int) := by
  simp [IntKind.wrap, IntKind.signed, IntKind.bits]
  omega

set_option maxHeartbeats 8000000 in
theorem headOf_any (w : World) (hL : Laid w) (lv : Value) (l : M.CL) (xs : List Value) (hl : IsCL w lv l xs) (h40 : l.length ≤ 40) (hd : ∀ c ∈ l, 0 ≤ c.1 ∧ c.1 < 4294967296 ∧ c.2.length = 256) :
    Calls Tryz.prog 102 #[lv] w (Makes w (M.headOf l)) := by
  obtain ⟨ao, cap, rfl⟩ := hl.shape
  obtain ⟨n, hn⟩ : ∃ n, n = l.length := ⟨_, rfl⟩
  rw [← hn] at hl h40 ⊢
  have HN : Hid (l.length = n) := hn.symm
  have HL := Lib.hid hl
  have HD := Lib.hid hd
  have H40 := Lib.hid h40
  have HLA := Lib.hid hL
  clear hl hd hn hL
  go_enter Tryz.func102, Tryz.ntmps102
  go_wp2_with fail
  refine (emptyHead_any w).mono ?_
  rintro e w1 ⟨hv, rfl, o1, k1⟩
  obtain ⟨hb, hc, e1, hB, hcl, hd1⟩ := o1.hd (by rw [M.zero_len]; decide)
  rw [M.zero_len] at e1 hcl
  subst e1
  have HB := Lib.hid hB
  have HCL := Lib.hid hcl
  have HD1 := Lib.hid hd1
  have K1 := Lib.hid k1
  clear o1 hB hd1 k1 hcl
  have w32 : IntKind.u32.wrap (n : Int) = (n : Int) := by simp [IntKind.wrap, IntKind.signed, IntKind.bits]; omega
  go_wp2_with fail
  refine (put32_any n w1 (by omega)).mono ?_
  rintro e w2 ⟨nv, rfl, o2, k2⟩
  obtain ⟨ng, nc, rfl, hng⟩ := o2.shape (by rw [M.le_length]; decide)
  obtain ⟨cur, hb2, c1, c2, c3, c4⟩ := HD1.out.below k2
  rw [M.zero_len] at c2 c4
  rw [M.le_length] at ⊢
  go_wp2_with (refine wpList_copy_blk rfl (.tmp 8) (.tmp 12) 38 38 rfl 5 Tryz.underlying38 (by kernel_rfl) (some ⟨hb, 0, none⟩) (some ⟨ng, 0, none⟩) 256 hc 4 nc rfl rfl hb 0 cur 5 hb2 (Lib.byteCells (M.le n 4)) (by rw [byteCells_length, M.le_length]; rfl) (fun _ => ⟨rfl, _, rfl, by have h := o2.cells; exact h⟩) (by rw [byteCells_length, M.le_length]; omega) (byteCells_oneCell _) ?_)
  intro w3 hb3 ho3
  have hd3 : Hd w3 hb hc (M.hblk l 0) := by
    have h := Hd.lay (bs := M.zero256) (o := 0) c1 (by rw [M.zero_len]; exact c2) c3 (by rw [M.zero_len]; exact c4) (by rw [M.zero_len, M.le_length]; decide) hb3
    have e := M.hblk_first l
    rw [HN.out] at e
    rw [e] at h
    exact h
  have HD3 := Lib.hid hd3
  have K3 : Hid (Below w.heap.size w w3) := (K1.out.trans (k2.mono K1.out.size)).trans (ho3.below (Nat.le_trans K1.out.size k2.size) HB.out)
  clear o2 k2 cur hb2 c1 c2 c3 c4 hb3 ho3 hd3 hng HD1 K1
  go_wp2_with fail
  refine (new_any w3 (HLA.out.below K3.out HLA.out.size)).mono ?_
  rintro e w4 ⟨rfl, h4, k4⟩
  obtain ⟨hg, hhg⟩ : ∃ z, Hid (z = w3.heap.size) := ⟨_, rfl⟩
  rw [← hhg.out] at h4 ⊢
  have H4 := Lib.hid h4
  have HD4 := Lib.hid (HD3.out.below k4)
  have K4 : Hid (Below w.heap.size w w4) := K3.out.trans (k4.mono K3.out.size)
  have HBG : Hid (hb ≠ hg) := by have := HD3.out.lt; have := hhg.out; rw [Hid]; omega
  have HGW : Hid (w.heap.size ≤ hg) := by rw [hhg.out]; exact K3.out.size
  clear h4 k4 HD3 K3 hhg
  go_wp2
  go_loopw [17] (fun i wr => ∃ (k : Nat), i = .int .i64 (k : Int) ∧ Hid (k ≤ n) ∧ Hid (Hd wr hb hc (M.hblk l k)) ∧ Hid (HashIs wr hg (M.hdata (l.take k))) ∧ Hid (Below w.heap.size w wr))
    (fun i _ => n - numOf i)
  case atStart => exact ⟨0, rfl, Nat.zero_le _, HD4.out, H4.out, K4.out⟩
  case round =>
    clear HD4 H4 K4 w32
    obtain ⟨wz, rfl⟩ : ∃ x, x = wr := ⟨_, rfl⟩
    obtain ⟨k, rfl, hk, hd, hh, kk⟩ := hrel
    by_cases hlt : k < n
    · have b1 : (k : Int) < (n : Int) := by omega
      have hjl : k < l.length := by rw [HN.out]; exact hlt
      have cl := HL.out
      obtain ⟨lb, lo, rfl⟩ := cl.caps.2.2.2 (fun e => by rw [e] at hjl; cases hjl)
      have ca := cl.at_ k hjl
      have cr := cl.row_ k hjl
      have hnx := fun c hc => M.hblk_next l k hjl (by rw [HN.out]; exact H40.out) c hc
      have hdx := fun c hc => M.hdata_next l k hjl c hc
      have hmem := HD.out (l.getD k (0, [])) (by rw [List.getD_eq_getElem?_getD, List.getElem?_eq_getElem hjl]; exact List.getElem_mem _)
      obtain ⟨ch, hch⟩ : ∃ p, p = l.getD k (0, []) := ⟨_, rfl⟩
      have HNX := Lib.hid (hnx ch hch)
      have HDX := Lib.hid (hdx ch hch)
      rw [← hch] at hmem ca cr
      obtain ⟨p, y⟩ := ch
      obtain ⟨pn, hpn⟩ : ∃ z : Nat, p = (z : Int) := ⟨p.toNat, by have := hmem.1; simp only at this; omega⟩
      subst hpn
      obtain ⟨xv, hx⟩ : ∃ p, p = xs.getD k undef := ⟨_, rfl⟩
      rw [← hx] at ca cr
      obtain ⟨xa, xc, ex⟩ := cr.1.shape
      have h256 : y.length = 256 := hmem.2.2
      rw [h256] at ex
      subst ex
      have c0 : wz.cell? ⟨lb, lo + k * 2, none⟩ = some (.int .i64 (pn : Int)) := (kk.out.cell (p := ⟨lb, lo + k * 2, none⟩) (World.block_lt_of_cell? w _ ca.1)).trans ca.1
      have c1 : wz.cell? ⟨lb, lo + k * 2 + 1, none⟩ = some (.slice xa 256 xc) := (kk.out.cell (p := ⟨lb, lo + k * 2 + 1, none⟩) (World.block_lt_of_cell? w _ ca.2)).trans ca.2
      have IY : Hid (IsB w (.slice xa 256 xc) y) := cr.1
      obtain ⟨pz, hpz⟩ : ∃ z, Hid (z = wz.heap.size) := ⟨_, rfl⟩
      obtain ⟨wa, hwa⟩ : ∃ z, Hid (z = wz.alloc (.cells #[.int .i64 (pn : Int), .slice xa 256 xc] 146)) := ⟨_, rfl⟩
      have kwa : Below wz.heap.size wz wa := by rw [hwa.out]; exact (Below.refl _ _).alloc (Nat.le_refl _) _
      have bz : Blk wa pz 146 [.int .i64 (pn : Int), .slice xa 256 xc] := by rw [hwa.out]; exact Blk.newAt _ _ _ _ _ hpz.out rfl
      have BZ := Lib.hid bz
      have HDA := Lib.hid (hd.out.below kwa)
      have HHA := Lib.hid (hh.out.below kwa hh.out.lt)
      have KA : Hid (Below w.heap.size w wa) := kk.out.trans (kwa.mono kk.out.size)
      have HPZ : Hid (pz ≠ hb ∧ pz ≠ hg) := by have := hd.out.lt; have := hh.out.lt; have := hpz.out; rw [Hid]; omega
      have HP := Lib.hid hmem
      have HJ := Lib.hid hlt
      have HK40 : Hid (k < 40) := by have := H40.out; rw [Hid]; omega
      have g2 : (0 : Int) ≤ (k : Int) := Int.natCast_nonneg k
      have g3 : ((k : Int)).toNat = k := Int.toNat_natCast k
      clear ca cr hmem hch hx cl hjl hnx hdx kwa hlt bz hd hh kk h256
      go_upto_region 7 with fail
      rw [← hwa.out, ← hpz.out]
      clear hwa hpz c0 c1
      have a1 : IntKind.i64.wrap (1 + (k : Int)) = ((1 + k : Nat) : Int) := by have := HK40.out; exact IntWalk.i64_in _ (by omega)
      have a2 : IntKind.i64.wrap (4 * ((1 + k : Nat) : Int)) = ((4 * (1 + k) : Nat) : Int) := by have := HK40.out; exact IntWalk.i64_in _ (by omega)
      have a3 := from_blk10 hb 256 hc (4 * (1 + k)) (by have := HK40.out; omega) HCL.out
      have a4 : IntKind.u32.wrap (pn : Int) = (pn : Int) := by have := u32_of (pn : Int) ⟨HP.out.1, HP.out.2.1⟩; rwa [Int.toNat_natCast] at this
      obtain ⟨j1, hj1⟩ : ∃ j, j = 1 + k := ⟨_, rfl⟩
      rw [← hj1] at a1 a2 a3
      have HJ1 := Lib.hid hj1
      obtain ⟨j4, hj4⟩ : ∃ j, j = 4 * j1 := ⟨_, rfl⟩
      rw [← hj4] at a2 a3
      have HJ4 := Lib.hid hj4
      have HJ160 : Hid (j4 < 256) := by have := HK40.out; rw [Hid]; omega
      have A1 := Lib.hid a1
      have A2 := Lib.hid a2
      have A3 := Lib.hid a3
      have A4 := Lib.hid a4
      clear hj1 hj4 a1 a2 a3 a4
      refine wp_region_any (by kernel_rfl) ?_
      change wpAny _ _ _ _ _ _ _ (World.drew _)
      refine wpAny_of_held (S := fun w' => w'.cell? ⟨pz, 0, none⟩ = some (.int .i64 (pn : Int))) _ _ _ _ ?_
      have S0 : wa.drew.cell? ⟨pz, 0, none⟩ = some (.int .i64 (pn : Int)) := BZ.out.cell 0
      refine wpAnyH_take_at (i := 0) (v := .slice (some ⟨hb, 0, none⟩) 256 hc) rfl rfl (by kernel_rfl) (by kernel_rfl) (by kernel_rfl) (fun _ _ _ h => h) (Or.inl ⟨by rfl, fun w hS => by go_simp⟩) S0 ?_
      simp only [List.setIfInBounds_toArray, List.set_cons_zero, List.set_cons_succ]
      refine wpAnyH_take_at (i := 1) (v := .int .i64 (k : Int)) rfl rfl (by kernel_rfl) (by kernel_rfl) (by kernel_rfl) (fun _ _ _ h => h) (Or.inl ⟨by rfl, fun w hS => by go_simp⟩) S0 ?_
      simp only [List.setIfInBounds_toArray, List.set_cons_zero, List.set_cons_succ]
      refine wpAnyH_take_at (i := 2) (v := .int .i64 (j1 : Int)) rfl rfl (by kernel_rfl) (by kernel_rfl) (by kernel_rfl) (fun _ _ _ h => h) (Or.inl ⟨by rfl, fun w hS => by have e := A1.out; go_simp⟩) S0 ?_
      simp only [List.setIfInBounds_toArray, List.set_cons_zero, List.set_cons_succ]
      refine wpAnyH_take_at (i := 3) (v := .int .i64 (j4 : Int)) rfl rfl (by kernel_rfl) (by kernel_rfl) (by kernel_rfl) (fun _ _ _ h => h) (Or.inl ⟨by rfl, fun w hS => by have e := A2.out; go_simp⟩) S0 ?_
      simp only [List.setIfInBounds_toArray, List.set_cons_zero, List.set_cons_succ]
      refine wpAnyH_take_at (i := 4) (v := .slice (some ⟨hb, j4, none⟩) (256 - j4) (hc - j4)) rfl rfl (by kernel_rfl) (by kernel_rfl) (by kernel_rfl) (fun _ _ _ h => h) (Or.inl ⟨by rfl, fun w hS => by have e := A3.out; have e2 := HCL.out; have e3 := HJ160.out; have e4 : ¬ hc = j4 := (by omega); go_simp⟩) S0 ?_
      simp only [List.setIfInBounds_toArray, List.set_cons_zero, List.set_cons_succ]
      refine wpAnyH_take_at (i := 5) (v := .pointer (some ⟨pz, 0, none⟩)) rfl rfl (by kernel_rfl) (by kernel_rfl) (by kernel_rfl) (fun _ _ _ h => h) (Or.inl ⟨by rfl, fun w hS => by go_simp⟩) S0 ?_
      simp only [List.setIfInBounds_toArray, List.set_cons_zero, List.set_cons_succ]
      refine wpAnyH_take_at (i := 6) (v := .int .i64 (pn : Int)) rfl rfl (by kernel_rfl) (by kernel_rfl) (by kernel_rfl) (fun _ _ _ h => h) (Or.inl ⟨by rfl, fun w hS => by have c := hS; go_simp⟩) S0 ?_
      simp only [List.setIfInBounds_toArray, List.set_cons_zero, List.set_cons_succ]
      refine wpAnyH_take_at (i := 7) (v := .int .u32 (pn : Int)) rfl rfl (by kernel_rfl) (by kernel_rfl) (by kernel_rfl) (fun _ _ _ h => h) (Or.inl ⟨by rfl, fun w hS => by have e := A4.out; go_simp⟩) S0 ?_
      simp only [List.setIfInBounds_toArray, List.set_cons_zero, List.set_cons_succ]
      refine wpAnyH_ready (rs := [8]) (by kernel_rfl) (by simp) ?_
      refine AllReadyH.cons rfl (fun K hK => ?_) AllReadyH.nil
      go_simp
      refine (put32_any pn wa.drew (by have := HP.out; omega)).mono ?_
      rintro e w5 ⟨pv, rfl, o5, k5⟩
      obtain ⟨pg, pc, rfl, hpg⟩ := o5.shape (by rw [M.le_length]; decide)
      have kd : Below wa.heap.size wa w5 := (drewN_below (Below.refl _ wa) 1).trans k5
      refine hK.out _ _ ((BZ.out.below kd BZ.out.lt).cell 0) (fun _ => ?_)
      clear hK K S0
      obtain ⟨cur, hb5, c1, c2, c3, c4⟩ := HDA.out.below kd
      have e256 : (M.hblk l k).length = 256 := M.hblk_256 l k (by have := HN.out; have := HJ.out; omega) (by have := HN.out; have := H40.out; omega)
      refine wpAnyH_ready (rs := [9]) (by kernel_rfl) (by simp) ?_
      refine AllReadyH.cons rfl (fun K hK => ?_) AllReadyH.nil
      rw [e256] at c2 c4
      refine step_copy_blk10 rfl (.tmp 26) (.tmp 30) 38 38 rfl 5 Tryz.underlying38 (by kernel_rfl) hb j4 (256 - j4) (hc - j4) ⟨pg, 0, none⟩ (M.le pn 4).length pc rfl rfl cur 5 hb5 (Lib.byteCells (M.le pn 4)) (by rw [byteCells_length, M.le_length]; have := HJ4.out; have := HJ1.out; have := HK40.out; exact (Nat.min_eq_left (by omega)).symm) o5.cells (by rw [byteCells_length, M.le_length]; have := HJ4.out; have := HJ1.out; have := HK40.out; omega) (byteCells_oneCell _) ?_
      intro w6 hb6 ho6
      have hd6 : Hd w6 hb hc (M.hblk l (k + 1)) := by
        have h := Hd.lay (bs := M.hblk l k) (o := j4) c1 (by rw [e256]; exact c2) c3 (by rw [e256]; exact c4) (by rw [e256, M.le_length]; have := HJ4.out; have := HJ1.out; have := HK40.out; omega) hb6
        have e : (M.hblk l k).take (4 * (1 + k)) ++ M.le pn 4 ++ (M.hblk l k).drop (4 * (1 + k) + (M.le pn 4).length) = M.hblk l (k + 1) := HNX.out
        rw [← HJ1.out, ← HJ4.out] at e
        rw [e] at h
        exact h
      have HD6 := Lib.hid hd6
      have HH6 := Lib.hid ((HHA.out.below kd HHA.out.lt).only ho6 fun e => HBG.out e.symm)
      have B6 := (BZ.out.below kd BZ.out.lt).grown ho6 (by intro e; injection e with e; exact HPZ.out.1 e)
      have hs5 := kd.size
      have K6 : Hid (Below w.heap.size w w6) := (KA.out.trans (kd.mono KA.out.size)).trans (ho6.below (Nat.le_trans KA.out.size hs5) HB.out)
      have BZ6 := Lib.hid B6
      refine hK.out _ _ (B6.cell 0) (fun _ => ?_)
      have S6 := B6.cell 0
      clear hK K hd6 B6 hs5 hb6 ho6 c1 c2 c3 c4 hb5 kd k5 o5 e256 hpg HDA HHA KA BZ
      refine wpAnyH_done (by kernel_rfl) ?_ _
      have cz1 : w6.cell? ⟨pz, 1, none⟩ = some (.slice xa 256 xc) := BZ6.out.cell 1
      clear S6
      go_wp2_with fail
      refine (add_any hg (M.hdata (l.take k)) y (.slice xa 256 xc) w6 (HLA.out.below K6.out HLA.out.size) (Nat.le_trans HLA.out.size HGW.out) HH6.out (IY.out.below K6.out) (IY.out.off HGW.out) (by
        have e1 := M.hdata_le (l.take k) fun c hc => (HD.out c (List.mem_of_mem_take hc)).2.2
        have e2 : y.length = 256 := HP.out.2.2
        have := HK40.out
        rw [e1, e2, List.length_take]
        omega)).mono ?_
      rintro e w7 ⟨rfl, h7, o7⟩
      have HD7 := Lib.hid (HD6.out.only o7 HBG.out)
      have H7 := Lib.hid h7
      rw [HDX.out] at H7
      have K7 : Hid (Below w.heap.size w w7) := K6.out.trans (o7.below K6.out.size HGW.out)
      have n3 : wrap64 ((k : Int) + 1) = ((k + 1 : Nat) : Int) := by have := HK40.out; unfold wrap64; omega
      have N3 := Lib.hid n3
      clear n3 h7 o7 HD6 HH6 K6 BZ6 cz1
      go_wp2
      go_roundw
      case rel => exact ⟨k + 1, by first | rw [N3.out] | rfl, HJ.out, HD7, H7, K7⟩
      case measure =>
        first | rw [N3.out] | skip
        exact step_down HJ.out
    · have b1 : ¬ (k : Int) < (n : Int) := by omega
      obtain rfl : k = n := by have := hk.out; omega
      have et : l.take k = l := by rw [← HN.out, List.take_length]
      rw [et] at hh
      have eh : M.hblk l k = M.hblk l l.length := by rw [HN.out]
      rw [eh] at hd
      have e256 : (M.hblk l l.length).length = 256 := M.hblk_256 l _ (Nat.le_refl _) (by rw [HN.out]; exact h40)
      have ib := (hd.out.own (Nat.zero_le _)).isB
      rw [e256] at ib
      have IF := Lib.hid (ib.front10 (show 224 ≤ 256 by decide))
      have HHX := Lib.hid hh.out
      have HDX := Lib.hid hd.out
      have KX := Lib.hid kk.out
      have E256 := Lib.hid e256
      have b2 : 224 ≤ hc := by have := HCL.out; omega
      have b3 : (224 : Int) ≤ (hc : Int) := by omega
      have b4 : hc ≤ maxLen := by obtain ⟨_, _, _, _, h, _⟩ := hd.out; exact h
      have hsl : ∀ W : World, (Instr.slice 38 (.slice (some ⟨hb, 0, none⟩) 256 hc) none (some (.int .i64 224)) none).run Tryz.prog W = .ok (.slice (some ⟨hb, 0, none⟩) 224 hc) W := fun W => by
        have hel : Tryz.prog.elem 38 = 5 := by simp [Program.elem, Tryz.underlying38]
        rw [run_slice_h W 38 _ 256 hc (by rw [hel]; exact Tryz.underlying38) .i64 224 (by omega) (by omega), hel, Tryz.sizeOf5]
        simp [sliced, Addr.add_lit]
      clear hd hh kk ib et eh e256 hlt
      have hpf : (M.hblk l l.length).take 224 = M.hfront l := rfl
      go_wp2_with fail
      refine (add_any hg (M.hdata l) ((M.hblk l l.length).take 224) (.slice (some ⟨hb, 0, none⟩) 224 hc) wz (HLA.out.below KX.out HLA.out.size) (Nat.le_trans HLA.out.size HGW.out) HHX.out IF.out (fun ad n c e _ => by injection e with e1 _ _; injection e1 with e1; rw [← e1]; exact HBG.out) (by
        have e1 := M.hdata_le l fun c hc => (HD.out c hc).2.2
        have := H40.out
        have := HN.out
        rw [e1, List.length_take]
        omega)).mono ?_
      rintro e w5 ⟨rfl, h5, o5⟩
      have HD5 := Lib.hid (HDX.out.only o5 HBG.out)
      have H5 := Lib.hid h5
      have K5 : Hid (Below w.heap.size w w5) := KX.out.trans (o5.below KX.out.size HGW.out)
      have A3 := Lib.hid (from_blk10 hb 256 hc 224 (by decide) HCL.out)
      clear h5 o5 HDX HHX KX IF hsl
      go_upto_region 11 with fail
      refine wp_region_any (by kernel_rfl) ?_
      change wpAny _ _ _ _ _ _ _ (World.drew _)
      refine wpAny_of_held (S := fun w' => True) _ _ _ _ ?_
      have S0 : True := trivial
      refine wpAnyH_take_at (i := 0) (v := .slice (some ⟨hb, 0, none⟩) 256 hc) rfl rfl (by kernel_rfl) (by kernel_rfl) (by kernel_rfl) (fun _ _ _ h => h) (Or.inl ⟨by rfl, fun w hS => by go_simp⟩) S0 ?_
      simp only [List.setIfInBounds_toArray, List.set_cons_zero, List.set_cons_succ]
      refine wpAnyH_take_at (i := 1) (v := .slice (some ⟨hb, 224, none⟩) (256 - 224) (hc - 224)) rfl rfl (by kernel_rfl) (by kernel_rfl) (by kernel_rfl) (fun _ _ _ h => h) (Or.inl ⟨by rfl, fun w hS => by have e2 := HCL.out; have e4 : ¬ hc = 224 := (by omega); go_simp⟩) S0 ?_
      simp only [List.setIfInBounds_toArray, List.set_cons_zero, List.set_cons_succ]
      refine wpAnyH_take_at (i := 2) (v := .pointer (some ⟨hg, 0, none⟩)) rfl rfl (by kernel_rfl) (by kernel_rfl) (by kernel_rfl) (fun _ _ _ h => h) (Or.inl ⟨by rfl, fun w hS => by go_simp⟩) S0 ?_
      simp only [List.setIfInBounds_toArray, List.set_cons_zero, List.set_cons_succ]
      refine wpAnyH_ready (rs := [3]) (by kernel_rfl) (by simp) ?_
      refine AllReadyH.cons rfl (fun K hK => ?_) AllReadyH.nil
      go_simp
      have kd := (drewN_below (Below.refl w5.heap.size w5) 1 : Below w5.heap.size w5 w5.drew)
      refine (sum_any hg _ w5.drew ((HLA.out.below K5.out HLA.out.size).below kd (Nat.le_trans HLA.out.size K5.out.size)) (H5.out.below kd H5.out.lt) (by
        have e1 := M.hdata_le l fun c hc => (HD.out c hc).2.2
        have := H40.out
        have := HN.out
        rw [List.length_append, e1, List.length_take]
        omega)).mono ?_
      rintro e w6 ⟨sv, rfl, o6, k6⟩
      obtain ⟨sg, sc, rfl, hsg⟩ := o6.shape (by rw [M.sha_length]; decide)
      have k56 : Below w5.heap.size w5 w6 := kd.trans k6
      refine hK.out _ _ trivial (fun _ => ?_)
      clear hK K S0
      obtain ⟨cur, hb6, c1, c2, c3, c4⟩ := HD5.out.below k56
      have e256 := E256.out
      rw [e256] at c2 c4
      refine wpAnyH_ready (rs := [4]) (by kernel_rfl) (by simp) ?_
      refine AllReadyH.cons rfl (fun K hK => ?_) AllReadyH.nil
      refine step_copy_blk10 rfl (.tmp 42) (.tmp 44) 38 38 rfl 5 Tryz.underlying38 (by kernel_rfl) hb 224 (256 - 224) (hc - 224) ⟨sg, 0, none⟩ _ sc rfl rfl cur 5 hb6 (Lib.byteCells (M.sha (M.hdata l ++ (M.hblk l l.length).take 224))) (by rw [byteCells_length, M.sha_length]; rfl) o6.cells (by rw [byteCells_length, M.sha_length]; have := HCL.out; omega) (byteCells_oneCell _) ?_
      intro w7 hb7 ho7
      have hd7 : Hd w7 hb hc (M.headOf l) := by
        have h := Hd.lay (bs := M.hblk l l.length) (o := 224) c1 (by rw [e256]; exact c2) c3 (by rw [e256]; exact c4) (by rw [e256, M.sha_length]; decide) hb7
        have e := M.head_done l (by rw [HN.out]; exact H40.out)
        rw [hpf] at h
        rw [hpf] at e
        rw [e] at h
        exact h
      have HD7 := Lib.hid hd7
      have K7 : Hid (Below w.heap.size w w7) := (K5.out.trans (k56.mono K5.out.size)).trans (ho7.below (Nat.le_trans K5.out.size k56.size) HB.out)
      refine hK.out _ _ trivial (fun _ => ?_)
      clear hK K hd7 hb7 ho7 c1 c2 c3 c4 hb6 k56 k6 kd o6 e256 hsg HD5 H5 K5
      refine wpAnyH_done (by kernel_rfl) ?_ _
      have oo := HD7.out.own HB.out
      rw [M.headOf_length] at oo
      have OO := Lib.hid oo
      clear oo
      go_wp2
      go_ret
      exact ⟨_, rfl, OO.out, K7.out⟩

end Go.Proofs.YtphcbpfpelonaaaGreatDoor

namespace Go.Proofs.YtphcbpfpelonaaaGreatDoor
open Go.RowKit
set_option linter.unusedVariables false
set_option maxRecDepth 100000

theorem M.told_next (s : List (List UInt8)) (k : Nat) : (List.range (k + 1)).map (M.toldAt s) = (List.range k).map (M.toldAt s) ++ [M.toldAt s k] := by rw [List.range_succ, List.map_append]; rfl

theorem getD_ite {α : Type} {c : Prop} [Decidable c] (l : List α) : (if c then some l else none).getD [] = if c then l else [] := by
  split <;> rfl

theorem M.decJ_getD (s : List (List UInt8)) : (M.decJ s).getD [] = if M.toldOf s ≠ [] ∧ M.May (s.length - 42) (M.toldOf s) ∧ s.getD 0 [] = M.headOf (M.toldOf s) then M.toldOf s else [] := by
  rw [M.decJ]
  exact getD_ite _

theorem M.decJ_yes (s : List (List UInt8)) (h : M.May (s.length - 42) (M.toldOf s)) (e : s.getD 0 [] = M.headOf (M.toldOf s)) : (M.decJ s).getD [] = M.toldOf s := by
  rw [M.decJ_getD]
  by_cases h0 : M.toldOf s = []
  · rw [if_neg (fun h => h.1 h0)]
    exact h0.symm
  · rw [if_pos ⟨h0, h, e⟩]

theorem M.decJ_no (s : List (List UInt8)) (h : ¬ (M.May (s.length - 42) (M.toldOf s) ∧ s.getD 0 [] = M.headOf (M.toldOf s))) : (M.decJ s).getD [] = [] := by
  rw [M.decJ_getD, if_neg (fun h' => h h'.2)]

set_option maxHeartbeats 8000000 in
theorem whole_ok : WholeOk Laid M.decJ := by
  intro T x gw g m d hw h42 hW hL hv hvb
  have hf := d.ok.few
  have h256 : (m.safe.getD 0 []).length = 256 := d.ok.full _ (by rw [List.getD_eq_getElem?_getD, List.getElem?_eq_getElem (by omega)]; exact List.getElem_mem _)
  obtain ⟨ao, cap, rfl⟩ := hvb.shape
  obtain ⟨hb, ho, rfl⟩ : ∃ b o, ao = some ⟨b, o, none⟩ := by
    obtain ⟨ao', cap', e, h1, h2, h3⟩ := hvb
    injection e with e1 e2 e3
    rcases h3 with h | ⟨b, off, h, _⟩
    · rw [h] at h256; cases h256
    · exact ⟨b, off, by rw [e1, h]⟩
  have hcl : 256 ≤ cap := by
    obtain ⟨ao', cap', e, h1, h2, h3⟩ := hvb
    injection e with e1 e2 e3
    omega
  have HCL := Lib.hid hcl
  rw [h256] at hvb ⊢
  obtain ⟨hd, hhd⟩ : ∃ b, b = m.safe.getD 0 [] := ⟨_, rfl⟩
  rw [← hhd] at hvb
  have HHD := Lib.hid hhd
  obtain ⟨n, hn⟩ : ∃ n, n = M.toldN m.safe := ⟨_, rfl⟩
  have HN := Lib.hid hn
  have hgl : M.gl hd 4 < 4294967296 := M.gl_lt hd 4
  obtain ⟨q, hq⟩ : ∃ q, q = M.gl hd 4 := ⟨_, rfl⟩
  have hnq : n = min q 40 := by rw [hn, M.toldN, ← hhd, ← hq]
  rw [← hq] at hgl
  have n40 : n ≤ 40 := by omega
  have HQ := Lib.hid hq
  have N40 := Lib.hid n40
  have D := Lib.hid d
  have HW := Lib.hid hw
  have WI := Lib.hid hW
  have HL := Lib.hid hL
  have IH := Lib.hid hvb
  have H42 := Lib.hid h42
  have HF := Lib.hid hf
  have H256 : Hid (hd.length = 256) := by rw [Hid, hhd]; exact h256
  have cg : x.cell? ⟨gw, 0, none⟩ = some (.pointer (some ⟨g, 0, none⟩)) := hW.cell 0
  have CG := Lib.hid cg
  have m1 : (if (40 : Int) < (q : Int) then (40 : Int) else (q : Int)) = (n : Int) := by split <;> omega
  have m2 : (if (q : Int) < 40 then (q : Int) else 40) = (n : Int) := by split <;> omega
  have m3 : (min (q : Int) 40) = (n : Int) := by omega
  have m4 : (if (q : Int) ≤ 40 then (q : Int) else 40) = (n : Int) := by split <;> omega
  have CG32 := Lib.hid (get32_any (.slice (some ⟨hb, ho, none⟩) 256 cap) hd x hvb)
  rw [← hq] at CG32
  have w64 : IntKind.i64.wrap (n : Int) = (n : Int) := IntWalk.i64_in _ (by omega)
  clear d hw hW hL hvb h42 hf hhd hn hnq hq h256 hgl cg
  go_enter Tryz.func75, Tryz.ntmps75
  go_wp2_with fail
  refine CG32.out.mono ?_
  rintro e x1 ⟨rfl, rfl⟩
  go_wp2
  go_loopw [5, 6, 7, 8, 9, 14] (fun v bi b7 b8 b9 i wr => ∃ (k : Nat) (xs : List Value), i = .int .i64 (k : Int) ∧ Hid (k ≤ n) ∧ Hid (OwnCL wr x.heap.size v ((List.range k).map (M.toldAt m.safe)) xs) ∧ Hid (Below x.heap.size x wr))
    (fun v bi b7 b8 b9 i _ => n - numOf i)
  case atStart => exact ⟨0, [], rfl, Nat.zero_le _, OwnCL.nil _ _, Below.refl _ _⟩
  case round =>
    clear m1 m2 m3 m4 w64
    obtain ⟨wz, rfl⟩ : ∃ x, x = wr := ⟨_, rfl⟩
    obtain ⟨v5, rfl⟩ : ∃ x, x = u5 := ⟨_, rfl⟩
    obtain ⟨k, xs, rfl, hk, oo, kk⟩ := hrel
    by_cases hlt : k < n
    · have b1 : (k : Int) < (n : Int) := by omega
      have HK := Lib.hid hlt
      have hk40 : k < 40 := by omega
      have HK40 := Lib.hid hk40
      obtain ⟨fa, hfa, ifa⟩ := IH.out.from10 (4 * (1 + k)) (by omega)
      have efa : fa = some ⟨hb, ho + 4 * (1 + k), none⟩ ∧ True := by
        have h1 := hfa x
        rw [from9 _ 256 cap (4 * (1 + k)) (by omega) x, if_neg (by omega), Option.map_some, Addr.add_lit] at h1
        injection h1 with h1 _
        injection h1 with h1 _ _
        exact ⟨h1.symm, trivial⟩
      obtain ⟨rfl, _⟩ := efa
      have hgl := M.gl_lt (hd.drop (4 * (1 + k))) 4
      obtain ⟨p, hp⟩ : ∃ p, p = M.gl (hd.drop (4 * (1 + k))) 4 := ⟨_, rfl⟩
      have C32 := Lib.hid (get32_any _ (hd.drop (4 * (1 + k))) wz (ifa.below kk.out))
      rw [← hp] at C32 hgl
      have HGL : Hid (p < 4294967296) := hgl
      have CR := Lib.hid (codeDk_read (D.out.below kk.out) (by rw [HW.out]; decide) (1 + (k : Int)))
      have e1 : m.doRead (1 + (k : Int)) = (m.read (1 + k), 0) := by
        have h42 := H42.out
        rw [M.Dsk.doRead, if_pos ⟨by omega, by omega⟩]
        congr 2
      rw [e1] at CR
      have e2 : m.read (1 + k) = m.safe.getD (1 + k) [] := by rw [M.Dsk.read, HW.out]; rfl
      rw [e2] at CR
      obtain ⟨y, hy⟩ : ∃ y, y = m.safe.getD (1 + k) [] := ⟨_, rfl⟩
      rw [← hy] at CR
      have HYL : Hid (y.length = 256) := by
        rw [hy]
        refine D.out.ok.full _ ?_
        have h42 := H42.out
        rw [List.getD_eq_getElem?_getD, List.getElem?_eq_getElem (by omega)]
        exact List.getElem_mem _
      have HT : Hid ((List.range (k + 1)).map (M.toldAt m.safe) = (List.range k).map (M.toldAt m.safe) ++ [((p : Int), y)]) := by
        rw [Hid, M.told_next, M.toldAt, ← HHD.out, ← hp, ← hy]
      obtain ⟨lk, hlk⟩ : ∃ lk, lk = (List.range k).map (M.toldAt m.safe) := ⟨_, rfl⟩
      have HLK : Hid (lk.length = k) := by rw [Hid, hlk, List.length_map, List.length_range]
      rw [← hlk] at oo HT
      have c0 : wz.cell? ⟨gw, 0, none⟩ = some (.pointer (some ⟨g, 0, none⟩)) := (kk.out.cell (p := ⟨gw, 0, none⟩) (World.block_lt_of_cell? x _ CG.out)).trans CG.out
      have b2 : ¬ cap = 4 * (1 + k) := by omega
      clear hfa ifa hgl hp hy hlk e1 e2
      go_wp2_with fail
      refine C32.out.mono ?_
      rintro e x2 ⟨rfl, rfl⟩
      go_wp2_with fail
      refine CR.out.mono ?_
      rintro e x3 ⟨r, rfl, o3, k3⟩
      obtain ⟨ra, rc, rfl⟩ := o3.shape'
      rw [HYL.out] at o3 ⊢
      have O3 := Lib.hid o3
      have K3 := Lib.hid k3
      clear o3 k3 c0 CR C32
      have a3 : IntKind.i64.wrap (p : Int) = (p : Int) := by have := HGL.out; exact IntWalk.i64_in _ (by omega)
      obtain ⟨x4, hx4⟩ : ∃ y, Hid (y = x3.alloc (.cells #[.int .i64 (p : Int), .slice ra 256 rc] 146)) := ⟨_, rfl⟩
      obtain ⟨pp, hpp⟩ : ∃ y, Hid (y = x3.heap.size) := ⟨_, rfl⟩
      have k4 : Below wz.heap.size wz x4 := by rw [hx4.out]; exact K3.out.alloc K3.out.size _
      have k34 : Below x3.heap.size x3 x4 := by rw [hx4.out]; exact (Below.refl _ _).alloc (Nat.le_refl _) _
      have b4 : Blk x4 pp 146 [.int .i64 (p : Int), .slice ra 256 rc] := by rw [hx4.out]; exact Blk.newAt _ _ _ _ _ hpp.out rfl
      have d4 : Own x4 wz.heap.size (.slice ra 256 rc) y := by have := O3.out.below k34; rw [← HYL.out] at this ⊢; exact this
      have r4 := own_chg oo.out.row (Chg.of_below (F := fun _ => False) k4) (fun _ _ h => h)
      have R4 := Lib.hid r4
      have B4 := Lib.hid b4
      have KX4 : Hid (x.heap.size ≤ x4.heap.size) := Nat.le_trans kk.out.size k4.size
      clear r4 b4 k34
      go_upto_region 8 with (rw [← hx4.out, ← hpp.out]; refine wpList_app_row change10 _ rfl (.tmp 33) (.tmp 38) rfl x.heap.size v5 lk.length _ rfl R4.out ⟨pp, 0, none⟩ 1 1 [.int .i64 (p : Int), .slice ra 256 rc] rfl rfl (fun j u hj => by rw [Addr.add_lit, Nat.zero_add, B4.out.cell]; exact hj) (by intro u hu; simp only [List.mem_cons, List.not_mem_nil, or_false] at hu; rcases hu with rfl | rfl <;> rfl) (by have := HLK.out; have := HK40.out; unfold maxLen; omega) (by have := HLK.out; have := HK40.out; omega) KX4.out ?_; intro v6 x6 o6 g6 a6)
      have OO := Lib.hid (oo.out.add k4 kk.out.size d4 ⟨by omega, by have := HGL.out; omega⟩ o6 g6 (a6.imp_right fun h => ⟨_, h, Nat.le_refl _⟩))
      rw [← HT.out] at OO
      have KK : Hid (Below x.heap.size x x6) := (kk.out.trans (k4.mono kk.out.size)).grown g6 KX4.out fun j hj => (oo.out.row.lt j hj).1
      have n3 : wrap64 ((k : Int) + 1) = ((k + 1 : Nat) : Int) := by have := HK40.out; unfold wrap64; omega
      have N3 := Lib.hid n3
      clear n3 o6 g6 a6 d4 k4 R4 B4 KX4 O3 K3 hx4 hpp oo kk a3 b2
      obtain ⟨v6, rfl⟩ : ∃ x, x = v6 := ⟨_, rfl⟩
      go_wp2
      go_roundw
      case rel => exact ⟨k + 1, _, by first | rw [N3.out] | rfl, HK.out, OO.out, KK.out⟩
      case measure =>
        first | rw [N3.out] | skip
        exact step_down HK.out
    · have b1 : ¬ (k : Int) < (n : Int) := by omega
      obtain rfl : k = n := by have := hk.out; omega
      have e : (List.range k).map (M.toldAt m.safe) = M.toldOf m.safe := by rw [M.toldOf, HN.out]
      rw [e] at oo
      obtain ⟨L, hL⟩ : ∃ L, Hid (L = M.toldOf m.safe) := ⟨_, rfl⟩
      rw [← hL.out] at oo
      obtain ⟨va, vc, rfl⟩ := oo.out.isCL.shape
      obtain ⟨ok, hok⟩ : ∃ b, b = decide (M.May (m.safe.length - 42) L) := ⟨_, rfl⟩
      have CM := Lib.hid (wmay_any (D.out.below kk.out) H42.out (WI.out.below kk.out) _ L xs oo.out.isCL ok hok)
      have HOK := Lib.hid hok
      clear e hok hlt
      go_wp2_with fail
      refine CM.out.mono ?_
      rintro e w1 ⟨rfl, k1⟩
      have K1 : Hid (Below x.heap.size x w1) := kk.out.trans (k1.mono kk.out.size)
      have O1 := Lib.hid (oo.out.below k1)
      clear CM k1 oo kk
      cases ok with
      | false =>
        have hno : (M.decJ m.safe).getD [] = [] := M.decJ_no _ fun h => by
          have h1 := HOK.out
          rw [decide_eq_true (show M.May (m.safe.length - 42) L by rw [hL.out]; exact h.1)] at h1
          cases h1
        have HNO := Lib.hid hno
        clear hno HOK
        go_wp2
        go_ret
        exact ⟨_, [], rfl, K1.out, by rw [HNO.out]; exact (OwnCL.nil _ _).gains⟩
      | true =>
        have hmay : M.May (m.safe.length - 42) L := of_decide_eq_true HOK.out.symm
        have CH := Lib.hid (headOf_any w1 (HL.out.below K1.out HL.out.size) _ L xs O1.out.isCL hmay.1 fun c hc => by
          have h1 := hmay.2 c hc
          have h2 := HF.out
          exact ⟨h1.1, by omega, h1.2.2⟩)
        have HM := Lib.hid hmay
        clear hmay HOK
        go_wp2_with fail
        refine CH.out.mono ?_
        rintro e w2 ⟨nv, rfl, o2, k2⟩
        obtain ⟨na, nc, rfl⟩ := o2.shape'
        have CE := Lib.hid (bytesEqual_any _ _ hd (M.headOf L) w2 (IH.out.below (K1.out.trans (k2.mono K1.out.size))) o2.isB (by intro e; have := H256.out; rw [e] at this; cases this) (by intro e; have := M.headOf_length L; rw [e] at this; cases this))
        obtain ⟨eq, heq⟩ : ∃ b, b = decide (hd = M.headOf L) := ⟨_, rfl⟩
        rw [← heq] at CE
        have HEQ := Lib.hid heq
        have K2 : Hid (Below x.heap.size x w2) := K1.out.trans (k2.mono K1.out.size)
        have O2 := Lib.hid (O1.out.below k2)
        clear CH o2 k2 heq O1 K1
        go_wp2_with fail
        refine CE.out.mono ?_
        rintro e w3 ⟨rfl, rfl⟩
        clear CE
        cases eq with
        | false =>
          have hno : (M.decJ m.safe).getD [] = [] := M.decJ_no _ fun h => by
            have h1 := HEQ.out
            rw [decide_eq_true (show hd = M.headOf L by rw [hL.out, HHD.out]; exact h.2)] at h1
            cases h1
          have HNO := Lib.hid hno
          clear hno HEQ
          go_wp2
          go_ret
          exact ⟨_, [], rfl, K2.out, by rw [HNO.out]; exact (OwnCL.nil _ _).gains⟩
        | true =>
          have hyes : (M.decJ m.safe).getD [] = L := by
            rw [hL.out]
            exact M.decJ_yes _ (by rw [← hL.out]; exact HM.out) (by rw [← HHD.out, ← hL.out]; exact of_decide_eq_true HEQ.out.symm)
          have HY := Lib.hid hyes
          clear hyes HEQ
          go_wp2
          go_ret
          exact ⟨_, xs, rfl, K2.out, by rw [HY.out]; exact O2.out.gains⟩

end Go.Proofs.YtphcbpfpelonaaaGreatDoor
