/-
  CONTRACT OF package wal's headOf: the head that tells of changes; a row of bytes laid into piece by piece (Hd). Conditions: as each says.
  CONTRACT OF package wal's whole: the changes that the journal tells (WholeOk Laid decJ). Conditions: none besides WholeOk's own.
  CONTRACTS OF package wal's log, tell and Commit. Conditions: as each says.
  THE CODE'S JOURNAL IS A JOURNAL: its face, and what it makes of disks. Conditions: the two tables of package sha lie as laid (Laid).
-/
import Derived.Test.YtlglkiknpbfnmaaDoorPkJ
import Derived.Test.YtlglkiknpbfnmaaDoorWalE
import Derived.Test.YtlglkiknpbfnmaaDoorShaSum
import Derived.Test.YtlglkiknpbfnmaaDoorWordA
import Derived.Test.YtlglkiknpbfnmaaDoorWordB

namespace Go.Proofs.YtlglkiknpbfnmaaDoor
open Go.RowKit
set_option linter.unusedVariables false
set_option maxRecDepth 100000

/-- 'copy' into a block that is known, as one step of a region that draws. -/
theorem step_copy_blk10 {P : Program} {w : World} {ops : Array Oper} {o : Oper} {a : Act} {K : Act → World → Prop} {Q : Exit → Act → World → Prop} {E : Prop} (hgd : o.guard = none) (d s : Operand) (dT sT : TypeId)
    (ho : o.op = .call { callee := .builtin .copy, args := #[d, s], argTypes := #[dT, sT] }) (elem : TypeId) (hu : P.underlying dT = some (.slice elem)) (hsz : (P.info? elem).map (·.size) = some 1)
    (g off dLen dCap : Nat) (ad : Addr) (sLen sCap : Nat) (hd : a.eval d = .slice (some ⟨g, off, none⟩) dLen dCap) (hs : a.eval s = .slice (some ad) sLen sCap)
    (cur : List Value) (t : TypeId) (hg : Blk w g t cur) (cs : List Value) (hn : cs.length = Nat.min sLen dLen)
    (hsrc : ∀ j v, cs[j]? = some v → w.cell? (ad.add j) = some v) (hfit : off + cs.length ≤ cur.length) (h1 : ∀ v ∈ cs, v.oneCell' = true)
    (h : ∀ w', Blk w' g t (splice cur off cs) → Only g w w' → K (a.put o.dst (.int .i64 (cs.length : Int))) w') :
    if Region.wanted o (yielded ops a.tmps) = true then Oper.wp P o a w K Q else E := by
  rw [if_pos (by simp [Region.wanted, hgd])]
  have hrun := run_copy_row (P := P) w dT sT o.type elem g off dLen dCap ad sLen sCap cur.toArray t cs hu hsz hg hn hsrc (by simpa using hfit) h1
  unfold Oper.wp
  simp [execOp, ho, resolve, invoke, builtin, hd, hs, hrun, Result.andThen]
  exact h _ (show _ = _ by simpa [splice] using setRow_heap w g _ _ t _ hg) ⟨rfl, rfl, rfl, by simp, fun k _ hne => setRow_other w g k _ (fun e => hne (by rw [e]))⟩

/-- Block g is a row of bytes, bs ahead. -/
def Hd (w : World) (g cap : Nat) (bs : List UInt8) : Prop := ∃ cur, Blk w g 5 cur ∧ cur.length = cap ∧ bs.length ≤ cap ∧ cap ≤ maxLen ∧ cur.take bs.length = Lib.byteCells bs

theorem Hd.below {w w' : World} {g cap : Nat} {bs : List UInt8} (h : Hd w g cap bs) (k : Below w.heap.size w w') : Hd w' g cap bs := by
  obtain ⟨cur, hb, h⟩ := h
  exact ⟨cur, hb.below k hb.lt, h⟩

theorem Hd.lt {w : World} {g cap : Nat} {bs : List UInt8} (h : Hd w g cap bs) : g < w.heap.size := by
  obtain ⟨cur, hb, h⟩ := h
  exact hb.lt

theorem Hd.only {w w' : World} {g g' cap : Nat} {bs : List UInt8} (h : Hd w g cap bs) (k : Only g' w w') (hne : g ≠ g') : Hd w' g cap bs := by
  obtain ⟨cur, hb, h⟩ := h
  exact ⟨cur, hb.grown k (by intro e; injection e with e; exact hne e), h⟩

theorem Hd.own {w : World} {g cap B : Nat} {bs : List UInt8} (h : Hd w g cap bs) (hB : B ≤ g) : Own w B (.slice (some ⟨g, 0, none⟩) bs.length cap) bs := by
  obtain ⟨cur, hb, h1, h2, h3, h4⟩ := h
  exact Own.of_blk9 hB hb h2 h3 h1 h4

theorem Own.hd {w : World} {B : Nat} {v : Value} {bs : List UInt8} (h : Own w B v bs) (hne : 0 < bs.length) : ∃ g cap, v = .slice (some ⟨g, 0, none⟩) bs.length cap ∧ B ≤ g ∧ bs.length ≤ cap ∧ Hd w g cap bs := by
  obtain ⟨g, cap, cur, e, hB, hb, h1, h2, h3, h4⟩ := h.blk9 hne
  exact ⟨g, cap, e, hB, h1, cur, hb, h3, h1, h2, h4⟩

/-- A piece laid into the row. -/
theorem Hd.lay {w' : World} {g cap o : Nat} {bs xs : List UInt8} {cur : List Value} (h3 : cur.length = cap) (h1 : bs.length ≤ cap) (h2 : cap ≤ maxLen) (h4 : cur.take bs.length = Lib.byteCells bs) (ho : o + xs.length ≤ bs.length)
    (hb : Blk w' g 5 (splice cur o (Lib.byteCells xs))) : Hd w' g cap (bs.take o ++ xs ++ bs.drop (o + xs.length)) := by
  have hl : (bs.take o ++ xs ++ bs.drop (o + xs.length)).length = bs.length := by
    rw [List.length_append, List.length_append, List.length_take, List.length_drop]
    omega
  refine ⟨_, hb, ?_, by rw [hl]; exact h1, h2, ?_⟩
  · rw [splice, List.length_append, List.length_append, List.length_take, List.length_drop, byteCells_length]
    omega
  · rw [hl]
    exact splice_row h4 ho (by omega)

theorem IsB.front10 {w : World} {ao : Option Addr} {n cap k : Nat} {bs : List UInt8} (h : IsB w (.slice ao n cap) bs) (hk : k ≤ n) : IsB w (.slice ao k cap) (bs.take k) := by
  obtain ⟨ao', cap', e, h1, h2, h3⟩ := h
  injection e with e1 e2 e3
  subst e1 e2 e3
  refine ⟨_, _, by rw [List.length_take, Nat.min_eq_left hk], by rw [List.length_take]; omega, h2, ?_⟩
  rcases h3 with h | ⟨b, off, rfl, h⟩
  · exact .inl (by rw [h]; simp)
  · refine .inr ⟨b, off, rfl, fun i hi => ?_⟩
    rw [List.length_take] at hi
    rw [h i (by omega), List.getD_eq_getElem?_getD, List.getD_eq_getElem?_getD, List.getElem?_take, if_pos (by omega)]

theorem IsB.from10 {w : World} {ao : Option Addr} {n cap : Nat} {bs : List UInt8} (h : IsB w (.slice ao n cap) bs) (m : Nat) (hm : m ≤ n) : ∃ a, (∀ W : World, (Instr.slice 34 (.slice ao n cap) (some (.int .i64 (m : Int))) none none).run Tryd.prog W = .ok (.slice a (n - m) (cap - m)) W) ∧ IsB w (.slice a (n - m) (cap - m)) (bs.drop m) := by
  refine ⟨if cap = m then ao else ao.map (·.add m), fun W => from9 ao n cap m hm W, ?_⟩
  obtain ⟨ao', cap', e, h1, h2, h3⟩ := h
  injection e with e1 e2 e3
  subst e1 e2 e3
  have hl : (bs.drop m).length = bs.length - m := by rw [List.length_drop]
  refine ⟨_, cap - m, by rw [hl], by rw [hl]; omega, by omega, ?_⟩
  by_cases hc : cap = m
  · exact .inl (List.eq_nil_of_length_eq_zero (by rw [hl]; omega))
  · rw [if_neg hc]
    rcases h3 with h | ⟨b, off, rfl, h⟩
    · exact .inl (by rw [h]; simp)
    · refine .inr ⟨b, off + m, by rw [Option.map_some, Addr.add_lit], fun i hi => ?_⟩
      rw [hl] at hi
      rw [Nat.add_assoc, h (m + i) (by omega)]
      simp [List.getD_eq_getElem?_getD]

/-- 'b[o:]' of a row that starts its block. -/
theorem from_blk10 (g n cap o : Nat) (ho : o < n) (hn : n ≤ cap) (W : World) : (Instr.slice 34 (.slice (some ⟨g, 0, none⟩) n cap) (some (.int .i64 (o : Int))) none none).run Tryd.prog W = .ok (.slice (some ⟨g, o, none⟩) (n - o) (cap - o)) W := by
  rw [from9 _ n cap o (by omega) W, if_neg (by omega), Option.map_some, Addr.add_lit, Nat.zero_add]

theorem u32_of (p : Int) (h : 0 ≤ p ∧ p < 4294967296) : IntKind.u32.wrap p = (p.toNat : Int) := by
  simp [IntKind.wrap, IntKind.signed, IntKind.bits]
  omega

set_option maxHeartbeats 8000000 in
theorem headOf_any (w : World) (hL : Laid w) (lv : Value) (l : M.CL) (xs : List Value) (hl : IsCL w lv l xs) (h40 : l.length ≤ 40) (hd : ∀ c ∈ l, 0 ≤ c.1 ∧ c.1 < 4294967296 ∧ c.2.length = 256) :
    Calls Tryd.prog 49 #[lv] w (Makes w (M.headOf l)) := by
  obtain ⟨ao, cap, rfl⟩ := hl.shape
  obtain ⟨n, hn⟩ : ∃ n, n = l.length := ⟨_, rfl⟩
  rw [← hn] at hl h40 ⊢
  have HN : Hid (l.length = n) := hn.symm
  have HL := Lib.hid hl
  have HD := Lib.hid hd
  have H40 := Lib.hid h40
  have HLA := Lib.hid hL
  clear hl hd hn hL
  go_enter Tryd.func49, Tryd.ntmps49
  go_wp2_with fail
  refine (emptyHead_any w).mono ?_
  rintro e w1 ⟨hv, rfl, o1, k1⟩
  obtain ⟨hb, hc, e1, hB, hcl, hd1⟩ := o1.hd (by rw [M.zero_len]; decide)
  rw [M.zero_len] at e1 hcl
  subst e1
  have HB := Lib.hid hB
  have HCL := Lib.hid hcl
  have HD1 := Lib.hid hd1
  have K1 := Lib.hid k1
  clear o1 hB hd1 k1 hcl
  have w32 : IntKind.u32.wrap (n : Int) = (n : Int) := by simp [IntKind.wrap, IntKind.signed, IntKind.bits]; omega
  go_wp2_with fail
  refine (put32_any n w1 (by omega)).mono ?_
  rintro e w2 ⟨nv, rfl, o2, k2⟩
  obtain ⟨ng, nc, rfl, hng⟩ := o2.shape (by rw [M.le_length]; decide)
  obtain ⟨cur, hb2, c1, c2, c3, c4⟩ := HD1.out.below k2
  rw [M.zero_len] at c2 c4
  rw [M.le_length] at ⊢
  go_wp2_with (refine wpList_copy_blk rfl (.tmp 8) (.tmp 12) 34 34 rfl 5 Tryd.underlying34 (by kernel_rfl) (some ⟨hb, 0, none⟩) (some ⟨ng, 0, none⟩) 256 hc 4 nc rfl rfl hb 0 cur 5 hb2 (Lib.byteCells (M.le n 4)) (by rw [byteCells_length, M.le_length]; rfl) (fun _ => ⟨rfl, _, rfl, by have h := o2.cells; exact h⟩) (by rw [byteCells_length, M.le_length]; omega) (byteCells_oneCell _) ?_)
  intro w3 hb3 ho3
  have hd3 : Hd w3 hb hc (M.hblk l 0) := by
    have h := Hd.lay (bs := M.zero256) (o := 0) c1 (by rw [M.zero_len]; exact c2) c3 (by rw [M.zero_len]; exact c4) (by rw [M.zero_len, M.le_length]; decide) hb3
    have e := M.hblk_first l
    rw [HN.out] at e
    rw [e] at h
    exact h
  have HD3 := Lib.hid hd3
  have K3 : Hid (Below w.heap.size w w3) := (K1.out.trans (k2.mono K1.out.size)).trans (ho3.below (Nat.le_trans K1.out.size k2.size) HB.out)
  clear o2 k2 cur hb2 c1 c2 c3 c4 hb3 ho3 hd3 hng HD1 K1
  go_wp2_with fail
  refine (new_any w3 (HLA.out.below K3.out HLA.out.size)).mono ?_
  rintro e w4 ⟨rfl, h4, k4⟩
  obtain ⟨hg, hhg⟩ : ∃ z, Hid (z = w3.heap.size) := ⟨_, rfl⟩
  rw [← hhg.out] at h4 ⊢
  have H4 := Lib.hid h4
  have HD4 := Lib.hid (HD3.out.below k4)
  have K4 : Hid (Below w.heap.size w w4) := K3.out.trans (k4.mono K3.out.size)
  have HBG : Hid (hb ≠ hg) := by have := HD3.out.lt; have := hhg.out; rw [Hid]; omega
  have HGW : Hid (w.heap.size ≤ hg) := by rw [hhg.out]; exact K3.out.size
  clear h4 k4 HD3 K3 hhg
  go_wp2
  go_loopw [17] (fun i wr => ∃ (k : Nat), i = .int .i64 (k : Int) ∧ Hid (k ≤ n) ∧ Hid (Hd wr hb hc (M.hblk l k)) ∧ Hid (HashIs wr hg (M.hdata (l.take k))) ∧ Hid (Below w.heap.size w wr))
    (fun i _ => n - numOf i)
  case atStart => exact ⟨0, rfl, Nat.zero_le _, HD4.out, H4.out, K4.out⟩
  case round =>
    clear HD4 H4 K4 w32
    obtain ⟨wz, rfl⟩ : ∃ x, x = wr := ⟨_, rfl⟩
    obtain ⟨k, rfl, hk, hd, hh, kk⟩ := hrel
    by_cases hlt : k < n
    · have b1 : (k : Int) < (n : Int) := by omega
      have hjl : k < l.length := by rw [HN.out]; exact hlt
      have cl := HL.out
      obtain ⟨lb, lo, rfl⟩ := cl.caps.2.2.2 (fun e => by rw [e] at hjl; cases hjl)
      have ca := cl.at_ k hjl
      have cr := cl.row_ k hjl
      have hnx := fun c hc => M.hblk_next l k hjl (by rw [HN.out]; exact H40.out) c hc
      have hdx := fun c hc => M.hdata_next l k hjl c hc
      have hmem := HD.out (l.getD k (0, [])) (by rw [List.getD_eq_getElem?_getD, List.getElem?_eq_getElem hjl]; exact List.getElem_mem _)
      obtain ⟨ch, hch⟩ : ∃ p, p = l.getD k (0, []) := ⟨_, rfl⟩
      have HNX := Lib.hid (hnx ch hch)
      have HDX := Lib.hid (hdx ch hch)
      rw [← hch] at hmem ca cr
      obtain ⟨p, y⟩ := ch
      obtain ⟨pn, hpn⟩ : ∃ z : Nat, p = (z : Int) := ⟨p.toNat, by have := hmem.1; simp only at this; omega⟩
      subst hpn
      obtain ⟨xv, hx⟩ : ∃ p, p = xs.getD k undef := ⟨_, rfl⟩
      rw [← hx] at ca cr
      obtain ⟨xa, xc, ex⟩ := cr.1.shape
      have h256 : y.length = 256 := hmem.2.2
      rw [h256] at ex
      subst ex
      have c0 : wz.cell? ⟨lb, lo + k * 2, none⟩ = some (.int .i64 (pn : Int)) := (kk.out.cell (p := ⟨lb, lo + k * 2, none⟩) (World.block_lt_of_cell? w _ ca.1)).trans ca.1
      have c1 : wz.cell? ⟨lb, lo + k * 2 + 1, none⟩ = some (.slice xa 256 xc) := (kk.out.cell (p := ⟨lb, lo + k * 2 + 1, none⟩) (World.block_lt_of_cell? w _ ca.2)).trans ca.2
      have IY : Hid (IsB w (.slice xa 256 xc) y) := cr.1
      obtain ⟨pz, hpz⟩ : ∃ z, Hid (z = wz.heap.size) := ⟨_, rfl⟩
      obtain ⟨wa, hwa⟩ : ∃ z, Hid (z = wz.alloc (.cells #[.int .i64 (pn : Int), .slice xa 256 xc] 56)) := ⟨_, rfl⟩
      have kwa : Below wz.heap.size wz wa := by rw [hwa.out]; exact (Below.refl _ _).alloc (Nat.le_refl _) _
      have bz : Blk wa pz 56 [.int .i64 (pn : Int), .slice xa 256 xc] := by rw [hwa.out]; exact Blk.newAt _ _ _ _ _ hpz.out rfl
      have BZ := Lib.hid bz
      have HDA := Lib.hid (hd.out.below kwa)
      have HHA := Lib.hid (hh.out.below kwa hh.out.lt)
      have KA : Hid (Below w.heap.size w wa) := kk.out.trans (kwa.mono kk.out.size)
      have HPZ : Hid (pz ≠ hb ∧ pz ≠ hg) := by have := hd.out.lt; have := hh.out.lt; have := hpz.out; rw [Hid]; omega
      have HP := Lib.hid hmem
      have HJ := Lib.hid hlt
      have HK40 : Hid (k < 40) := by have := H40.out; rw [Hid]; omega
      have g2 : (0 : Int) ≤ (k : Int) := Int.natCast_nonneg k
      have g3 : ((k : Int)).toNat = k := Int.toNat_natCast k
      clear ca cr hmem hch hx cl hjl hnx hdx kwa hlt bz hd hh kk h256
      go_upto_region 7 with fail
      rw [← hwa.out, ← hpz.out]
      clear hwa hpz c0 c1
      have a1 : IntKind.i64.wrap (1 + (k : Int)) = ((1 + k : Nat) : Int) := by have := HK40.out; exact IntWalk.i64_in _ (by omega)
      have a2 : IntKind.i64.wrap (4 * ((1 + k : Nat) : Int)) = ((4 * (1 + k) : Nat) : Int) := by have := HK40.out; exact IntWalk.i64_in _ (by omega)
      have a3 := from_blk10 hb 256 hc (4 * (1 + k)) (by have := HK40.out; omega) HCL.out
      have a4 : IntKind.u32.wrap (pn : Int) = (pn : Int) := by have := u32_of (pn : Int) ⟨HP.out.1, HP.out.2.1⟩; rwa [Int.toNat_natCast] at this
      obtain ⟨j1, hj1⟩ : ∃ j, j = 1 + k := ⟨_, rfl⟩
      rw [← hj1] at a1 a2 a3
      have HJ1 := Lib.hid hj1
      obtain ⟨j4, hj4⟩ : ∃ j, j = 4 * j1 := ⟨_, rfl⟩
      rw [← hj4] at a2 a3
      have HJ4 := Lib.hid hj4
      have HJ160 : Hid (j4 < 256) := by have := HK40.out; rw [Hid]; omega
      have A1 := Lib.hid a1
      have A2 := Lib.hid a2
      have A3 := Lib.hid a3
      have A4 := Lib.hid a4
      clear hj1 hj4 a1 a2 a3 a4
      refine wp_region_any (by kernel_rfl) ?_
      change wpAny _ _ _ _ _ _ _ (World.drew _)
      refine wpAny_of_held (S := fun w' => w'.cell? ⟨pz, 0, none⟩ = some (.int .i64 (pn : Int))) _ _ _ _ ?_
      have S0 : wa.drew.cell? ⟨pz, 0, none⟩ = some (.int .i64 (pn : Int)) := BZ.out.cell 0
      refine wpAnyH_take_at (i := 0) (v := .slice (some ⟨hb, 0, none⟩) 256 hc) rfl rfl (by kernel_rfl) (by kernel_rfl) (by kernel_rfl) (fun _ _ _ h => h) (Or.inl ⟨by rfl, fun w hS => by go_simp⟩) S0 ?_
      simp only [List.setIfInBounds_toArray, List.set_cons_zero, List.set_cons_succ]
      refine wpAnyH_take_at (i := 1) (v := .int .i64 (k : Int)) rfl rfl (by kernel_rfl) (by kernel_rfl) (by kernel_rfl) (fun _ _ _ h => h) (Or.inl ⟨by rfl, fun w hS => by go_simp⟩) S0 ?_
      simp only [List.setIfInBounds_toArray, List.set_cons_zero, List.set_cons_succ]
      refine wpAnyH_take_at (i := 2) (v := .int .i64 (j1 : Int)) rfl rfl (by kernel_rfl) (by kernel_rfl) (by kernel_rfl) (fun _ _ _ h => h) (Or.inl ⟨by rfl, fun w hS => by have e := A1.out; go_simp⟩) S0 ?_
      simp only [List.setIfInBounds_toArray, List.set_cons_zero, List.set_cons_succ]
      refine wpAnyH_take_at (i := 3) (v := .int .i64 (j4 : Int)) rfl rfl (by kernel_rfl) (by kernel_rfl) (by kernel_rfl) (fun _ _ _ h => h) (Or.inl ⟨by rfl, fun w hS => by have e := A2.out; go_simp⟩) S0 ?_
      simp only [List.setIfInBounds_toArray, List.set_cons_zero, List.set_cons_succ]
      refine wpAnyH_take_at (i := 4) (v := .slice (some ⟨hb, j4, none⟩) (256 - j4) (hc - j4)) rfl rfl (by kernel_rfl) (by kernel_rfl) (by kernel_rfl) (fun _ _ _ h => h) (Or.inl ⟨by rfl, fun w hS => by have e := A3.out; have e2 := HCL.out; have e3 := HJ160.out; have e4 : ¬ hc = j4 := (by omega); go_simp⟩) S0 ?_
      simp only [List.setIfInBounds_toArray, List.set_cons_zero, List.set_cons_succ]
      refine wpAnyH_take_at (i := 5) (v := .pointer (some ⟨pz, 0, none⟩)) rfl rfl (by kernel_rfl) (by kernel_rfl) (by kernel_rfl) (fun _ _ _ h => h) (Or.inl ⟨by rfl, fun w hS => by go_simp⟩) S0 ?_
      simp only [List.setIfInBounds_toArray, List.set_cons_zero, List.set_cons_succ]
      refine wpAnyH_take_at (i := 6) (v := .int .i64 (pn : Int)) rfl rfl (by kernel_rfl) (by kernel_rfl) (by kernel_rfl) (fun _ _ _ h => h) (Or.inl ⟨by rfl, fun w hS => by have c := hS; go_simp⟩) S0 ?_
      simp only [List.setIfInBounds_toArray, List.set_cons_zero, List.set_cons_succ]
      refine wpAnyH_take_at (i := 7) (v := .int .u32 (pn : Int)) rfl rfl (by kernel_rfl) (by kernel_rfl) (by kernel_rfl) (fun _ _ _ h => h) (Or.inl ⟨by rfl, fun w hS => by have e := A4.out; go_simp⟩) S0 ?_
      simp only [List.setIfInBounds_toArray, List.set_cons_zero, List.set_cons_succ]
      refine wpAnyH_ready (rs := [8]) (by kernel_rfl) (by simp) ?_
      refine AllReadyH.cons rfl (fun K hK => ?_) AllReadyH.nil
      go_simp
      refine (put32_any pn wa.drew (by have := HP.out; omega)).mono ?_
      rintro e w5 ⟨pv, rfl, o5, k5⟩
      obtain ⟨pg, pc, rfl, hpg⟩ := o5.shape (by rw [M.le_length]; decide)
      have kd : Below wa.heap.size wa w5 := (drewN_below (Below.refl _ wa) 1).trans k5
      refine hK.out _ _ ((BZ.out.below kd BZ.out.lt).cell 0) (fun _ => ?_)
      clear hK K S0
      obtain ⟨cur, hb5, c1, c2, c3, c4⟩ := HDA.out.below kd
      have e256 : (M.hblk l k).length = 256 := M.hblk_256 l k (by have := HN.out; have := HJ.out; omega) (by have := HN.out; have := H40.out; omega)
      refine wpAnyH_ready (rs := [9]) (by kernel_rfl) (by simp) ?_
      refine AllReadyH.cons rfl (fun K hK => ?_) AllReadyH.nil
      rw [e256] at c2 c4
      refine step_copy_blk10 rfl (.tmp 26) (.tmp 30) 34 34 rfl 5 Tryd.underlying34 (by kernel_rfl) hb j4 (256 - j4) (hc - j4) ⟨pg, 0, none⟩ (M.le pn 4).length pc rfl rfl cur 5 hb5 (Lib.byteCells (M.le pn 4)) (by rw [byteCells_length, M.le_length]; have := HJ4.out; have := HJ1.out; have := HK40.out; exact (Nat.min_eq_left (by omega)).symm) o5.cells (by rw [byteCells_length, M.le_length]; have := HJ4.out; have := HJ1.out; have := HK40.out; omega) (byteCells_oneCell _) ?_
      intro w6 hb6 ho6
      have hd6 : Hd w6 hb hc (M.hblk l (k + 1)) := by
        have h := Hd.lay (bs := M.hblk l k) (o := j4) c1 (by rw [e256]; exact c2) c3 (by rw [e256]; exact c4) (by rw [e256, M.le_length]; have := HJ4.out; have := HJ1.out; have := HK40.out; omega) hb6
        have e : (M.hblk l k).take (4 * (1 + k)) ++ M.le pn 4 ++ (M.hblk l k).drop (4 * (1 + k) + (M.le pn 4).length) = M.hblk l (k + 1) := HNX.out
        rw [← HJ1.out, ← HJ4.out] at e
        rw [e] at h
        exact h
      have HD6 := Lib.hid hd6
      have HH6 := Lib.hid ((HHA.out.below kd HHA.out.lt).only ho6 fun e => HBG.out e.symm)
      have B6 := (BZ.out.below kd BZ.out.lt).grown ho6 (by intro e; injection e with e; exact HPZ.out.1 e)
      have hs5 := kd.size
      have K6 : Hid (Below w.heap.size w w6) := (KA.out.trans (kd.mono KA.out.size)).trans (ho6.below (Nat.le_trans KA.out.size hs5) HB.out)
      have BZ6 := Lib.hid B6
      refine hK.out _ _ (B6.cell 0) (fun _ => ?_)
      have S6 := B6.cell 0
      clear hK K hd6 B6 hs5 hb6 ho6 c1 c2 c3 c4 hb5 kd k5 o5 e256 hpg HDA HHA KA BZ
      refine wpAnyH_done (by kernel_rfl) ?_ _
      have cz1 : w6.cell? ⟨pz, 1, none⟩ = some (.slice xa 256 xc) := BZ6.out.cell 1
      clear S6
      go_wp2_with fail
      refine (add_any hg (M.hdata (l.take k)) y (.slice xa 256 xc) w6 (HLA.out.below K6.out HLA.out.size) (Nat.le_trans HLA.out.size HGW.out) HH6.out (IY.out.below K6.out) (IY.out.off HGW.out) (by
        have e1 := M.hdata_le (l.take k) fun c hc => (HD.out c (List.mem_of_mem_take hc)).2.2
        have e2 : y.length = 256 := HP.out.2.2
        have := HK40.out
        rw [e1, e2, List.length_take]
        omega)).mono ?_
      rintro e w7 ⟨rfl, h7, o7⟩
      have HD7 := Lib.hid (HD6.out.only o7 HBG.out)
      have H7 := Lib.hid h7
      rw [HDX.out] at H7
      have K7 : Hid (Below w.heap.size w w7) := K6.out.trans (o7.below K6.out.size HGW.out)
      have n3 : wrap64 ((k : Int) + 1) = ((k + 1 : Nat) : Int) := by have := HK40.out; unfold wrap64; omega
      have N3 := Lib.hid n3
      clear n3 h7 o7 HD6 HH6 K6 BZ6 cz1
      go_wp2
      go_roundw
      case rel => exact ⟨k + 1, by first | rw [N3.out] | rfl, HJ.out, HD7, H7, K7⟩
      case measure =>
        first | rw [N3.out] | skip
        exact step_down HJ.out
    · have b1 : ¬ (k : Int) < (n : Int) := by omega
      obtain rfl : k = n := by have := hk.out; omega
      have et : l.take k = l := by rw [← HN.out, List.take_length]
      rw [et] at hh
      have eh : M.hblk l k = M.hblk l l.length := by rw [HN.out]
      rw [eh] at hd
      have e256 : (M.hblk l l.length).length = 256 := M.hblk_256 l _ (Nat.le_refl _) (by rw [HN.out]; exact h40)
      have ib := (hd.out.own (Nat.zero_le _)).isB
      rw [e256] at ib
      have IF := Lib.hid (ib.front10 (show 224 ≤ 256 by decide))
      have HHX := Lib.hid hh.out
      have HDX := Lib.hid hd.out
      have KX := Lib.hid kk.out
      have E256 := Lib.hid e256
      have b2 : 224 ≤ hc := by have := HCL.out; omega
      have b3 : (224 : Int) ≤ (hc : Int) := by omega
      have b4 : hc ≤ maxLen := by obtain ⟨_, _, _, _, h, _⟩ := hd.out; exact h
      have hsl : ∀ W : World, (Instr.slice 34 (.slice (some ⟨hb, 0, none⟩) 256 hc) none (some (.int .i64 224)) none).run Tryd.prog W = .ok (.slice (some ⟨hb, 0, none⟩) 224 hc) W := fun W => by
        have hel : Tryd.prog.elem 34 = 5 := by simp [Program.elem, Tryd.underlying34]
        rw [run_slice_h W 34 _ 256 hc (by rw [hel]; exact Tryd.underlying34) .i64 224 (by omega) (by omega), hel, Tryd.sizeOf5]
        simp [sliced, Addr.add_lit]
      clear hd hh kk ib et eh e256 hlt
      have hpf : (M.hblk l l.length).take 224 = M.hfront l := rfl
      go_wp2_with fail
      refine (add_any hg (M.hdata l) ((M.hblk l l.length).take 224) (.slice (some ⟨hb, 0, none⟩) 224 hc) wz (HLA.out.below KX.out HLA.out.size) (Nat.le_trans HLA.out.size HGW.out) HHX.out IF.out (fun ad n c e _ => by injection e with e1 _ _; injection e1 with e1; rw [← e1]; exact HBG.out) (by
        have e1 := M.hdata_le l fun c hc => (HD.out c hc).2.2
        have := H40.out
        have := HN.out
        rw [e1, List.length_take]
        omega)).mono ?_
      rintro e w5 ⟨rfl, h5, o5⟩
      have HD5 := Lib.hid (HDX.out.only o5 HBG.out)
      have H5 := Lib.hid h5
      have K5 : Hid (Below w.heap.size w w5) := KX.out.trans (o5.below KX.out.size HGW.out)
      have A3 := Lib.hid (from_blk10 hb 256 hc 224 (by decide) HCL.out)
      clear h5 o5 HDX HHX KX IF hsl
      go_upto_region 11 with fail
      refine wp_region_any (by kernel_rfl) ?_
      change wpAny _ _ _ _ _ _ _ (World.drew _)
      refine wpAny_of_held (S := fun w' => True) _ _ _ _ ?_
      have S0 : True := trivial
      refine wpAnyH_take_at (i := 0) (v := .slice (some ⟨hb, 0, none⟩) 256 hc) rfl rfl (by kernel_rfl) (by kernel_rfl) (by kernel_rfl) (fun _ _ _ h => h) (Or.inl ⟨by rfl, fun w hS => by go_simp⟩) S0 ?_
      simp only [List.setIfInBounds_toArray, List.set_cons_zero, List.set_cons_succ]
      refine wpAnyH_take_at (i := 1) (v := .slice (some ⟨hb, 224, none⟩) (256 - 224) (hc - 224)) rfl rfl (by kernel_rfl) (by kernel_rfl) (by kernel_rfl) (fun _ _ _ h => h) (Or.inl ⟨by rfl, fun w hS => by have e2 := HCL.out; have e4 : ¬ hc = 224 := (by omega); go_simp⟩) S0 ?_
      simp only [List.setIfInBounds_toArray, List.set_cons_zero, List.set_cons_succ]
      refine wpAnyH_take_at (i := 2) (v := .pointer (some ⟨hg, 0, none⟩)) rfl rfl (by kernel_rfl) (by kernel_rfl) (by kernel_rfl) (fun _ _ _ h => h) (Or.inl ⟨by rfl, fun w hS => by go_simp⟩) S0 ?_
      simp only [List.setIfInBounds_toArray, List.set_cons_zero, List.set_cons_succ]
      refine wpAnyH_ready (rs := [3]) (by kernel_rfl) (by simp) ?_
      refine AllReadyH.cons rfl (fun K hK => ?_) AllReadyH.nil
      go_simp
      have kd := (drewN_below (Below.refl w5.heap.size w5) 1 : Below w5.heap.size w5 w5.drew)
      refine (sum_any hg _ w5.drew ((HLA.out.below K5.out HLA.out.size).below kd (Nat.le_trans HLA.out.size K5.out.size)) (H5.out.below kd H5.out.lt) (by
        have e1 := M.hdata_le l fun c hc => (HD.out c hc).2.2
        have := H40.out
        have := HN.out
        rw [List.length_append, e1, List.length_take]
        omega)).mono ?_
      rintro e w6 ⟨sv, rfl, o6, k6⟩
      obtain ⟨sg, sc, rfl, hsg⟩ := o6.shape (by rw [M.sha_length]; decide)
      have k56 : Below w5.heap.size w5 w6 := kd.trans k6
      refine hK.out _ _ trivial (fun _ => ?_)
      clear hK K S0
      obtain ⟨cur, hb6, c1, c2, c3, c4⟩ := HD5.out.below k56
      have e256 := E256.out
      rw [e256] at c2 c4
      refine wpAnyH_ready (rs := [4]) (by kernel_rfl) (by simp) ?_
      refine AllReadyH.cons rfl (fun K hK => ?_) AllReadyH.nil
      refine step_copy_blk10 rfl (.tmp 42) (.tmp 44) 34 34 rfl 5 Tryd.underlying34 (by kernel_rfl) hb 224 (256 - 224) (hc - 224) ⟨sg, 0, none⟩ _ sc rfl rfl cur 5 hb6 (Lib.byteCells (M.sha (M.hdata l ++ (M.hblk l l.length).take 224))) (by rw [byteCells_length, M.sha_length]; rfl) o6.cells (by rw [byteCells_length, M.sha_length]; have := HCL.out; omega) (byteCells_oneCell _) ?_
      intro w7 hb7 ho7
      have hd7 : Hd w7 hb hc (M.headOf l) := by
        have h := Hd.lay (bs := M.hblk l l.length) (o := 224) c1 (by rw [e256]; exact c2) c3 (by rw [e256]; exact c4) (by rw [e256, M.sha_length]; decide) hb7
        have e := M.head_done l (by rw [HN.out]; exact H40.out)
        rw [hpf] at h
        rw [hpf] at e
        rw [e] at h
        exact h
      have HD7 := Lib.hid hd7
      have K7 : Hid (Below w.heap.size w w7) := (K5.out.trans (k56.mono K5.out.size)).trans (ho7.below (Nat.le_trans K5.out.size k56.size) HB.out)
      refine hK.out _ _ trivial (fun _ => ?_)
      clear hK K hd7 hb7 ho7 c1 c2 c3 c4 hb6 k56 k6 kd o6 e256 hsg HD5 H5 K5
      refine wpAnyH_done (by kernel_rfl) ?_ _
      have oo := HD7.out.own HB.out
      rw [M.headOf_length] at oo
      have OO := Lib.hid oo
      clear oo
      go_wp2
      go_ret
      exact ⟨_, rfl, OO.out, K7.out⟩

end Go.Proofs.YtlglkiknpbfnmaaDoor

namespace Go.Proofs.YtlglkiknpbfnmaaDoor
open Go.RowKit
set_option linter.unusedVariables false
set_option maxRecDepth 100000

theorem M.told_next (s : List (List UInt8)) (k : Nat) : (List.range (k + 1)).map (M.toldAt s) = (List.range k).map (M.toldAt s) ++ [M.toldAt s k] := by rw [List.range_succ, List.map_append]; rfl

theorem getD_ite {α : Type} {c : Prop} [Decidable c] (l : List α) : (if c then some l else none).getD [] = if c then l else [] := by
  split <;> rfl

theorem M.decJ_getD (s : List (List UInt8)) : (M.decJ s).getD [] = if M.toldOf s ≠ [] ∧ M.May (s.length - 42) (M.toldOf s) ∧ s.getD 0 [] = M.headOf (M.toldOf s) then M.toldOf s else [] := by
  rw [M.decJ]
  exact getD_ite _

theorem M.decJ_yes (s : List (List UInt8)) (h : M.May (s.length - 42) (M.toldOf s)) (e : s.getD 0 [] = M.headOf (M.toldOf s)) : (M.decJ s).getD [] = M.toldOf s := by
  rw [M.decJ_getD]
  by_cases h0 : M.toldOf s = []
  · rw [if_neg (fun h => h.1 h0)]
    exact h0.symm
  · rw [if_pos ⟨h0, h, e⟩]

theorem M.decJ_no (s : List (List UInt8)) (h : ¬ (M.May (s.length - 42) (M.toldOf s) ∧ s.getD 0 [] = M.headOf (M.toldOf s))) : (M.decJ s).getD [] = [] := by
  rw [M.decJ_getD, if_neg (fun h' => h h'.2)]

set_option maxHeartbeats 8000000 in
theorem whole_ok : WholeOk Laid M.decJ := by
  intro T x gw g m d hw h42 hW hL hv hvb
  have hf := d.ok.few
  have h256 : (m.safe.getD 0 []).length = 256 := d.ok.full _ (by rw [List.getD_eq_getElem?_getD, List.getElem?_eq_getElem (by omega)]; exact List.getElem_mem _)
  obtain ⟨ao, cap, rfl⟩ := hvb.shape
  obtain ⟨hb, ho, rfl⟩ : ∃ b o, ao = some ⟨b, o, none⟩ := by
    obtain ⟨ao', cap', e, h1, h2, h3⟩ := hvb
    injection e with e1 e2 e3
    rcases h3 with h | ⟨b, off, h, _⟩
    · rw [h] at h256; cases h256
    · exact ⟨b, off, by rw [e1, h]⟩
  have hcl : 256 ≤ cap := by
    obtain ⟨ao', cap', e, h1, h2, h3⟩ := hvb
    injection e with e1 e2 e3
    omega
  have HCL := Lib.hid hcl
  rw [h256] at hvb ⊢
  obtain ⟨hd, hhd⟩ : ∃ b, b = m.safe.getD 0 [] := ⟨_, rfl⟩
  rw [← hhd] at hvb
  have HHD := Lib.hid hhd
  obtain ⟨n, hn⟩ : ∃ n, n = M.toldN m.safe := ⟨_, rfl⟩
  have HN := Lib.hid hn
  have hgl : M.gl hd 4 < 4294967296 := M.gl_lt hd 4
  obtain ⟨q, hq⟩ : ∃ q, q = M.gl hd 4 := ⟨_, rfl⟩
  have hnq : n = min q 40 := by rw [hn, M.toldN, ← hhd, ← hq]
  rw [← hq] at hgl
  have n40 : n ≤ 40 := by omega
  have HQ := Lib.hid hq
  have N40 := Lib.hid n40
  have D := Lib.hid d
  have HW := Lib.hid hw
  have WI := Lib.hid hW
  have HL := Lib.hid hL
  have IH := Lib.hid hvb
  have H42 := Lib.hid h42
  have HF := Lib.hid hf
  have H256 : Hid (hd.length = 256) := by rw [Hid, hhd]; exact h256
  have cg : x.cell? ⟨gw, 0, none⟩ = some (.pointer (some ⟨g, 0, none⟩)) := hW.cell 0
  have CG := Lib.hid cg
  have m1 : (if (40 : Int) < (q : Int) then (40 : Int) else (q : Int)) = (n : Int) := by split <;> omega
  have m2 : (if (q : Int) < 40 then (q : Int) else 40) = (n : Int) := by split <;> omega
  have m3 : (min (q : Int) 40) = (n : Int) := by omega
  have m4 : (if (q : Int) ≤ 40 then (q : Int) else 40) = (n : Int) := by split <;> omega
  have CG32 := Lib.hid (get32_any (.slice (some ⟨hb, ho, none⟩) 256 cap) hd x hvb)
  rw [← hq] at CG32
  have w64 : IntKind.i64.wrap (n : Int) = (n : Int) := IntWalk.i64_in _ (by omega)
  clear d hw hW hL hvb h42 hf hhd hn hnq hq h256 hgl cg
  go_enter Tryd.func45, Tryd.ntmps45
  go_wp2_with fail
  refine CG32.out.mono ?_
  rintro e x1 ⟨rfl, rfl⟩
  go_wp2
  go_loopw [5, 6, 7, 8, 9, 14] (fun v bi b7 b8 b9 i wr => ∃ (k : Nat) (xs : List Value), i = .int .i64 (k : Int) ∧ Hid (k ≤ n) ∧ Hid (OwnCL wr x.heap.size v ((List.range k).map (M.toldAt m.safe)) xs) ∧ Hid (Below x.heap.size x wr))
    (fun v bi b7 b8 b9 i _ => n - numOf i)
  case atStart => exact ⟨0, [], rfl, Nat.zero_le _, OwnCL.nil _ _, Below.refl _ _⟩
  case round =>
    clear m1 m2 m3 m4 w64
    obtain ⟨wz, rfl⟩ : ∃ x, x = wr := ⟨_, rfl⟩
    obtain ⟨v5, rfl⟩ : ∃ x, x = u5 := ⟨_, rfl⟩
    obtain ⟨k, xs, rfl, hk, oo, kk⟩ := hrel
    by_cases hlt : k < n
    · have b1 : (k : Int) < (n : Int) := by omega
      have HK := Lib.hid hlt
      have hk40 : k < 40 := by omega
      have HK40 := Lib.hid hk40
      obtain ⟨fa, hfa, ifa⟩ := IH.out.from10 (4 * (1 + k)) (by omega)
      have efa : fa = some ⟨hb, ho + 4 * (1 + k), none⟩ ∧ True := by
        have h1 := hfa x
        rw [from9 _ 256 cap (4 * (1 + k)) (by omega) x, if_neg (by omega), Option.map_some, Addr.add_lit] at h1
        injection h1 with h1 _
        injection h1 with h1 _ _
        exact ⟨h1.symm, trivial⟩
      obtain ⟨rfl, _⟩ := efa
      have hgl := M.gl_lt (hd.drop (4 * (1 + k))) 4
      obtain ⟨p, hp⟩ : ∃ p, p = M.gl (hd.drop (4 * (1 + k))) 4 := ⟨_, rfl⟩
      have C32 := Lib.hid (get32_any _ (hd.drop (4 * (1 + k))) wz (ifa.below kk.out))
      rw [← hp] at C32 hgl
      have HGL : Hid (p < 4294967296) := hgl
      have CR := Lib.hid (codeDk_read (D.out.below kk.out) (by rw [HW.out]; decide) (1 + (k : Int)))
      have e1 : m.doRead (1 + (k : Int)) = (m.read (1 + k), 0) := by
        have h42 := H42.out
        rw [M.Dsk.doRead, if_pos ⟨by omega, by omega⟩]
        congr 2
      rw [e1] at CR
      have e2 : m.read (1 + k) = m.safe.getD (1 + k) [] := by rw [M.Dsk.read, HW.out]; rfl
      rw [e2] at CR
      obtain ⟨y, hy⟩ : ∃ y, y = m.safe.getD (1 + k) [] := ⟨_, rfl⟩
      rw [← hy] at CR
      have HYL : Hid (y.length = 256) := by
        rw [hy]
        refine D.out.ok.full _ ?_
        have h42 := H42.out
        rw [List.getD_eq_getElem?_getD, List.getElem?_eq_getElem (by omega)]
        exact List.getElem_mem _
      have HT : Hid ((List.range (k + 1)).map (M.toldAt m.safe) = (List.range k).map (M.toldAt m.safe) ++ [((p : Int), y)]) := by
        rw [Hid, M.told_next, M.toldAt, ← HHD.out, ← hp, ← hy]
      obtain ⟨lk, hlk⟩ : ∃ lk, lk = (List.range k).map (M.toldAt m.safe) := ⟨_, rfl⟩
      have HLK : Hid (lk.length = k) := by rw [Hid, hlk, List.length_map, List.length_range]
      rw [← hlk] at oo HT
      have c0 : wz.cell? ⟨gw, 0, none⟩ = some (.pointer (some ⟨g, 0, none⟩)) := (kk.out.cell (p := ⟨gw, 0, none⟩) (World.block_lt_of_cell? x _ CG.out)).trans CG.out
      have b2 : ¬ cap = 4 * (1 + k) := by omega
      clear hfa ifa hgl hp hy hlk e1 e2
      go_wp2_with fail
      refine C32.out.mono ?_
      rintro e x2 ⟨rfl, rfl⟩
      go_wp2_with fail
      refine CR.out.mono ?_
      rintro e x3 ⟨r, rfl, o3, k3⟩
      obtain ⟨ra, rc, rfl⟩ := o3.shape'
      rw [HYL.out] at o3 ⊢
      have O3 := Lib.hid o3
      have K3 := Lib.hid k3
      clear o3 k3 c0 CR C32
      have a3 : IntKind.i64.wrap (p : Int) = (p : Int) := by have := HGL.out; exact IntWalk.i64_in _ (by omega)
      obtain ⟨x4, hx4⟩ : ∃ y, Hid (y = x3.alloc (.cells #[.int .i64 (p : Int), .slice ra 256 rc] 56)) := ⟨_, rfl⟩
      obtain ⟨pp, hpp⟩ : ∃ y, Hid (y = x3.heap.size) := ⟨_, rfl⟩
      have k4 : Below wz.heap.size wz x4 := by rw [hx4.out]; exact K3.out.alloc K3.out.size _
      have k34 : Below x3.heap.size x3 x4 := by rw [hx4.out]; exact (Below.refl _ _).alloc (Nat.le_refl _) _
      have b4 : Blk x4 pp 56 [.int .i64 (p : Int), .slice ra 256 rc] := by rw [hx4.out]; exact Blk.newAt _ _ _ _ _ hpp.out rfl
      have d4 : Own x4 wz.heap.size (.slice ra 256 rc) y := by have := O3.out.below k34; rw [← HYL.out] at this ⊢; exact this
      have r4 := own_chg oo.out.row (Chg.of_below (F := fun _ => False) k4) (fun _ _ h => h)
      have R4 := Lib.hid r4
      have B4 := Lib.hid b4
      have KX4 : Hid (x.heap.size ≤ x4.heap.size) := Nat.le_trans kk.out.size k4.size
      clear r4 b4 k34
      go_upto_region 8 with (rw [← hx4.out, ← hpp.out]; refine wpList_app_row change10 _ rfl (.tmp 33) (.tmp 38) rfl x.heap.size v5 lk.length _ rfl R4.out ⟨pp, 0, none⟩ 1 1 [.int .i64 (p : Int), .slice ra 256 rc] rfl rfl (fun j u hj => by rw [Addr.add_lit, Nat.zero_add, B4.out.cell]; exact hj) (by intro u hu; simp only [List.mem_cons, List.not_mem_nil, or_false] at hu; rcases hu with rfl | rfl <;> rfl) (by have := HLK.out; have := HK40.out; unfold maxLen; omega) (by have := HLK.out; have := HK40.out; omega) KX4.out ?_; intro v6 x6 o6 g6 a6)
      have OO := Lib.hid (oo.out.add k4 kk.out.size d4 ⟨by omega, by have := HGL.out; omega⟩ o6 g6 (a6.imp_right fun h => ⟨_, h, Nat.le_refl _⟩))
      rw [← HT.out] at OO
      have KK : Hid (Below x.heap.size x x6) := (kk.out.trans (k4.mono kk.out.size)).grown g6 KX4.out fun j hj => (oo.out.row.lt j hj).1
      have n3 : wrap64 ((k : Int) + 1) = ((k + 1 : Nat) : Int) := by have := HK40.out; unfold wrap64; omega
      have N3 := Lib.hid n3
      clear n3 o6 g6 a6 d4 k4 R4 B4 KX4 O3 K3 hx4 hpp oo kk a3 b2
      obtain ⟨v6, rfl⟩ : ∃ x, x = v6 := ⟨_, rfl⟩
      go_wp2
      go_roundw
      case rel => exact ⟨k + 1, _, by first | rw [N3.out] | rfl, HK.out, OO.out, KK.out⟩
      case measure =>
        first | rw [N3.out] | skip
        exact step_down HK.out
    · have b1 : ¬ (k : Int) < (n : Int) := by omega
      obtain rfl : k = n := by have := hk.out; omega
      have e : (List.range k).map (M.toldAt m.safe) = M.toldOf m.safe := by rw [M.toldOf, HN.out]
      rw [e] at oo
      obtain ⟨L, hL⟩ : ∃ L, Hid (L = M.toldOf m.safe) := ⟨_, rfl⟩
      rw [← hL.out] at oo
      obtain ⟨va, vc, rfl⟩ := oo.out.isCL.shape
      obtain ⟨ok, hok⟩ : ∃ b, b = decide (M.May (m.safe.length - 42) L) := ⟨_, rfl⟩
      have CM := Lib.hid (wmay_any (D.out.below kk.out) H42.out (WI.out.below kk.out) _ L xs oo.out.isCL ok hok)
      have HOK := Lib.hid hok
      clear e hok hlt
      go_wp2_with fail
      refine CM.out.mono ?_
      rintro e w1 ⟨rfl, k1⟩
      have K1 : Hid (Below x.heap.size x w1) := kk.out.trans (k1.mono kk.out.size)
      have O1 := Lib.hid (oo.out.below k1)
      clear CM k1 oo kk
      cases ok with
      | false =>
        have hno : (M.decJ m.safe).getD [] = [] := M.decJ_no _ fun h => by
          have h1 := HOK.out
          rw [decide_eq_true (show M.May (m.safe.length - 42) L by rw [hL.out]; exact h.1)] at h1
          cases h1
        have HNO := Lib.hid hno
        clear hno HOK
        go_wp2
        go_ret
        exact ⟨_, [], rfl, K1.out, by rw [HNO.out]; exact (OwnCL.nil _ _).gains⟩
      | true =>
        have hmay : M.May (m.safe.length - 42) L := of_decide_eq_true HOK.out.symm
        have CH := Lib.hid (headOf_any w1 (HL.out.below K1.out HL.out.size) _ L xs O1.out.isCL hmay.1 fun c hc => by
          have h1 := hmay.2 c hc
          have h2 := HF.out
          exact ⟨h1.1, by omega, h1.2.2⟩)
        have HM := Lib.hid hmay
        clear hmay HOK
        go_wp2_with fail
        refine CH.out.mono ?_
        rintro e w2 ⟨nv, rfl, o2, k2⟩
        obtain ⟨na, nc, rfl⟩ := o2.shape'
        have CE := Lib.hid (bytesEqual_any _ _ hd (M.headOf L) w2 (IH.out.below (K1.out.trans (k2.mono K1.out.size))) o2.isB (by intro e; have := H256.out; rw [e] at this; cases this) (by intro e; have := M.headOf_length L; rw [e] at this; cases this))
        obtain ⟨eq, heq⟩ : ∃ b, b = decide (hd = M.headOf L) := ⟨_, rfl⟩
        rw [← heq] at CE
        have HEQ := Lib.hid heq
        have K2 : Hid (Below x.heap.size x w2) := K1.out.trans (k2.mono K1.out.size)
        have O2 := Lib.hid (O1.out.below k2)
        clear CH o2 k2 heq O1 K1
        go_wp2_with fail
        refine CE.out.mono ?_
        rintro e w3 ⟨rfl, rfl⟩
        clear CE
        cases eq with
        | false =>
          have hno : (M.decJ m.safe).getD [] = [] := M.decJ_no _ fun h => by
            have h1 := HEQ.out
            rw [decide_eq_true (show hd = M.headOf L by rw [hL.out, HHD.out]; exact h.2)] at h1
            cases h1
          have HNO := Lib.hid hno
          clear hno HEQ
          go_wp2
          go_ret
          exact ⟨_, [], rfl, K2.out, by rw [HNO.out]; exact (OwnCL.nil _ _).gains⟩
        | true =>
          have hyes : (M.decJ m.safe).getD [] = L := by
            rw [hL.out]
            exact M.decJ_yes _ (by rw [← hL.out]; exact HM.out) (by rw [← HHD.out, ← hL.out]; exact of_decide_eq_true HEQ.out.symm)
          have HY := Lib.hid hyes
          clear hyes HEQ
          go_wp2
          go_ret
          exact ⟨_, xs, rfl, K2.out, by rw [HY.out]; exact O2.out.gains⟩

end Go.Proofs.YtlglkiknpbfnmaaDoor

namespace Go.Proofs.YtlglkiknpbfnmaaDoor
open Go.RowKit
set_option linter.unusedVariables false
set_option maxRecDepth 100000

namespace M
theorem bytesAt_drop : ∀ (l : CL) (k j : Nat), j < l.length → (bytesAt l k).drop j = (k + j, (l.getD j (0, [])).2) :: (bytesAt l k).drop (j + 1)
  | c :: r, k, 0, _ => rfl
  | c :: r, k, j + 1, h => by
    have ih := bytesAt_drop r (k + 1) j (by simpa using h)
    rw [bytesAt, List.drop_succ_cons, List.drop_succ_cons, ih, show k + 1 + j = k + (j + 1) by omega]
    rfl

theorem bytes_step (l : CL) (j : Nat) (m : Dsk) (h : j < l.length) : writes ((bytesAt l 1).drop j) m = if (m.doWrite (1 + (j : Int)) (l.getD j (0, [])).2).2 = 0 then writes ((bytesAt l 1).drop (j + 1)) (m.doWrite (1 + (j : Int)) (l.getD j (0, [])).2).1 else m.doWrite (1 + (j : Int)) (l.getD j (0, [])).2 := by
  have e : (((1 + j : Nat)) : Int) = 1 + (j : Int) := by omega
  rw [bytesAt_drop l 1 j h, writes]
  simp only [e]

theorem writes_one (m : Dsk) (b : List UInt8) : writes [(0, b)] m = m.doWrite 0 b := by
  show (if (m.doWrite ((0 : Nat) : Int) b).2 = 0 then ((m.doWrite ((0 : Nat) : Int) b).1, (0 : Int)) else m.doWrite ((0 : Nat) : Int) b) = m.doWrite ((0 : Nat) : Int) b
  split
  · rename_i h
    exact Prod.ext rfl h.symm
  · rfl

theorem grow_writes : ∀ (ws : List (Nat × List UInt8)) (m : Dsk), (writes ws m).1.wait.length ≤ m.wait.length + ws.length ∧ (writes ws m).1.safe.length = m.safe.length
  | [], m => ⟨Nat.le_refl _, rfl⟩
  | c :: r, m => by
    have h := wait_write m (c.1 : Int) c.2
    rw [writes]
    split
    · have := grow_writes r (m.doWrite (c.1 : Int) c.2).1
      rw [List.length_cons]
      exact ⟨by omega, by rw [this.2, write_len]⟩
    · rw [List.length_cons]
      exact ⟨by omega, write_len _ _ _⟩

theorem grow_cons (p : Dsk → Dsk × Int) (ps : List (Dsk → Dsk × Int)) (x y : Nat) (h1 : ∀ m, (p m).1.wait.length ≤ m.wait.length + x ∧ (p m).1.safe.length = m.safe.length) (h2 : ∀ m, (phases ps m).1.wait.length ≤ m.wait.length + y ∧ (phases ps m).1.safe.length = m.safe.length) (m : Dsk) :
    (phases (p :: ps) m).1.wait.length ≤ m.wait.length + (x + y) ∧ (phases (p :: ps) m).1.safe.length = m.safe.length := by
  have a := h1 m
  rw [phases]
  split
  · have b := h2 (p m).1
    exact ⟨by omega, by rw [b.2, a.2]⟩
  · exact ⟨by omega, a.2⟩

theorem grow_sync (m : Dsk) : m.doSync.1.wait.length ≤ m.wait.length + 1 ∧ m.doSync.1.safe.length = m.safe.length := ⟨wait_sync m, sync_len m⟩

theorem grow_settle {dec : List (List UInt8) → Option CL} (h40 : ∀ s, ((dec s).getD []).length ≤ 40) (m : Dsk) : (settle dec m).1.wait.length ≤ m.wait.length + 100 ∧ (settle dec m).1.safe.length = m.safe.length := by
  have hs := grow_sync m
  rw [settle]
  split
  · split
    · exact ⟨Nat.le_trans hs.1 (by omega), hs.2⟩
    · have h := h40 m.doSync.1.safe
      have g := grow_cons (lays ((dec m.doSync.1.safe).getD [])) [Dsk.doSync, forgets, Dsk.doSync] 40 (1 + (1 + (1 + 0))) (fun m' => by have := wait_lays ((dec m.doSync.1.safe).getD []) m'; exact ⟨by omega, lays_len _ m'⟩)
        (grow_cons _ _ 1 _ grow_sync (grow_cons _ _ 1 _ (fun m' => by have := wait_write m' 0 zero256; exact ⟨this, write_len m' 0 zero256⟩) (grow_cons _ _ 1 _ grow_sync fun m' => ⟨Nat.le_refl _, rfl⟩))) m.doSync.1
      exact ⟨by omega, g.2.trans hs.2⟩
  · exact ⟨Nat.le_trans hs.1 (by omega), hs.2⟩

theorem dec_le (s : List (List UInt8)) : ((decJ s).getD []).length ≤ 40 := by
  rw [decJ_getD]
  split
  · rw [toldOf, List.length_map, List.length_range]
    exact Nat.min_le_right _ _
  · exact Nat.zero_le _

theorem dec_may (s : List (List UInt8)) : May (s.length - 42) ((decJ s).getD []) := by
  rw [decJ_getD]
  split
  · rename_i h
    exact h.2.1
  · exact ⟨by decide, fun c hc => by cases hc⟩
end M

set_option maxHeartbeats 8000000 in
theorem does_log (K : World → Prop) (g nb : Nat) (lv : Value) (l : M.CL) (xs : List Value) (hk : ∀ x, K x → IsCL x lv l xs) (hl : l.length ≤ 40) :
    Does K g nb 31 #[.agg #[.pointer (some ⟨g, 0, none⟩), lv]] (M.writes (M.bytesAt l 1)) := by
  intro T x m d _ hw k
  obtain ⟨ao, cap, rfl⟩ := (hk x k.now).shape
  have HK := Lib.hid hk
  obtain ⟨n, hn⟩ : ∃ n, n = l.length := ⟨_, rfl⟩
  rw [← hn] at HK hl ⊢
  have HN : Hid (l.length = n) := hn.symm
  have H40 := Lib.hid hl
  obtain ⟨R, hR⟩ : ∃ R, Hid (R = M.writes (M.bytesAt l 1) m) := ⟨_, rfl⟩
  rw [← hR.out]
  obtain ⟨G, hG⟩ : ∃ G, Hid (G = x.heap.size) := ⟨_, rfl⟩
  obtain ⟨W, hW⟩ : ∃ W, Hid (W = x.alloc (.cells #[.pointer (some ⟨g, 0, none⟩), .slice ao n cap] 68)) := ⟨_, rfl⟩
  have KW : Below x.heap.size x W := by rw [hW.out]; exact (Below.refl _ _).alloc (Nat.le_refl _) _
  have BW : Blk W G 68 [.pointer (some ⟨g, 0, none⟩), .slice ao n cap] := by rw [hW.out]; exact Blk.newAt _ _ _ _ _ hG.out rfl
  have HS : Hid (W.heap.size = G + 1) := by rw [Hid, hW.out, hG.out]; simp
  have D := Lib.hid (d.below KW)
  have C0 : Hid (Chg T x W) := Chg.of_below KW
  have KK : Hid (Keeps (fun j => T j ∨ W.heap.size ≤ j) W (fun y => K y ∧ Blk y G 68 [.pointer (some ⟨g, 0, none⟩), .slice ao n cap])) := fun y c => by
    have hlt := BW.lt
    refine ⟨k y ((Chg.of_below KW : Chg T x W).trans c fun j hj h => h.resolve_right (by have := KW.size; omega)), BW.chg c fun h => ?_⟩
    rcases h with h | h
    · have := d.there _ h
      have := hG.out
      omega
    · omega
  have HW := Lib.hid hw
  have HTX : Hid (x.heap.size ≤ W.heap.size) := KW.size
  clear hk hl hn d hw k KW BW
  go_enter Tryd.func31, Tryd.ntmps31
  go_upto_region 1 with fail
  rw [← hG.out, ← hW.out]
  clear hG hW
  have c1 : W.cell? ⟨G, 1, none⟩ = some (.slice ao n cap) := KK.out.now.2.cell 1
  go_wp2
  go_loopw [9] (fun i wr => ∃ (j : Nat) (m' : M.Dsk) (T' : Nat → Prop), i = .int .i64 (j : Int) ∧ Hid (j ≤ n) ∧ Hid (m'.wait.length ≤ m.wait.length + j) ∧ Hid (M.writes ((M.bytesAt l 1).drop j) m' = R) ∧ Hid (CodeDk T' wr g m') ∧ Hid (Chg T x wr) ∧ Hid (∀ k, T' k → T k ∨ W.heap.size ≤ k) ∧ Hid (W.heap.size ≤ wr.heap.size) ∧ Hid (Keeps T' wr (fun y => K y ∧ Blk y G 68 [.pointer (some ⟨g, 0, none⟩), .slice ao n cap])))
    (fun i _ => n - numOf i)
  case atStart => exact ⟨0, m, T, rfl, Nat.zero_le _, Nat.le_refl _, by rw [List.drop_zero]; exact hR.out.symm, D, C0, fun k h => .inl h, Nat.le_refl _, KK.out.less fun _ h => .inl h⟩
  case round =>
    clear D C0 KK c1
    obtain ⟨wz, rfl⟩ : ∃ x, x = wr := ⟨_, rfl⟩
    obtain ⟨j, m', T', rfl, hj, hwt, hr, d, c, ht, hsz, kk⟩ := hrel
    by_cases hlt : j < n
    · have b1 : (j : Int) < (n : Int) := by omega
      have hjl : j < l.length := by rw [HN.out]; exact hlt
      have cl := HK.out _ kk.out.now.1
      obtain ⟨lb, lo, rfl⟩ := cl.caps.2.2.2 (fun e => by rw [e] at hjl; cases hjl)
      have ca := cl.at_ j hjl
      have cr := cl.row_ j hjl
      have hst := M.bytes_step l j m' hjl
      obtain ⟨p, hp⟩ : ∃ p, p = (l.getD j (0, [])).1 := ⟨_, rfl⟩
      obtain ⟨y, hy⟩ : ∃ p, p = (l.getD j (0, [])).2 := ⟨_, rfl⟩
      obtain ⟨xv, hx⟩ : ∃ p, p = xs.getD j undef := ⟨_, rfl⟩
      rw [← hy] at hst
      rw [← hp, ← hx] at ca
      rw [← hx, ← hy] at cr
      obtain ⟨xa, xc, ex⟩ := cr.1.shape
      obtain ⟨yn, hyn⟩ : ∃ n, n = y.length := ⟨_, rfl⟩
      rw [← hyn] at ex
      subst ex
      have c0 : wz.cell? ⟨lb, lo + j * 2, none⟩ = some (.int .i64 p) := ca.1
      have c1 : wz.cell? ⟨lb, lo + j * 2 + 1, none⟩ = some (.slice xa yn xc) := ca.2
      have cG : wz.cell? ⟨G, 0, none⟩ = some (.pointer (some ⟨g, 0, none⟩)) := kk.out.now.2.cell 0
      obtain ⟨pz, hpz⟩ : ∃ z, Hid (z = wz.heap.size) := ⟨_, rfl⟩
      obtain ⟨wa, hwa⟩ : ∃ z, Hid (z = wz.alloc (.cells #[.int .i64 p, .slice xa yn xc] 56)) := ⟨_, rfl⟩
      have kwa : Below wz.heap.size wz wa := by rw [hwa.out]; exact (Below.refl _ _).alloc (Nat.le_refl _) _
      have bz : Blk wa pz 56 [.int .i64 p, .slice xa yn xc] := by rw [hwa.out]; exact Blk.newAt _ _ _ _ _ hpz.out rfl
      have cz0 : wa.cell? ⟨pz, 0, none⟩ = some (.int .i64 p) := bz.cell 0
      have cz1 : wa.cell? ⟨pz, 1, none⟩ = some (.slice xa yn xc) := bz.cell 1
      obtain ⟨pp, hpp⟩ : ∃ z, z = 1 + (j : Int) := ⟨_, rfl⟩
      rw [← hpp] at hst
      have hwb : m'.wait.length < 1000000 := by have := hwt.out; have := HW.out; have := H40.out; omega
      have w42 : wrap64 (1 + (j : Int)) = pp := by rw [hpp]; clear hpp hst; have := H40.out; unfold wrap64; omega
      have cGa : wa.cell? ⟨G, 0, none⟩ = some (.pointer (some ⟨g, 0, none⟩)) := (kwa.cell (p := ⟨G, 0, none⟩) (World.block_lt_of_cell? wz _ cG)).trans cG
      have CW := Lib.hid (codeDk_write (d.out.below kwa) pp (.slice xa yn xc) y (cr.1.below kwa) hwb)
      have HWW := Lib.hid (M.wait_write m' pp y)
      obtain ⟨q, hq⟩ : ∃ q, Hid (q = m'.doWrite pp y) := ⟨_, rfl⟩
      rw [← hq.out] at CW HWW hst
      obtain ⟨cd, hcd⟩ : ∃ c, Hid (c = q.2) := ⟨_, rfl⟩
      have hr' := hr.out
      rw [hst, ← hcd.out] at hr'
      rw [← hcd.out] at CW
      have HR := Lib.hid hr'
      have KWA := Lib.hid kwa
      have HJ := Lib.hid hlt
      have g2 : (0 : Int) ≤ (j : Int) := Int.natCast_nonneg j
      have g3 : ((j : Int)).toNat = j := Int.toNat_natCast j
      clear hwb ca cr hst hp hy hx hyn hr hr' cl hjl kwa hlt cG hpp bz
      go_upto_region 4 with fail
      rw [← hwa.out, ← hpz.out]
      clear hwa hpz c0 c1
      go_wp2_with fail
      refine CW.out.mono ?_
      rintro e w1 ⟨rfl, e1, T1, d1, t1⟩
      have CC : Hid (Chg T x w1) := (c.out.trans (Chg.of_below KWA.out : Chg T wz _) fun _ _ h => h).trans e1 fun k hk h => (ht.out k h).resolve_right (by have := HTX.out; omega)
      have DD := Lib.hid d1
      have KN := Lib.hid ((kk.out.below KWA.out).next e1 t1)
      have hs1 := hsz.out
      have hs2 := KWA.out.size
      have TT : Hid (∀ k, T1 k → T k ∨ W.heap.size ≤ k) := fun k h => by
        rcases t1 k h with h | h
        · exact ht.out k h
        · exact .inr (by omega)
      have SZ : Hid (W.heap.size ≤ w1.heap.size) := by rw [Hid]; have := e1.size; omega
      clear CW e1 d1 t1 hs1 hs2 cGa cz0 cz1 w42
      by_cases h0 : cd = 0
      · have t0 : (cd != 0) = false := by rw [h0]; rfl
        have HR2 : Hid (M.writes ((M.bytesAt l 1).drop (j + 1)) q.1 = R) := by have := HR.out; rwa [if_pos h0] at this
        have n3 : wrap64 ((j : Int) + 1) = ((j + 1 : Nat) : Int) := by have := HJ.out; have := H40.out; unfold wrap64; omega
        have N3 := Lib.hid n3
        have HWN : Hid (q.1.wait.length ≤ m.wait.length + (j + 1)) := by rw [Hid]; have := HWW.out; have := hwt.out; omega
        clear n3 h0 HR d c ht kk hsz
        go_wp2
        go_roundw
        case rel => exact ⟨j + 1, q.1, T1, by first | rw [N3.out] | rfl, HJ.out, HWN, HR2, DD, CC, TT, SZ, KN⟩
        case measure =>
          first | rw [N3.out] | skip
          exact step_down HJ.out
      · have t0 : (cd != 0) = true := by simpa using h0
        have HR2 : Hid (q = R) := by have := HR.out; rwa [if_neg h0] at this
        clear h0 HR d c ht kk hsz
        go_wp2
        go_ret
        exact ⟨by rw [hcd.out, HR2.out]; rfl, CC.out, T1, by rw [← HR2.out]; exact DD.out, fun k h => (TT.out k h).imp_right fun h => Nat.le_trans HTX.out h⟩
    · have b1 : ¬ (j : Int) < (n : Int) := by omega
      have e : (M.bytesAt l 1).drop j = [] := List.drop_eq_nil_of_le (by rw [M.bytesAt_len, HN.out]; omega)
      have hr2 := hr.out
      rw [e] at hr2
      have HR2 : Hid ((m', (0 : Int)) = R) := hr2
      clear e hr2 hlt hr
      go_wp2
      go_ret
      exact ⟨by rw [← HR2.out]; rfl, c.out, T', by rw [← HR2.out]; exact d.out, fun k h => (ht.out k h).imp_right fun h => Nat.le_trans HTX.out h⟩

set_option maxHeartbeats 4000000 in
theorem does_tell (K : World → Prop) (g nb : Nat) (lv : Value) (l : M.CL) (xs : List Value) (hk : ∀ x, K x → IsCL x lv l xs ∧ Laid x) (h40 : l.length ≤ 40) (hd : ∀ c ∈ l, 0 ≤ c.1 ∧ c.1 < 4294967296 ∧ c.2.length = 256) :
    Does K g nb 33 #[.agg #[.pointer (some ⟨g, 0, none⟩), lv]] (M.writes [(0, M.headOf l)]) := by
  intro T x m d _ hw k
  obtain ⟨a, c, rfl⟩ := (hk x k.now).1.shape
  have D := Lib.hid d
  have HW := Lib.hid hw
  have HK := Lib.hid hk
  have KK := Lib.hid k
  obtain ⟨n, hn⟩ : ∃ n, n = l.length := ⟨_, rfl⟩
  rw [← hn] at HK ⊢
  obtain ⟨G, hG⟩ : ∃ G, Hid (G = x.heap.size) := ⟨_, rfl⟩
  obtain ⟨W, hW⟩ : ∃ W, Hid (W = x.alloc (.cells #[.pointer (some ⟨g, 0, none⟩), .slice a n c] 68)) := ⟨_, rfl⟩
  have KW : Hid (Below x.heap.size x W) := by rw [hW.out]; exact (Below.refl _ _).alloc (Nat.le_refl _) _
  have BW : Hid (Blk W G 68 [.pointer (some ⟨g, 0, none⟩), .slice a n c]) := by rw [hW.out]; exact Blk.newAt _ _ _ _ _ hG.out rfl
  have CH := Lib.hid (fun y (ky : Below x.heap.size x y) => headOf_any y (HK.out _ (KK.out.below ky).now).2 (.slice a n c) l xs (HK.out _ (KK.out.below ky).now).1 h40 hd)
  clear d hw k hk hn
  go_enter Tryd.func33, Tryd.ntmps33
  go_upto_region 1 with fail
  rw [← hG.out, ← hW.out]
  have HGX : Hid (∀ k, T k → k ≠ G) := fun k hk => by have := D.out.there k hk; rw [hG.out]; omega
  clear hG hW
  go_upto_region 1 with fail
  refine wp_region_any (by kernel_rfl) ?_
  change wpAny _ _ _ _ _ _ _ (World.drew _)
  refine wpAny_of_held (S := fun w' => w'.cell? ⟨G, 0, none⟩ = some (.pointer (some ⟨g, 0, none⟩)) ∧ w'.cell? ⟨G, 1, none⟩ = some (.slice a n c)) _ _ _ _ ?_
  have S0 : W.drew.cell? ⟨G, 0, none⟩ = some (.pointer (some ⟨g, 0, none⟩)) ∧ W.drew.cell? ⟨G, 1, none⟩ = some (.slice a n c) := ⟨BW.out.cell 0, BW.out.cell 1⟩
  refine wpAnyH_take_at (i := 0) (v := .pointer (some ⟨G, 0, none⟩)) rfl rfl (by kernel_rfl) (by kernel_rfl) (by kernel_rfl) (fun _ _ _ h => h) (Or.inl ⟨by rfl, fun w hS => by go_simp⟩) S0 ?_
  simp only [List.setIfInBounds_toArray, List.set_cons_zero, List.set_cons_succ]
  refine wpAnyH_take_at (i := 1) (v := .pointer (some ⟨g, 0, none⟩)) rfl rfl (by kernel_rfl) (by kernel_rfl) (by kernel_rfl) (fun _ _ _ h => h) (Or.inl ⟨by rfl, fun w hS => by have c := hS.1; go_simp⟩) S0 ?_
  simp only [List.setIfInBounds_toArray, List.set_cons_zero, List.set_cons_succ]
  refine wpAnyH_take_at (i := 2) (v := .pointer (some ⟨G, 1, none⟩)) rfl rfl (by kernel_rfl) (by kernel_rfl) (by kernel_rfl) (fun _ _ _ h => h) (Or.inl ⟨by rfl, fun w hS => by go_simp⟩) S0 ?_
  simp only [List.setIfInBounds_toArray, List.set_cons_zero, List.set_cons_succ]
  refine wpAnyH_take_at (i := 3) (v := .slice a n c) rfl rfl (by kernel_rfl) (by kernel_rfl) (by kernel_rfl) (fun _ _ _ h => h) (Or.inl ⟨by rfl, fun w hS => by have c := hS.2; go_simp⟩) S0 ?_
  simp only [List.setIfInBounds_toArray, List.set_cons_zero, List.set_cons_succ]
  refine wpAnyH_ready (rs := [4]) (by kernel_rfl) (by simp) ?_
  refine AllReadyH.cons rfl (fun K hK => ?_) AllReadyH.nil
  go_simp
  have kd := (drewN_below (Below.refl W.heap.size W) 1 : Below W.heap.size W W.drew)
  refine (CH.out W.drew (KW.out.trans (kd.mono KW.out.size))).mono ?_
  rintro e w1 ⟨v1, rfl, o1, k1⟩
  have k01 : Below W.heap.size W w1 := kd.trans k1
  have B1 := BW.out.below k01 BW.out.lt
  have kx1 : Below x.heap.size x w1 := KW.out.trans (k01.mono KW.out.size)
  refine hK.out _ _ ⟨B1.cell 0, B1.cell 1⟩ (fun _ => ?_)
  clear hK S0
  refine wpAnyH_ready (rs := [5]) (by kernel_rfl) (by simp) ?_
  refine AllReadyH.cons rfl (fun K hK => ?_) AllReadyH.nil
  go_simp
  refine (codeDk_write (D.out.below kx1) 0 v1 (M.headOf l) o1.isB (by have := HW.out; omega)).mono ?_
  rintro e w2 ⟨rfl, c2, T2, d2, t2⟩
  have B2 := B1.chg c2 (fun h => HGX.out _ h rfl)
  refine hK.out _ _ ⟨B2.cell 0, B2.cell 1⟩ (fun _ => ?_)
  have CC : Hid (Chg T x w2) := (Chg.of_below kx1 : Chg T x w1).trans c2 fun _ _ h => h
  have DD := Lib.hid d2
  have hs1 := kx1.size
  have TT : Hid (∀ k, T2 k → T k ∨ x.heap.size ≤ k) := fun k h => (t2 k h).imp_right fun h => Nat.le_trans hs1 h
  have C2 := Lib.hid (And.intro (B2.cell 0) (B2.cell 1))
  clear hK k1 k01 B1 kx1 o1 c2 d2 t2 B2 hs1 kd
  obtain ⟨q, hq⟩ : ∃ q, Hid (q = m.doWrite 0 (M.headOf l)) := ⟨_, rfl⟩
  rw [← hq.out] at DD ⊢
  refine wpAnyH_take_at (i := 6) (v := .int .i64 q.2) rfl rfl (by kernel_rfl) (by kernel_rfl) (by kernel_rfl) (fun _ _ _ h => h) (Or.inl ⟨by rfl, fun w hS => by go_simp⟩) C2.out ?_
  simp only [List.setIfInBounds_toArray, List.set_cons_zero, List.set_cons_succ]
  refine wpAnyH_done (by kernel_rfl) ?_ _
  clear C2
  go_wp2
  go_ret
  exact ⟨by rw [M.writes_one, hq.out]; rfl, CC.out, T2, by rw [M.writes_one, ← hq.out]; exact DD.out, TT.out⟩

set_option maxHeartbeats 8000000 in
theorem wcommit_yes {T : Nat → Prop} {w : World} {gw g : Nat} {m : M.Dsk} (d : CodeDk T w g m) (kl : Keeps T w Laid) (kw : Keeps T w (fun x => WalIs x gw g)) (h42 : 42 < m.safe.length) (hw : m.wait.length < 100000) (lv : Value) (l : M.CL) (xs : List Value) (kc : Keeps T w (fun x => IsCL x lv l xs)) (hm : M.May (m.safe.length - 42) l) :
    Calls Tryd.prog 14 #[.pointer (some ⟨gw, 0, none⟩), lv] w fun e w' => e = .returned (.int .i64 (M.commit M.decJ M.headOf m l).2) ∧ Chg T w w' ∧ ∃ T', CodeDk T' w' g (M.commit M.decJ M.headOf m l).1 ∧ ∀ k, T' k → T k ∨ w.heap.size ≤ k := by
  have hmf : ∀ (fn : Fn) (first cap : Array Value) (w : World), (Instr.makeFunc fn first cap).run Tryd.prog w = .ok (.func fn first cap) w := fun _ _ _ _ => rfl
  obtain ⟨va, vc, rfl⟩ := kc.now.shape
  obtain ⟨N, hN⟩ : ∃ N, N = l.length := ⟨_, rfl⟩
  obtain ⟨n, hn⟩ : ∃ n, n = m.safe.length := ⟨_, rfl⟩
  have CM := Lib.hid (wmay_any d h42 kw.now _ l xs kc.now true (by rw [decide_eq_true hm]))
  rw [← hN] at kc CM ⊢
  rw [← hn] at h42 hm
  have hnf : n ≤ 2176 := by rw [hn]; exact d.ok.few
  have D := Lib.hid d
  have KL := Lib.hid kl
  have KW := Lib.hid kw
  have KC := Lib.hid kc
  have HM := Lib.hid hm
  have H42 := Lib.hid h42
  have HNF := Lib.hid hnf
  have HWT := Lib.hid hw
  have HN : Hid (m.safe.length = n) := hn.symm
  have HL : Hid (l.length = N) := hN.symm
  obtain ⟨R, hR⟩ : ∃ R, Hid (R = M.commit M.decJ M.headOf m l) := ⟨_, rfl⟩
  rw [← hR.out]
  clear d kl kw kc hm h42 hnf hw hn hN
  by_cases h0 : N = 0
  · have hl0 : l = [] := List.eq_nil_of_length_eq_zero (by rw [HL.out]; exact h0)
    have HR : Hid (R = m.doSync) := by rw [Hid, hR.out, M.commit, if_pos hl0]
    have t0 : (((N : Int)) == 0) = true := by rw [h0]; rfl
    have t1 : decide ((N : Int) = 0) = true := by rw [h0]; rfl
    subst h0
    clear hl0 hR
    go_enter Tryd.func14, Tryd.ntmps14
    go_wp2_with fail
    refine CM.out.mono ?_
    rintro e w1 ⟨rfl, k1⟩
    have CS := Lib.hid (wsync10 (D.out.below k1) (KW.out.below k1).now)
    rw [← HR.out] at CS
    have C1 : Hid (Chg T w w1) := Chg.of_below k1
    have S1 : Hid (w.heap.size ≤ w1.heap.size) := k1.size
    clear k1
    go_wp2_with fail
    refine CS.out.mono ?_
    rintro e w2 ⟨rfl, c2, T2, d2, t2⟩
    have C2 : Hid (Chg T w w2) := C1.out.trans c2 fun _ _ h => h
    have D2 := Lib.hid d2
    have T2' : Hid (∀ k, T2 k → T k ∨ w.heap.size ≤ k) := fun k h => (t2 k h).imp_right fun h => Nat.le_trans S1.out h
    clear c2 d2 t2 CS CM
    go_wp2
    go_ret
    exact ⟨rfl, C2.out, T2, D2.out, T2'.out⟩
  · have hl0 : l ≠ [] := fun e => h0 (by rw [← HL.out, e]; rfl)
    have HR : Hid (R = M.phases [M.settle M.decJ, M.writes (M.bytesAt l 1), M.Dsk.doSync, M.writes [(0, M.headOf l)], M.Dsk.doSync, M.lays l, M.Dsk.doSync, M.forgets, M.Dsk.doSync] m) := by rw [Hid, hR.out, M.commit, if_neg hl0]
    have t0 : (((N : Int)) == 0) = false := by simpa using h0
    have t1 : ¬ ((N : Int) = 0) := by omega
    have g0 : w.cell? ⟨gw, 0, none⟩ = some (.pointer (some ⟨g, 0, none⟩)) := KW.out.now.cell 0
    clear hl0 hR h0
    go_enter Tryd.func14, Tryd.ntmps14
    go_wp2_with fail
    refine CM.out.mono ?_
    rintro e w1 ⟨rfl, k1⟩
    have g1 : w1.cell? ⟨gw, 0, none⟩ = some (.pointer (some ⟨g, 0, none⟩)) := (KW.out.below k1).now.cell 0
    obtain ⟨yb, hyb⟩ : ∃ y, Hid (y = w1.heap.size) := ⟨_, rfl⟩
    obtain ⟨W, hW⟩ : ∃ y, Hid (y = w1.alloc (.cells #[.pointer (some ⟨g, 0, none⟩), .slice va N vc] 68)) := ⟨_, rfl⟩
    have kW : Below w1.heap.size w1 W := by rw [hW.out]; exact (Below.refl _ _).alloc (Nat.le_refl _) _
    have bW : Blk W yb 68 [.pointer (some ⟨g, 0, none⟩), .slice va N vc] := by rw [hW.out]; exact Blk.newAt _ _ _ _ _ hyb.out rfl
    have kwW : Below w.heap.size w W := k1.trans (kW.mono k1.size)
    have KWW := Lib.hid kwW
    have BB := Lib.hid bW
    have HYB : Hid (w.heap.size ≤ yb) := by rw [hyb.out]; exact k1.size
    clear CM k1 kW bW g0
    go_upto_region 6 with fail
    rw [← hW.out, ← hyb.out]
    clear hW hyb g1
    obtain ⟨LV, hLV⟩ : ∃ v, Hid (v = Value.slice va N vc) := ⟨_, rfl⟩
    have hlv : ∃ a n c, LV = .slice a n c := ⟨_, _, _, hLV.out⟩
    rw [← hLV.out] at KC BB ⊢
    have DW := Lib.hid (D.out.below KWW.out)
    have KN : Hid (Keeps T W (fun z => (WalIs z gw g ∧ Laid z) ∧ Blk z yb 68 [.pointer (some ⟨g, 0, none⟩), LV] ∧ IsCL z LV l xs)) := fun z c => by
      have c' : Chg T w z := (Chg.of_below KWW.out : Chg T w W).trans c fun _ _ h => h
      exact ⟨⟨KW.out z c', KL.out z c'⟩, BB.out.chg c fun h => by have := D.out.there _ h; have := HYB.out; omega, KC.out z c'⟩
    have CG : Hid (∀ z, Below W.heap.size W z → z.cell? ⟨gw, 0, none⟩ = some (.pointer (some ⟨g, 0, none⟩))) := fun z k => (KN.out.below k).now.1.1.cell 0
    go_upto_region 6 with fail
    refine wp_region_any (by kernel_rfl) ?_
    change wpAny _ _ _ _ _ _ _ (World.drew _)
    refine wpAny_of_held (S := fun w' => w'.cell? ⟨gw, 0, none⟩ = some (.pointer (some ⟨g, 0, none⟩)) ∧ w'.cell? ⟨yb, 0, none⟩ = some (.pointer (some ⟨g, 0, none⟩)) ∧ w'.cell? ⟨yb, 1, none⟩ = some LV) _ _ _ _ ?_
    have S0 : W.drew.cell? ⟨gw, 0, none⟩ = some (.pointer (some ⟨g, 0, none⟩)) ∧ W.drew.cell? ⟨yb, 0, none⟩ = some (.pointer (some ⟨g, 0, none⟩)) ∧ W.drew.cell? ⟨yb, 1, none⟩ = some LV := ⟨KN.out.now.1.1.cell 0, BB.out.cell 0, BB.out.cell 1⟩
    refine wpAnyH_take_at (i := 0) (v := .pointer (some ⟨gw, 0, none⟩)) rfl rfl (by kernel_rfl) (by kernel_rfl) (by kernel_rfl) (fun _ _ _ h => h) (Or.inl ⟨by rfl, fun w hS => by go_simp⟩) S0 ?_
    simp only [List.setIfInBounds_toArray, List.set_cons_zero, List.set_cons_succ]
    refine wpAnyH_take_at (i := 1) (v := .func (.func 28) #[.pointer (some ⟨gw, 0, none⟩)] #[]) rfl rfl (by kernel_rfl) (by kernel_rfl) (by kernel_rfl) (fun _ _ _ h => h) (Or.inl ⟨by rfl, fun w hS => by go_simp⟩) S0 ?_
    simp only [List.setIfInBounds_toArray, List.set_cons_zero, List.set_cons_succ]
    refine wpAnyH_take_at (i := 2) (v := .agg #[.pointer (some ⟨g, 0, none⟩), LV]) rfl rfl (by kernel_rfl) (by kernel_rfl) (by kernel_rfl) (fun _ _ _ h => h) (Or.inl ⟨by rfl, fun w hS => by have c := hS.2.1; have d := hS.2.2; go_simp⟩) S0 ?_
    simp only [List.setIfInBounds_toArray, List.set_cons_zero, List.set_cons_succ]
    refine wpAnyH_take_at (i := 3) (v := .func (.func 31) #[.agg #[.pointer (some ⟨g, 0, none⟩), LV]] #[]) rfl rfl (by kernel_rfl) (by kernel_rfl) (by kernel_rfl) (fun _ _ _ h => h) (Or.inl ⟨by rfl, fun w hS => by go_simp⟩) S0 ?_
    simp only [List.setIfInBounds_toArray, List.set_cons_zero, List.set_cons_succ]
    refine wpAnyH_take_at (i := 4) (v := .pointer (some ⟨gw, 0, none⟩)) rfl rfl (by kernel_rfl) (by kernel_rfl) (by kernel_rfl) (fun _ _ _ h => h) (Or.inl ⟨by rfl, fun w hS => by go_simp⟩) S0 ?_
    simp only [List.setIfInBounds_toArray, List.set_cons_zero, List.set_cons_succ]
    refine wpAnyH_take_at (i := 5) (v := .pointer (some ⟨gw, 0, none⟩)) rfl rfl (by kernel_rfl) (by kernel_rfl) (by kernel_rfl) (fun _ _ _ h => h) (Or.inl ⟨by rfl, fun w hS => by go_simp⟩) S0 ?_
    simp only [List.setIfInBounds_toArray, List.set_cons_zero, List.set_cons_succ]
    refine wpAnyH_take_at (i := 6) (v := .pointer (some ⟨gw, 0, none⟩)) rfl rfl (by kernel_rfl) (by kernel_rfl) (by kernel_rfl) (fun _ _ _ h => h) (Or.inl ⟨by rfl, fun w hS => by go_simp⟩) S0 ?_
    simp only [List.setIfInBounds_toArray, List.set_cons_zero, List.set_cons_succ]
    refine wpAnyH_take_at (i := 7) (v := .pointer (some ⟨g, 0, none⟩)) rfl rfl (by kernel_rfl) (by kernel_rfl) (by kernel_rfl) (fun _ _ _ h => h) (Or.inl ⟨by rfl, fun w hS => by have c := hS.1; go_simp⟩) S0 ?_
    simp only [List.setIfInBounds_toArray, List.set_cons_zero, List.set_cons_succ]
    refine wpAnyH_take_at (i := 8) (v := .func (.func 32) #[.pointer (some ⟨g, 0, none⟩)] #[]) rfl rfl (by kernel_rfl) (by kernel_rfl) (by kernel_rfl) (fun _ _ _ h => h) (Or.inl ⟨by rfl, fun w hS => by go_simp⟩) S0 ?_
    simp only [List.setIfInBounds_toArray, List.set_cons_zero, List.set_cons_succ]
    refine wpAnyH_take_at (i := 9) (v := .agg #[.pointer (some ⟨g, 0, none⟩), LV]) rfl rfl (by kernel_rfl) (by kernel_rfl) (by kernel_rfl) (fun _ _ _ h => h) (Or.inl ⟨by rfl, fun w hS => by have c := hS.2.1; have d := hS.2.2; go_simp⟩) S0 ?_
    simp only [List.setIfInBounds_toArray, List.set_cons_zero, List.set_cons_succ]
    refine wpAnyH_take_at (i := 10) (v := .func (.func 33) #[.agg #[.pointer (some ⟨g, 0, none⟩), LV]] #[]) rfl rfl (by kernel_rfl) (by kernel_rfl) (by kernel_rfl) (fun _ _ _ h => h) (Or.inl ⟨by rfl, fun w hS => by go_simp⟩) S0 ?_
    simp only [List.setIfInBounds_toArray, List.set_cons_zero, List.set_cons_succ]
    refine wpAnyH_take_at (i := 11) (v := .pointer (some ⟨gw, 0, none⟩)) rfl rfl (by kernel_rfl) (by kernel_rfl) (by kernel_rfl) (fun _ _ _ h => h) (Or.inl ⟨by rfl, fun w hS => by go_simp⟩) S0 ?_
    simp only [List.setIfInBounds_toArray, List.set_cons_zero, List.set_cons_succ]
    refine wpAnyH_take_at (i := 12) (v := .pointer (some ⟨gw, 0, none⟩)) rfl rfl (by kernel_rfl) (by kernel_rfl) (by kernel_rfl) (fun _ _ _ h => h) (Or.inl ⟨by rfl, fun w hS => by go_simp⟩) S0 ?_
    simp only [List.setIfInBounds_toArray, List.set_cons_zero, List.set_cons_succ]
    refine wpAnyH_take_at (i := 13) (v := .pointer (some ⟨gw, 0, none⟩)) rfl rfl (by kernel_rfl) (by kernel_rfl) (by kernel_rfl) (fun _ _ _ h => h) (Or.inl ⟨by rfl, fun w hS => by go_simp⟩) S0 ?_
    simp only [List.setIfInBounds_toArray, List.set_cons_zero, List.set_cons_succ]
    refine wpAnyH_take_at (i := 14) (v := .pointer (some ⟨g, 0, none⟩)) rfl rfl (by kernel_rfl) (by kernel_rfl) (by kernel_rfl) (fun _ _ _ h => h) (Or.inl ⟨by rfl, fun w hS => by have c := hS.1; go_simp⟩) S0 ?_
    simp only [List.setIfInBounds_toArray, List.set_cons_zero, List.set_cons_succ]
    refine wpAnyH_take_at (i := 15) (v := .func (.func 32) #[.pointer (some ⟨g, 0, none⟩)] #[]) rfl rfl (by kernel_rfl) (by kernel_rfl) (by kernel_rfl) (fun _ _ _ h => h) (Or.inl ⟨by rfl, fun w hS => by go_simp⟩) S0 ?_
    simp only [List.setIfInBounds_toArray, List.set_cons_zero, List.set_cons_succ]
    refine wpAnyH_take_at (i := 16) (v := .agg #[.pointer (some ⟨g, 0, none⟩), LV]) rfl rfl (by kernel_rfl) (by kernel_rfl) (by kernel_rfl) (fun _ _ _ h => h) (Or.inl ⟨by rfl, fun w hS => by have c := hS.2.1; have d := hS.2.2; go_simp⟩) S0 ?_
    simp only [List.setIfInBounds_toArray, List.set_cons_zero, List.set_cons_succ]
    refine wpAnyH_take_at (i := 17) (v := .func (.func 34) #[.agg #[.pointer (some ⟨g, 0, none⟩), LV]] #[]) rfl rfl (by kernel_rfl) (by kernel_rfl) (by kernel_rfl) (fun _ _ _ h => h) (Or.inl ⟨by rfl, fun w hS => by go_simp⟩) S0 ?_
    simp only [List.setIfInBounds_toArray, List.set_cons_zero, List.set_cons_succ]
    refine wpAnyH_take_at (i := 18) (v := .pointer (some ⟨gw, 0, none⟩)) rfl rfl (by kernel_rfl) (by kernel_rfl) (by kernel_rfl) (fun _ _ _ h => h) (Or.inl ⟨by rfl, fun w hS => by go_simp⟩) S0 ?_
    simp only [List.setIfInBounds_toArray, List.set_cons_zero, List.set_cons_succ]
    refine wpAnyH_take_at (i := 19) (v := .pointer (some ⟨gw, 0, none⟩)) rfl rfl (by kernel_rfl) (by kernel_rfl) (by kernel_rfl) (fun _ _ _ h => h) (Or.inl ⟨by rfl, fun w hS => by go_simp⟩) S0 ?_
    simp only [List.setIfInBounds_toArray, List.set_cons_zero, List.set_cons_succ]
    refine wpAnyH_take_at (i := 20) (v := .pointer (some ⟨gw, 0, none⟩)) rfl rfl (by kernel_rfl) (by kernel_rfl) (by kernel_rfl) (fun _ _ _ h => h) (Or.inl ⟨by rfl, fun w hS => by go_simp⟩) S0 ?_
    simp only [List.setIfInBounds_toArray, List.set_cons_zero, List.set_cons_succ]
    refine wpAnyH_take_at (i := 21) (v := .pointer (some ⟨g, 0, none⟩)) rfl rfl (by kernel_rfl) (by kernel_rfl) (by kernel_rfl) (fun _ _ _ h => h) (Or.inl ⟨by rfl, fun w hS => by have c := hS.1; go_simp⟩) S0 ?_
    simp only [List.setIfInBounds_toArray, List.set_cons_zero, List.set_cons_succ]
    refine wpAnyH_take_at (i := 22) (v := .func (.func 32) #[.pointer (some ⟨g, 0, none⟩)] #[]) rfl rfl (by kernel_rfl) (by kernel_rfl) (by kernel_rfl) (fun _ _ _ h => h) (Or.inl ⟨by rfl, fun w hS => by go_simp⟩) S0 ?_
    simp only [List.setIfInBounds_toArray, List.set_cons_zero, List.set_cons_succ]
    refine wpAnyH_take_at (i := 23) (v := .agg #[.pointer (some ⟨g, 0, none⟩), LV]) rfl rfl (by kernel_rfl) (by kernel_rfl) (by kernel_rfl) (fun _ _ _ h => h) (Or.inl ⟨by rfl, fun w hS => by have c := hS.2.1; have d := hS.2.2; go_simp⟩) S0 ?_
    simp only [List.setIfInBounds_toArray, List.set_cons_zero, List.set_cons_succ]
    refine wpAnyH_take_at (i := 24) (v := .func (.func 35) #[.agg #[.pointer (some ⟨g, 0, none⟩), LV]] #[]) rfl rfl (by kernel_rfl) (by kernel_rfl) (by kernel_rfl) (fun _ _ _ h => h) (Or.inl ⟨by rfl, fun w hS => by go_simp⟩) S0 ?_
    simp only [List.setIfInBounds_toArray, List.set_cons_zero, List.set_cons_succ]
    refine wpAnyH_take_at (i := 25) (v := .pointer (some ⟨gw, 0, none⟩)) rfl rfl (by kernel_rfl) (by kernel_rfl) (by kernel_rfl) (fun _ _ _ h => h) (Or.inl ⟨by rfl, fun w hS => by go_simp⟩) S0 ?_
    simp only [List.setIfInBounds_toArray, List.set_cons_zero, List.set_cons_succ]
    refine wpAnyH_take_at (i := 26) (v := .pointer (some ⟨gw, 0, none⟩)) rfl rfl (by kernel_rfl) (by kernel_rfl) (by kernel_rfl) (fun _ _ _ h => h) (Or.inl ⟨by rfl, fun w hS => by go_simp⟩) S0 ?_
    simp only [List.setIfInBounds_toArray, List.set_cons_zero, List.set_cons_succ]
    refine wpAnyH_take_at (i := 27) (v := .pointer (some ⟨gw, 0, none⟩)) rfl rfl (by kernel_rfl) (by kernel_rfl) (by kernel_rfl) (fun _ _ _ h => h) (Or.inl ⟨by rfl, fun w hS => by go_simp⟩) S0 ?_
    simp only [List.setIfInBounds_toArray, List.set_cons_zero, List.set_cons_succ]
    refine wpAnyH_take_at (i := 28) (v := .pointer (some ⟨g, 0, none⟩)) rfl rfl (by kernel_rfl) (by kernel_rfl) (by kernel_rfl) (fun _ _ _ h => h) (Or.inl ⟨by rfl, fun w hS => by have c := hS.1; go_simp⟩) S0 ?_
    simp only [List.setIfInBounds_toArray, List.set_cons_zero, List.set_cons_succ]
    refine wpAnyH_take_at (i := 29) (v := .func (.func 32) #[.pointer (some ⟨g, 0, none⟩)] #[]) rfl rfl (by kernel_rfl) (by kernel_rfl) (by kernel_rfl) (fun _ _ _ h => h) (Or.inl ⟨by rfl, fun w hS => by go_simp⟩) S0 ?_
    simp only [List.setIfInBounds_toArray, List.set_cons_zero, List.set_cons_succ]
    refine wpAnyH_ready (rs := [30]) (by kernel_rfl) (by simp) ?_
    refine AllReadyH.cons rfl (fun K hK => ?_) AllReadyH.nil
    go_simp
    obtain ⟨W8, hW8⟩ : ∃ y, Hid (y = (W.alloc (.cells #[.func (.func 28) #[.pointer (some ⟨gw, 0, none⟩)] #[], .func (.func 31) #[.agg #[.pointer (some ⟨g, 0, none⟩), LV]] #[], .func (.func 32) #[.pointer (some ⟨g, 0, none⟩)] #[], .func (.func 33) #[.agg #[.pointer (some ⟨g, 0, none⟩), LV]] #[], .func (.func 32) #[.pointer (some ⟨g, 0, none⟩)] #[], .func (.func 34) #[.agg #[.pointer (some ⟨g, 0, none⟩), LV]] #[], .func (.func 32) #[.pointer (some ⟨g, 0, none⟩)] #[], .func (.func 35) #[.agg #[.pointer (some ⟨g, 0, none⟩), LV]] #[], .func (.func 32) #[.pointer (some ⟨g, 0, none⟩)] #[]] 57)).drew) := ⟨_, rfl⟩
    obtain ⟨zb, hzb⟩ : ∃ y, Hid (y = W.heap.size) := ⟨_, rfl⟩
    rw [← hW8.out, ← hzb.out]
    have k8 : Below W.heap.size W W8 := by rw [hW8.out]; exact ((Below.refl _ _).alloc (Nat.le_refl _) _).drew
    have BZ : Blk W8 zb 57 [.func (.func 28) #[.pointer (some ⟨gw, 0, none⟩)] #[], .func (.func 31) #[.agg #[.pointer (some ⟨g, 0, none⟩), LV]] #[], .func (.func 32) #[.pointer (some ⟨g, 0, none⟩)] #[], .func (.func 33) #[.agg #[.pointer (some ⟨g, 0, none⟩), LV]] #[], .func (.func 32) #[.pointer (some ⟨g, 0, none⟩)] #[], .func (.func 34) #[.agg #[.pointer (some ⟨g, 0, none⟩), LV]] #[], .func (.func 32) #[.pointer (some ⟨g, 0, none⟩)] #[], .func (.func 35) #[.agg #[.pointer (some ⟨g, 0, none⟩), LV]] #[], .func (.func 32) #[.pointer (some ⟨g, 0, none⟩)] #[]] := by
      rw [hW8.out]
      exact Blk.newAt _ _ _ _ _ hzb.out rfl
    have KN8 := KN.out.gain DW.out.there k8 (Gains.blk (K := fun z => (WalIs z gw g ∧ Laid z) ∧ Blk z yb 68 [.pointer (some ⟨g, 0, none⟩), LV] ∧ IsCL z LV l xs) BZ (by rw [hzb.out]; exact Nat.le_refl _))
    have CI := Lib.hid (inOrder_any _ g n [(28, #[.pointer (some ⟨gw, 0, none⟩)]), (31, #[.agg #[.pointer (some ⟨g, 0, none⟩), LV]]), (32, #[.pointer (some ⟨g, 0, none⟩)]), (33, #[.agg #[.pointer (some ⟨g, 0, none⟩), LV]]), (32, #[.pointer (some ⟨g, 0, none⟩)]), (34, #[.agg #[.pointer (some ⟨g, 0, none⟩), LV]]), (32, #[.pointer (some ⟨g, 0, none⟩)]), (35, #[.agg #[.pointer (some ⟨g, 0, none⟩), LV]]), (32, #[.pointer (some ⟨g, 0, none⟩)])]
          [M.settle M.decJ, M.writes (M.bytesAt l 1), M.Dsk.doSync, M.writes [(0, M.headOf l)], M.Dsk.doSync, M.lays l, M.Dsk.doSync, M.forgets, M.Dsk.doSync] rfl (by show 9 ≤ 100; decide) (some ⟨zb, 0, none⟩) 9 (fun z hz => ⟨zb, 0, rfl, fun i hi => by
            rw [Nat.zero_add]
            match i, hi with
            | 0, _ => exact hz.2.cell 0
            | 1, _ => exact hz.2.cell 1
            | 2, _ => exact hz.2.cell 2
            | 3, _ => exact hz.2.cell 3
            | 4, _ => exact hz.2.cell 4
            | 5, _ => exact hz.2.cell 5
            | 6, _ => exact hz.2.cell 6
            | 7, _ => exact hz.2.cell 7
            | 8, _ => exact hz.2.cell 8⟩) (fun i hi => by
            match i, hi with
            | 0, _ => exact enters_of Tryd.func28 (by kernel_rfl) rfl
            | 1, _ => exact enters_of Tryd.func31 (by kernel_rfl) rfl
            | 2, _ => exact enters_of Tryd.func32 (by kernel_rfl) rfl
            | 3, _ => exact enters_of Tryd.func33 (by kernel_rfl) rfl
            | 4, _ => exact enters_of Tryd.func32 (by kernel_rfl) rfl
            | 5, _ => exact enters_of Tryd.func34 (by kernel_rfl) rfl
            | 6, _ => exact enters_of Tryd.func32 (by kernel_rfl) rfl
            | 7, _ => exact enters_of Tryd.func35 (by kernel_rfl) rfl
            | 8, _ => exact enters_of Tryd.func32 (by kernel_rfl) rfl) (fun i hi => by
            match i, hi with
            | 0, _ => exact fun T' y m' d' hs' hw' k' => does_settle whole_ok (fun s _ => M.dec_may s) _ gw g n H42.out HNF.out (fun z hz => hz.1.1) T' y m' d' hs' hw' k'
            | 1, _ => exact does_log _ g n LV l xs (fun z hz => hz.1.2.2) HM.out.1
            | 2, _ => exact does_sync _ g n
            | 3, _ => exact does_tell _ g n LV l xs (fun z hz => ⟨hz.1.2.2, hz.1.1.2⟩) HM.out.1 (fun c hc => by have h1 := HM.out.2 c hc; have := HNF.out; exact ⟨h1.1, by omega, h1.2.2⟩)
            | 4, _ => exact does_sync _ g n
            | 5, _ => exact does_lay _ g n LV l xs (fun z hz => hz.1.2.2) HM.out.1 (fun i hi => by have := ((M.may_iff _ l).1 HM.out).2 i hi; exact ⟨this.1, by have := this.2.1; have := HNF.out; omega⟩)
            | 6, _ => exact does_sync _ g n
            | 7, _ => exact does_forget _ g n LV hlv
            | 8, _ => exact does_sync _ g n) (fun p hp => by
            intro m'
            rcases List.mem_cons.1 hp with rfl | hp
            · exact M.grow_settle M.dec_le m'
            rcases List.mem_cons.1 hp with rfl | hp
            · have h1 := M.grow_writes (M.bytesAt l 1) m'; rw [M.bytesAt_len] at h1; have h2 := HM.out.1; exact ⟨by omega, h1.2⟩
            rcases List.mem_cons.1 hp with rfl | hp
            · have h1 := M.grow_sync m'; exact ⟨by omega, h1.2⟩
            rcases List.mem_cons.1 hp with rfl | hp
            · have h1 := M.grow_writes [(0, M.headOf l)] m'; exact ⟨Nat.le_trans h1.1 (Nat.add_le_add_left (by show 1 ≤ 100; decide) _), h1.2⟩
            rcases List.mem_cons.1 hp with rfl | hp
            · have h1 := M.grow_sync m'; exact ⟨by omega, h1.2⟩
            rcases List.mem_cons.1 hp with rfl | hp
            · have h1 := M.wait_lays l m'; have h2 := HM.out.1; exact ⟨by omega, M.lays_len l m'⟩
            rcases List.mem_cons.1 hp with rfl | hp
            · have h1 := M.grow_sync m'; exact ⟨by omega, h1.2⟩
            rcases List.mem_cons.1 hp with rfl | hp
            · have h1 := M.wait_write m' 0 M.zero256; exact ⟨by show (m'.doWrite 0 M.zero256).1.wait.length ≤ _; omega, M.write_len m' 0 M.zero256⟩
            rcases List.mem_cons.1 hp with rfl | hp
            · have h1 := M.grow_sync m'; exact ⟨by omega, h1.2⟩
            cases hp) T W8 m (DW.out.below k8) HN.out (by have := HWT.out; omega) KN8)
    have C8 : Hid (Chg T w W8) := (Chg.of_below KWW.out : Chg T w W).trans (Chg.of_below k8 : Chg T W W8) fun _ _ h => h
    have S8 : Hid (w.heap.size ≤ W8.heap.size) := Nat.le_trans KWW.out.size k8.size
    have KN9 := Lib.hid KN8
    refine hK.out _ _ ⟨KN8.now.1.1.1.cell 0, KN8.now.1.2.1.cell 0, KN8.now.1.2.1.cell 1⟩ (fun _ => ?_)
    clear hK K S0 k8 BZ KN8 hW8 hzb KN BB CG
    refine wpAnyH_ready (rs := [31]) (by kernel_rfl) (by simp) ?_
    refine AllReadyH.cons rfl (fun K hK => ?_) AllReadyH.nil
    go_simp
    refine CI.out.mono ?_
    rintro e x9 ⟨rfl, c9, T9, d9, t9⟩
    have KX := (KN9.out.next c9 t9).now
    have S9 := (⟨KX.1.1.1.cell 0, KX.1.2.1.cell 0, KX.1.2.1.cell 1⟩ : x9.cell? ⟨gw, 0, none⟩ = some (.pointer (some ⟨g, 0, none⟩)) ∧ x9.cell? ⟨yb, 0, none⟩ = some (.pointer (some ⟨g, 0, none⟩)) ∧ x9.cell? ⟨yb, 1, none⟩ = some LV)
    rw [← HR.out] at d9 ⊢
    have C9 : Hid (Chg T w x9) := C8.out.trans c9 fun k hk h => h
    have D9 := Lib.hid d9
    have T9' : Hid (∀ k, T9 k → T k ∨ w.heap.size ≤ k) := fun k h => (t9 k h).imp_right fun h => Nat.le_trans S8.out h
    refine hK.out _ _ S9 (fun _ => ?_)
    clear hK K KX c9 t9 d9 CI
    refine wpAnyH_take_at (i := 32) (v := .int .i64 R.2) rfl rfl (by kernel_rfl) (by kernel_rfl) (by kernel_rfl) (fun _ _ _ h => h) (Or.inl ⟨by rfl, fun w hS => by go_simp⟩) S9 ?_
    simp only [List.setIfInBounds_toArray, List.set_cons_zero, List.set_cons_succ]
    refine wpAnyH_done (by kernel_rfl) ?_ _
    clear S9
    go_wp2
    go_ret
    exact ⟨rfl, C9.out, T9, D9.out, T9'.out⟩

set_option maxHeartbeats 8000000 in
theorem wcommit_no {T : Nat → Prop} {w : World} {gw g : Nat} {m : M.Dsk} (d : CodeDk T w g m) (hW : WalIs w gw g) (h42 : 42 < m.safe.length) (lv : Value) (l : M.CL) (xs : List Value) (hl : IsCL w lv l xs) (hm : ¬ M.May (m.safe.length - 42) l) :
    Calls Tryd.prog 14 #[.pointer (some ⟨gw, 0, none⟩), lv] w fun e w' => e = .returned (.int .i64 1) ∧ Below w.heap.size w w' := by
  obtain ⟨va, vc, rfl⟩ := hl.shape
  obtain ⟨N, hN⟩ : ∃ N, N = l.length := ⟨_, rfl⟩
  have CM := Lib.hid (wmay_any d h42 hW _ l xs hl false (by rw [decide_eq_false hm]))
  rw [← hN] at CM ⊢
  clear d hW h42 hl hm hN
  go_enter Tryd.func14, Tryd.ntmps14
  go_wp2_with fail
  refine CM.out.mono ?_
  rintro e w1 ⟨rfl, k1⟩
  have K1 := Lib.hid k1
  clear k1
  go_wp2
  go_ret
  exact ⟨rfl, K1.out⟩

end Go.Proofs.YtlglkiknpbfnmaaDoor

namespace Go.Proofs.YtlglkiknpbfnmaaDoor
open Go.RowKit
set_option linter.unusedVariables false
set_option maxRecDepth 100000

theorem wal_calls : WalCalls Laid WalIs (M.settle M.decJ) (M.commit M.decJ M.headOf) where
  ld := fun h k => h.below k h.size
  open_yes := fun d kl h42 hw => wopen_yes whole_ok (fun s _ => M.dec_may s) d kl h42 hw
  open_no := fun d _ h42 => wopen_no d h42
  blocks := fun d hW h42 => (wblocks10 d hW).mono fun e w' ⟨h1, h2⟩ => ⟨by rw [h1]; congr 2; omega, by rw [h2]; exact Below.refl _ _⟩
  read_yes := fun d hW hw i hi => wread10 d hW hw i hi
  read_no := fun d hW h42 i hi => (wread10_no d hW i (by omega)).mono fun e w' ⟨h1, h2⟩ => ⟨h1, by rw [h2]; exact Below.refl _ _⟩
  write_yes := fun d kw hw i hi bv bs hb hl => wwrite10 d kw.now hw i hi bv bs hb
  write_no := fun d hW h42 i bv bs hi hb hno => wwrite10_no d hW i bv bs hb hi fun h => hno ⟨h.1, by omega, h.2.2⟩
  sync := fun d kw hw => wsync10 d kw.now
  commit_yes := fun d kl kw h42 hw lv l xs kc hm => wcommit_yes d kl kw h42 hw lv l xs kc hm
  commit_no := fun d kl hW h42 lv l xs hl hm _ => wcommit_no d hW h42 lv l xs hl hm

theorem wal_math : WalMath (M.settle M.decJ) (M.commit M.decJ M.headOf) (fun s => s.getD 0 [] = M.zero256) (M.recs M.decJ) := journal_math M.decJ_journal

end Go.Proofs.YtlglkiknpbfnmaaDoor
