/-
  CONTRACT OF chacha.Xor: bytes exclusive or the stream. Conditions: the program's table of places lies as it was laid; texts of up to 2^46 bytes; keys and nonces of whatever lengths (refused, if they aren't 32 and 12).
  CONTRACTS OF orlopref01.Little, Back, Equal, Get, GetBig: the document's own answers on numbers as bytes. Conditions: none but n up to 8, which is all that is asked for.
  CONTRACTS OF word.Equal AND word.Wipe. Conditions: what is wiped is a row of the call's own.
-/
import Derived.Test.YtdojalhaklkegaaDoorPn14
import Derived.Test.YtdojalhaklkegaaDoorPn3
import Derived.Deep.QuietTactic
import Derived.BigQuiet
import Derived.Lib.SliceRun

set_option maxRecDepth 100000
namespace Go.Proofs.YtdojalhaklkegaaDoor
open Go.RowKit Go.Shelf
set_option linter.unusedVariables false

attribute [local go_sem] Oper.semAt_some

theorem Own.lasts {w w' : World} {B : Nat} {v : Value} {bs : List UInt8} {row : Option Nat} (h : Own w B v bs) (g : w.grownBy w' row) (hne : ∀ k, v.ownBlock = some k → row ≠ some k) : Own w' B v bs := by
  refine ⟨h.1, ?_⟩
  rcases h.2 with hn | ⟨k, cap, cur, rfl, hb, hg, rest⟩
  · exact .inl hn
  · refine .inr ⟨k, cap, cur, rfl, hb, ?_, rest⟩
    rw [g.block k (Array.getElem?_eq_some_iff.1 hg).1 (fun e => hne k rfl e.symm)]
    exact hg

/-- A block of cells of another type is no row of bytes. -/
theorem Blk.not_row {w : World} {g B : Nat} {t : TypeId} {cs : List Value} {v : Value} {bs : List UInt8} (h : Blk w g t cs) (ht : t ≠ 5) (ho : Own w B v bs) : ∀ k, v.ownBlock = some k → k ≠ g := by
  rcases ho.2 with ⟨rfl, _⟩ | ⟨k, cap, cur, rfl, hb, hg, _⟩
  · intro k hk; simp [Value.ownBlock] at hk
  · intro k' hk'
    obtain rfl : k = k' := by simpa [Value.ownBlock] using hk'
    rintro rfl
    rw [show w.heap[k]? = _ from h] at hg
    injection hg with hg
    injection hg with _ hg
    exact ht hg

/-- Between two rounds: what the out box, the numbers' block and the iterator's two variables hold. -/
def XI (w : World) (gF gO B1 : Nat) (tv : Value) (key nonce : List UInt8) (ctr : UInt32) (text : List UInt8) (pre : List Nat) (W : World) : Prop :=
  (((∃ v, Blk W gO 24 [v] ∧ Own W w.heap.size v (M.xl key nonce ctr text pre 0)) ∧ Blk W gF 96 (wc (M.first key nonce (ctr + UInt32.ofNat pre.length)))) ∧ Blk W B1 24 [tv] ∧ Blk W (B1 + 1) 3 [.int .i64 64]) ∧ Below w.heap.size w W

theorem not_cells_ne {W : World} {g : Nat} {t : TypeId} {cs : List Value} {row : Option Nat} {B : Nat} (h : Blk W g t cs) (hr : ∀ r, row = some r → B ≤ r ∧ ∃ o : Obj, W.heap[r]? = some o ∧ o.isCells = false) : some g ≠ row := by
  intro e
  obtain ⟨_, o, ho, hc⟩ := hr g e.symm
  rw [show W.heap[g]? = _ from h] at ho
  cases ho
  cases hc

theorem XI.own {w : World} {gF gO B1 : Nat} {tv : Value} {key nonce : List UInt8} {ctr : UInt32} {text : List UInt8} {B : Nat} (hB : w.heap.size ≤ B) : OwnFrom B (XI w gF gO B1 tv key nonce ctr text) := by
  refine OwnFrom.and ?_ (ownFrom_below (Nat.le_refl _) hB)
  rintro pre W W' row ⟨⟨⟨v, hb, ho⟩, hf⟩, h1, h2⟩ hg hr
  refine ⟨⟨⟨v, hb.grown hg (not_cells_ne hb hr), ho.lasts hg fun k hk e => ?_⟩, hf.grown hg (not_cells_ne hf hr)⟩, h1.grown hg (not_cells_ne h1 hr), h2.grown hg (not_cells_ne h2 hr)⟩
  obtain ⟨_, o, h1, h2⟩ := hr k e
  rcases ho.2 with ⟨rfl, _⟩ | ⟨k', cap, cur, rfl, hb', hg', _⟩
  · simp [Value.ownBlock] at hk
  · obtain rfl : k' = k := by simpa [Value.ownBlock] using hk
    rw [hg'] at h1
    cases h1
    cases h2

/-- What a round, or a part of it, keeps: whatever is no cells; the iterator's two variables; what lay below h. -/
structure RK (h B1 : Nat) (W W' : World) : Prop where
  others : KeepsOthers W W'
  two : KeepTwo B1 (B1 + 1) W W'
  below : Below h W W'

theorem RK.trans {h B1 : Nat} {X Y Z : World} (a : RK h B1 X Y) (b : RK h B1 Y Z) : RK h B1 X Z := ⟨a.others.trans b.others, a.two.trans b.two, a.below.trans b.below⟩

theorem RK.of_grown {h B1 : Nat} {W W' : World} {row : Option Nat} (hg : W.grownBy W' row) (hs : h ≤ W.heap.size) (hB : B1 + 1 < W.heap.size) (hr : ∀ j, row = some j → h ≤ j ∧ j ≠ B1 ∧ j ≠ B1 + 1 ∧ ∃ t cs, Blk W j t cs) : RK h B1 W W' := by
  refine ⟨KeepsOthers.of_grownBy hg fun j o e ho => ?_, ⟨hg.block _ (by omega) fun e => (hr _ e.symm).2.1 rfl, hg.block _ hB fun e => (hr _ e.symm).2.2.1 rfl⟩, (Below.refl h W).grown hg hs fun j e => (hr j e).1⟩
  obtain ⟨_, _, _, t, cs, hb⟩ := hr j e
  rw [show W.heap[j]? = _ from hb] at ho
  cases ho
  rfl

theorem RK.of_below {h B1 : Nat} {W W' : World} (k : Below W.heap.size W W') (hs : h ≤ W.heap.size) (hB : B1 + 1 < W.heap.size) : RK h B1 W W' :=
  RK.of_grown (row := none) ⟨k.os, k.tape, k.output, k.size, fun i hi _ => k.block i hi⟩ hs hB (fun j e => by cases e)

theorem RK.alloc {h B1 : Nat} {W0 W : World} (r : RK h B1 W0 W) (o : Obj) (hs : h ≤ W.heap.size) (hB : B1 + 1 < W.heap.size) : RK h B1 W0 (W.alloc o) :=
  r.trans (RK.of_below ((Below.refl _ _).alloc (Nat.le_refl _) _) hs hB)

theorem RK.only {h B1 g : Nat} {t : TypeId} {cs : List Value} {W0 W W' : World} (r : RK h B1 W0 W) (k : Only g W W') (hb : Blk W g t cs) (hs : h ≤ W.heap.size) (hB : B1 + 1 < W.heap.size) (h1 : h ≤ g) (h2 : g ≠ B1) (h3 : g ≠ B1 + 1) : RK h B1 W0 W' :=
  r.trans (RK.of_grown k hs hB fun j e => by cases e; exact ⟨h1, h2, h3, _, _, hb⟩)

theorem b_xor' (a b : UInt8) : bits BinOp.xor .u8 (a.toNat : Int) (b.toNat : Int) = ((a ^^^ b).toNat : Int) := by
  rw [u8_xor_nat _ _ a.toNat_lt b.toNat_lt, UInt8.toNat_xor]

/-- A piece holds the bytes of its chunk. -/
theorem pieceOf_isB {w : World} {v : Value} {bs : List UInt8} (h : IsB w v bs) (c : Nat) : IsB w (pieceOf v c) (M.chk bs c) := by
  obtain ⟨ao, cap, rfl, h1, h2, h3⟩ := h
  by_cases hz : bs = []
  · subst hz
    have e : M.chk [] c = [] := by simp [M.chk]
    rw [e]
    unfold pieceOf
    split
    · rename_i b off len cap' hv
      injection hv with _ hl _
      subst hl
      exact ⟨some ⟨b, off + 64 * c, none⟩, 0, by simp [piece], Nat.le_refl _, Nat.zero_le _, .inl rfl⟩
    · exact IsB.nil w
  · rcases h3 with h | ⟨b, off, rfl, hc⟩
    · exact absurd h hz
    · show IsB w (piece b off bs.length c) _
      have hl := M.chk_length bs c
      rw [piece]
      by_cases hm : 64 * c < bs.length
      · have := isB_part hc (64 * c) (min 64 (bs.length - 64 * c)) (min 64 (bs.length - 64 * c)) (by omega) (Nat.le_refl _) (by unfold maxLen; omega)
        rwa [show (bs.drop (64 * c)).take (min 64 (bs.length - 64 * c)) = M.chk bs c from by
          rw [M.chk]
          by_cases h64 : 64 ≤ bs.length - 64 * c
          · rw [Nat.min_eq_left h64]
          · rw [Nat.min_eq_right (by omega), List.take_of_length_le (by simp), List.take_of_length_le (by simp; omega)]] at this
      · have e : M.chk bs c = [] := List.eq_nil_of_length_eq_zero (by omega)
        rw [e, show min 64 (bs.length - 64 * c) = 0 by omega]
        exact ⟨_, 0, rfl, Nat.le_refl _, Nat.zero_le _, .inl rfl⟩

theorem first_ctr (key nonce : List UInt8) (c : UInt32) : (M.first key nonce c).getD 12 0 = c := by
  have hl : (M.sigma ++ M.wds key 8).length = 12 := by simp [M.wds_length, M.sigma]
  simp only [M.first, List.getD_eq_getElem?_getD, List.append_assoc]
  rw [← List.append_assoc, List.getElem?_append_right (by omega), hl]
  rfl

theorem first_next (key nonce : List UInt8) (c d : UInt32) : (M.first key nonce c).set 12 d = M.first key nonce d := by
  have hl : (M.sigma ++ M.wds key 8).length = 12 := by simp [M.wds_length, M.sigma]
  simp only [M.first, List.append_assoc]
  rw [← List.append_assoc, List.set_append_right _ _ (by omega), hl, List.append_assoc]
  rfl

/-- 'append(bs, x)' as one step of a region that draws; what is appended to is all that has turned. -/
theorem step_appB {w : World} {ops : Array Oper} {o : Oper} {a : Act} {K : Act → World → Prop} {Q : Exit → Act → World → Prop} {E : Prop} (hg : o.guard = none) (s x : Operand)
    (ho : o.op = .call { callee := .builtin .append, args := #[s, x], argTypes := #[24, 24] })
    (B : Nat) (v : Value) (bs : List UInt8) (hs : a.eval s = v) (hown : Own w B v bs) (g1 : Nat) (u : UInt8) (hx : a.eval x = .slice (some ⟨g1, 0, none⟩) 1 1) (hc : w.cell? ⟨g1, 0, none⟩ = some (.int .u8 (u.toNat : Int)))
    (hlen : bs.length ≤ 140737488355000) (hB : B ≤ w.heap.size)
    (h : ∀ v' w', Own w' B v' (bs ++ [u]) → w.grownBy w' v.ownBlock → K (a.put o.dst v') w') : if Region.wanted o (yielded ops a.tmps) = true then Oper.wp Tryd.prog o a w K Q else E := by
  obtain ⟨i0, h0, hz0, hz1, hz2⟩ := info_parts Tryd.info5
  have hw : Region.wanted o (yielded ops a.tmps) = true := by simp [Region.wanted, hg]
  rw [if_pos hw]
  refine wp_append_own w s x _ ho B 5 i0 (.int .u8 0) 1 1 Tryd.underlying24 h0 hz0 hz1 hz2 rfl (by decide) v bs.length _ hs hown.row ⟨g1, 0, none⟩ 1 1 [.int .u8 u.toNat] hx rfl (fun j y hj => ?_) (fun y hy => by simp at hy; subst hy; rfl) (by unfold maxLen; omega) (by omega) hB ?_
  · match j, hj with
    | 0, hj =>
      simp at hj
      subst hj
      simpa [Addr.add] using hc
  · intro v' w' hown' hgrow _
    refine h v' w' ?_ hgrow
    rw [Own, List.length_append, byteCells_append]
    exact hown'

/-- No operation of a written list is a defer statement. -/
def noDefer (ops : List Oper) : Bool := ops.all fun o => match o.op with | .defer _ => false | _ => true

theorem noDefer_spec {ops : List Oper} (h : noDefer ops = true) : NoDefer ops := by
  intro o ho c e
  have := List.all_eq_true.1 h o ho
  rw [e] at this
  cases this

/-- One byte appended to what the out box holds, and the box written: what lasts. -/
theorem out_appended {h B1 gO : Nat} {W wz w9 : World} {v v' : Value} {bs bs' : List UInt8} {o : Obj} (ho : Own wz h v bs) (hb : Blk wz gO 24 [v]) (o9 : Own w9 h v' bs') (g9 : (wz.drew.alloc o).grownBy w9 v.ownBlock)
    (hs : h ≤ wz.heap.size) (hB : B1 + 1 < wz.heap.size) (hO : h ≤ gO) (hOB : gO < B1) (h1 : ∃ t cs, t ≠ 5 ∧ Blk wz B1 t cs) (h2 : ∃ t cs, t ≠ 5 ∧ Blk wz (B1 + 1) t cs) (hR : RK h B1 W wz) :
    Blk w9 gO 24 [v] ∧ Blk (w9.setCell ⟨gO, 0, none⟩ v') gO 24 [v'] ∧ Own (w9.setCell ⟨gO, 0, none⟩ v') h v' bs' ∧
      (∀ g t cs, t ≠ 5 → g ≠ gO → Blk wz g t cs → Blk (w9.setCell ⟨gO, 0, none⟩ v') g t cs) ∧ RK h B1 W (w9.setCell ⟨gO, 0, none⟩ v') := by
  have hA : ∀ g t cs, Blk wz g t cs → Blk (wz.drew.alloc o) g t cs := fun g t cs hg => hg.drew.alloc o
  have hoA : Own (wz.drew.alloc o) h v bs := Own.below (w := wz) ho ((below_draws wz 1).alloc (Nat.le_refl _) o)
  have hK : ∀ g t cs, t ≠ 5 → Blk wz g t cs → Blk w9 g t cs := fun g t cs ht hg => (hA g t cs hg).grown g9 fun e => Blk.not_row (hA g t cs hg) ht hoA g e.symm rfl
  have hb9 : Blk w9 gO 24 [v] := hK gO _ _ (by decide) hb
  have ne9 := Blk.not_row hb9 (by decide) o9
  have hsA : (wz.drew.alloc o).heap.size = wz.heap.size + 1 := by rw [World.size_alloc]; rfl
  have hsz : wz.heap.size ≤ w9.heap.size := by have := g9.size; omega
  refine ⟨hb9, hb9.set_ 0 v', o9.lasts (grownBy_setCell' w9 gO v') fun k hk e => ne9 k hk (by injection e with e; exact e.symm), fun g t cs ht hg hbz => (hK g t cs ht hbz).far hg v', ?_⟩
  have r1 : RK h B1 W (wz.drew.alloc o) := (hR.trans (RK.of_below (below_draws wz 1) hs hB)).alloc o hs hB
  have r2 : RK h B1 W w9 := by
    refine r1.trans (RK.of_grown g9 (by omega) (by omega) fun j e => ?_)
    obtain ⟨t1, s1, n1, b1⟩ := h1
    obtain ⟨t2, s2, n2, b2⟩ := h2
    refine ⟨(hoA.row.lt j e).1, Blk.not_row (hA _ _ _ b1) n1 hoA j e, Blk.not_row (hA _ _ _ b2) n2 hoA j e, ?_⟩
    rcases hoA.2 with ⟨rfl, _⟩ | ⟨k, cap, cur, rfl, _, hg, _⟩
    · simp [Value.ownBlock] at e
    · obtain rfl : k = j := by simpa [Value.ownBlock] using e
      exact ⟨_, cur.toList, by simpa [Blk] using hg⟩
  exact r2.only (grownBy_setCell' w9 gO v') hb9 (by omega) (by omega) hO (by omega) (by omega)

set_option maxRecDepth 100000 in
set_option maxHeartbeats 4000000 in
theorem xor_any (kv nv tv : Value) (key nonce text : List UInt8) (ctr : UInt32) (w : World) (hL : LaidP w) (hk : IsB w kv key) (hn : IsB w nv nonce) (ht : IsB w tv text) (hkl : key.length = 32) (hnl : nonce.length = 12) (hlen : text.length ≤ 70368744177664) :
    Calls Tryd.prog 25 #[kv, nv, .int .u32 ctr.toNat, tv] w fun e w' => ∃ r, e = .returned (.tuple #[r, .int .i64 0]) ∧ Own w' w.heap.size r (M.xo (M.strm key nonce ctr) text text.length) ∧ Below w.heap.size w w' := by
  have HCB := Lib.hid (beginning_any kv nv key nonce ctr w hk hn hkl hnl)
  have HF0 : Hid ((M.first key nonce ctr).length = 16) := M.first_length key nonce ctr
  have HL := Lib.hid hL
  have HT := Lib.hid ht
  obtain ⟨a1, c1, rfl, _, _, _⟩ := hk
  obtain ⟨a2, c2, rfl, _, _, _⟩ := hn
  obtain ⟨a3, c3, rfl, ht1, ht2, _⟩ := ht
  rw [hkl, hnl] at HCB ⊢
  obtain ⟨L, hLn⟩ : ∃ L, L = text.length := ⟨_, rfl⟩
  have HLN : Hid (L = text.length) := hLn
  rw [← hLn] at HT ht1 hlen ⊢
  clear hkl hnl hL ht1 hLn
  refine (callsIn_wide (n := 3)).1 ?_
  refine callsIn_of_wp_marks Tryd.func25 rfl trivial ?_ rfl
  simp only [Tryd.ntmps25, List.size_toArray, List.length_cons, List.length_nil, Nat.reduceAdd, Nat.reduceSub, Array.replicate_succ, Array.replicate_zero, List.push_toArray, List.append_toArray, List.nil_append, List.cons_append]
  refine wpIn_wide.2 ?_
  go_wp2_with fail
  refine (mayBe_yes _ _ _ _ _).mono ?_
  rintro e w1 ⟨rfl, rfl⟩
  go_wp2_with fail
  refine HCB.out.mono ?_
  rintro e w2 ⟨rfl, k2⟩
  have hw2 := k2.size
  go_wp2_with (first
    | (refine wpList_store_blk rfl 96 (.tmp 10) (.tmp 23) rfl w2.heap.size (wc (M.first key nonce ctr)).toArray rfl rfl 96 (List.replicate 16 (.int .u32 0)) (Blk.newAt _ _ _ _ _ rfl rfl) (by rw [List.size_toArray, wc_length, HF0.out]; kernel_rfl) (by rw [List.size_toArray, wc_length, HF0.out, List.length_replicate]) (wc_oneCell _) ?_; intro w3 hb3 ho3)
    | (refine wpList_make_cap _ rfl _ _ rfl .i64 .i64 _ _ 0 L rfl rfl rfl rfl (by omega) (by omega) ?_; intro w4 o4 k4))
  obtain ⟨w, rfl⟩ : ∃ x, x = w1 := ⟨_, rfl⟩
  have k3 : Below w.heap.size w w3 := (k2.alloc hw2 _).trans (ho3.below (by simp; omega) hw2)
  have hl3 : w2.heap.size < w3.heap.size := hb3.lt
  have k34 : Below w.heap.size w w4 := k3.trans (k4.mono k3.size)
  have hl4 : w3.heap.size ≤ w4.heap.size := k4.size
  obtain ⟨v0, hv0⟩ : ∃ v0, v0 = Value.slice (some ⟨w3.heap.size, 0, none⟩) 0 L := ⟨_, rfl⟩
  have o4' : Own w4 w.heap.size v0 [] := by rw [hv0]; exact o4.mono k3.size
  rw [← hv0]
  refine (chunk_any _ _ _ _).mono ?_
  rintro e w6 ⟨rfl, hw6⟩
  obtain ⟨gF, hgF⟩ : ∃ g, g = w2.heap.size := ⟨_, rfl⟩
  obtain ⟨gO, hgO⟩ : ∃ g, g = w4.heap.size := ⟨_, rfl⟩
  have hFO : gF < gO := by omega
  have hwF : w.heap.size ≤ gF := by omega
  obtain ⟨B1, hB1⟩ : ∃ g, g = (w4.alloc (.cells #[v0] 24)).heap.size := ⟨_, rfl⟩
  have hOB : gO < B1 := by rw [hB1, hgO]; simp
  have hsz6 : w6.heap.size = B1 + 1 + 1 := by rw [hw6, hB1]; simp
  have XI0 : Hid (XI w gF gO B1 (.slice a3 L c3) key nonce ctr text [] w6) := by
    rw [Hid, hw6]
    refine ⟨⟨⟨⟨v0, (((Blk.newAt w4 24 #[v0] gO [v0] hgO rfl).alloc _).alloc _), ?_⟩, ?_⟩, (Blk.newAt _ 24 #[.slice a3 L c3] B1 [.slice a3 L c3] hB1 rfl).alloc _, Blk.newAt _ 3 #[.int .i64 64] (B1 + 1) [.int .i64 64] (by rw [hB1]; simp) rfl⟩, ?_⟩
    · exact ((o4'.below ((Below.refl _ _).alloc (Nat.le_refl _) _)).below ((Below.refl _ _).alloc (Nat.le_refl _) _)).below ((Below.refl _ _).alloc (Nat.le_refl _) _)
    · have h := ((((hb3.below k4 hl3).alloc (.cells #[v0] 24)).alloc (.cells #[.slice a3 L c3] 24)).alloc (.cells #[.int .i64 64] 3))
      rw [hgF, show M.first key nonce (ctr + UInt32.ofNat ([] : List Nat).length) = M.first key nonce ctr from by simp]
      simpa using h
    · exact ((k34.alloc k34.size _).alloc (by have := k34.size; simp; omega) _).alloc (by have := k34.size; simp; omega) _
  have C1 : Hid (w6.cell? ⟨B1, 0, none⟩ = some (.slice a3 L c3)) := XI0.out.1.2.1.cell 0
  have C2 : Hid (w6.cell? ⟨B1 + 1, 0, none⟩ = some (.int .i64 64)) := XI0.out.1.2.2.cell 0
  have HT6 : Hid (IsB w6 (.slice a3 L c3) text) := HT.out.below XI0.out.2
  rw [← hB1, ← hgF, ← hgO]
  clear hw6 k4 o4 o4' hb3 ho3 k3 k34 hl3 hl4 hB1 hgF hgO hv0 hw2 k2
  go_wp2
  have hsm : text.length ≤ 281474976710656 := by rw [← HLN.out]; omega
  refine (wpIn_wide (n := 3)).1 ?_
  refine wpIn_rangeFunc_ownG rfl (by omega) (gf := 74) (lb := #[.pointer (some ⟨B1, 0, none⟩), .pointer (some ⟨B1 + 1, 0, none⟩)]) rfl trivial (enters_of Tryd.func74 (by kernel_rfl) rfl)
    (chunk_stops (3 - 1) B1 (B1 + 1) (by omega) (.slice a3 L c3) text w6 HT6.out hsm (by omega) (by omega) C1.out C2.out) (fun h k => h.trans k)
    (fun W l o o' hl _ _ _ => ⟨by simp [World.putObj, Array.getElem?_setIfInBounds_ne (show l ≠ B1 by omega)], by simp [World.putObj, Array.getElem?_setIfInBounds_ne (show l ≠ B1 + 1 by omega)]⟩)
    (Below.refl _ _) (fun _ => rfl)
    (XI w gF gO B1 (.slice a3 L c3) key nonce ctr text) (fun _ _ _ => False) (XI.own (by omega)) (fun _ _ _ _ _ hs _ _ => hs) XI0.out ?a1 ?assign ?body ?done ?stop
  case assign =>
    intro l x W K hK
    gi_wp2
    exact hK
  case stop =>
    rintro D c pre W hD _ h _
    exact h.elim
  case done =>
    rintro D ys W hD rfl ⟨⟨⟨⟨v, hb, ho⟩, hf⟩, -, -⟩, hB⟩ hK
    have hc : W.cell? ⟨gO, 0, none⟩ = some v := hb.cell 0
    have e : M.xl key nonce ctr text (List.range ((text.length + 63) / 64)) 0 = M.xo (M.strm key nonce ctr) text L := by
      rw [M.xl_range, Nat.min_eq_right (by omega), HLN.out]
    rw [e] at ho
    dsimp only
    go_wp2
    refine ⟨by simp, .inl ⟨_, _, rfl, run_takeDeferred hK, ?_⟩⟩
    exact ⟨_, results_tmp2 rfl _ _ _, v, rfl, ownsRow_putObj ho _ hK rfl, hB.trans (belowK_b (w := w) (Nat.le_refl _) W D _ _ (by omega) hK rfl rfl)⟩
  case body =>
    rintro l pre x W ⟨⟨⟨⟨v, hb, ho⟩, hf⟩, hb1, hb2⟩, hB⟩ hlt
    obtain ⟨C, hC⟩ : ∃ C, Hid (C = M.chk text x) := ⟨_, rfl⟩
    have hP : IsB w (pieceOf (.slice a3 L c3) x) C := by rw [hC.out]; exact pieceOf_isB HT.out x
    obtain ⟨pv, hpv⟩ : ∃ p, p = pieceOf (.slice a3 L c3) x := ⟨_, rfl⟩
    rw [← hpv] at hP ⊢
    clear hpv
    obtain ⟨q, hq⟩ : ∃ q, q = C.length := ⟨_, rfl⟩
    have HQ : Hid (q = C.length) := hq
    have hq64 : q ≤ 64 := by rw [hq, hC.out]; exact M.chk_le text x
    obtain ⟨ap, cp, rfl, hcp1, hcp2, hat⟩ := hP
    rw [← hq] at hcp1 ⊢
    have HPC : Hid (∀ W', Below w.heap.size w W' → ∀ j, j < q → ∃ b2 o2, ap = some ⟨b2, o2, none⟩ ∧ W'.cell? ⟨b2, o2 + j, none⟩ = some (.int .u8 ((C.getD j 0).toNat : Int))) := by
      intro W' kw j hj
      rcases hat with h | ⟨b2, o2, h, hc⟩
      · rw [h] at hq; simp at hq; omega
      · refine ⟨b2, o2, h, ?_⟩
        have h0 := hc j (by omega)
        rw [kw.cell (by exact World.block_lt_of_cell? w _ h0), h0]
    obtain ⟨F, hF⟩ : ∃ F, Hid (F = M.first key nonce (ctr + UInt32.ofNat pre.length)) := ⟨_, rfl⟩
    have HFL : Hid (F.length = 16) := by rw [Hid, hF.out]; exact M.first_length _ _ _
    rw [← hF.out] at hf
    obtain ⟨Kb, hKb⟩ : ∃ K, Hid (K = M.blk F) := ⟨_, rfl⟩
    have HKL : Hid (Kb.length = 64) := by rw [Hid, hKb.out]; exact M.blk_length F
    obtain ⟨base, hbase⟩ : ∃ b, Hid (b = M.xl key nonce ctr text pre 0) := ⟨_, rfl⟩
    have HBL : Hid (base.length ≤ 64 * pre.length) := by rw [Hid, hbase.out]; exact M.xl_le _ _ _ _ _ _
    rw [← hbase.out] at ho
    have hsB : B1 + 1 < W.heap.size := hb2.lt
    have hsw : w.heap.size ≤ W.heap.size := hB.size
    have HRF : Hid (W.rangeAt gF 0 (wc F)) := hf.range 0 _ [] (by simp)
    have HBO : Hid (Calls Tryd.prog 54 #[.agg (wc F).toArray] W fun e w' => e = .returned (.agg (Lib.byteCells Kb).toArray) ∧ Below W.heap.size W w') := by
      rw [Hid, hKb.out]
      exact blockOf_any F W (HL.out.below hB HL.out.size) HFL.out
    clear hq hat
    refine wpIn_block ?_
    refine wpIn_seq ?_
    refine wpIn_region_of_list l (fun ⟨_, _, h⟩ => h) (noDefer_spec (by kernel_rfl)) ?_
    go_wp2_with (first
      | (refine wpList_load_mid rfl 96 (.tmp 10) rfl gF 0 rfl (wc F) _ HRF.out Tryd.underlying96 rfl (by rw [wc_length, HFL.out]; kernel_rfl) ?_)
      | (go_at_call 54; go_must (refine HBO.out.mono ?_); rintro e w7 ⟨rfl, k7⟩)
      | (refine wpList_store_blk rfl 101 (.tmp 13) (.tmp 31) rfl w7.heap.size (Lib.byteCells Kb).toArray rfl rfl 101 (List.replicate 64 (.int .u8 0)) (Blk.newAt _ _ _ _ _ rfl rfl) (by rw [List.size_toArray, byteCells_length, HKL.out]; kernel_rfl) (by rw [List.size_toArray, byteCells_length, HKL.out, List.length_replicate]) (bytes_oneCell Kb) ?_; intro w8 hb8 ho8))
    have k8 : Below W.heap.size W w8 := (k7.alloc k7.size _).trans (ho8.below (by have := k7.size; simp; omega) k7.size)
    obtain ⟨gB, hgB⟩ : ∃ g, g = w7.heap.size := ⟨_, rfl⟩
    have hBB : B1 + 1 < gB := by have := k7.size; omega
    rw [← hgB] at hb8 ⊢
    have R8 : Hid (RK w.heap.size B1 W w8) := RK.of_below k8 hsw hsB
    have E8 : Hid (∃ v, Blk w8 gO 24 [v] ∧ Own w8 w.heap.size v (base ++ M.xo (fun i => Kb.getD i 0) C 0)) := ⟨v, hb.below k8 hb.lt, by rw [M.xo, List.append_nil]; exact ho.below k8⟩
    have F8 : Hid (Blk w8 gF 96 (wc F)) := hf.below k8 hf.lt
    have X8 : Hid (Blk w8 B1 24 [.slice a3 L c3]) := hb1.below k8 hb1.lt
    have Y8 : Hid (Blk w8 (B1 + 1) 3 [.int .i64 64]) := hb2.below k8 hb2.lt
    have B8 : Hid (Blk w8 gB 101 (Lib.byteCells Kb)) := hb8
    have HB := Lib.hid hB
    clear hb8 ho8 k8 k7 hgB hb ho hf hb1 hb2 hB
    gi_wp2
    gi_loopw [34] (fun i wz => ∃ j : Nat, j ≤ q ∧ i = .int .i64 j ∧ Hid (∃ v, Blk wz gO 24 [v] ∧ Own wz w.heap.size v (base ++ M.xo (fun i => Kb.getD i 0) C j)) ∧ Hid (Blk wz gF 96 (wc F)) ∧ Hid (Blk wz B1 24 [.slice a3 L c3]) ∧ Hid (Blk wz (B1 + 1) 3 [.int .i64 64]) ∧ Hid (Blk wz gB 101 (Lib.byteCells Kb)) ∧ Hid (RK w.heap.size B1 W wz))
      (fun i _ => q - (intOf i).toNat)
    case atStart => exact ⟨0, Nat.zero_le _, rfl, E8, F8, X8, Y8, B8, R8⟩
    case round =>
      clear E8 F8 X8 Y8 B8 R8
      obtain ⟨wz, rfl⟩ : ∃ x, x = wr := ⟨_, rfl⟩
      obtain ⟨j, hj, rfl, hE, hF2, hX, hY, hB2, hR⟩ := hrel
      by_cases hlt2 : j < q
      · obtain ⟨v, hb, ho⟩ := hE.out
        obtain ⟨b2, o2, rfl, hcc⟩ := HPC.out wz (HB.out.trans hR.out.below) j hlt2
        obtain ⟨c, hc⟩ : ∃ c, Hid (c = C.getD j 0) := ⟨_, rfl⟩
        obtain ⟨kb, hkb⟩ : ∃ c, Hid (c = Kb.getD j 0) := ⟨_, rfl⟩
        rw [← hc.out] at hcc
        have hcO : wz.cell? ⟨gO, 0, none⟩ = some v := hb.cell 0
        have hcO2 : ∀ o, (wz.alloc o).cell? ⟨gO, 0, none⟩ = some v := fun o => (hb.alloc o).cell 0
        have hcB : wz.cell? ⟨gB, j, none⟩ = some (.int .u8 (kb.toNat : Int)) := by rw [hB2.out.cell, byteCells_getElem? _ _ (by rw [HKL.out]; omega), hkb.out]
        have hxor := b_xor' c kb
        have hmix : Tryd.prog.follows .mixedOrders = true := by kernel_rfl
        have HBX := Lib.hid hb
        have HOX := Lib.hid ho
        have hjK : (j : Int) < 64 := by omega
        clear hb ho
        gi_wp2
        refine wpIn_region_any hmix ?_
        refine wpAnyIn_of_wpAny l (fun ⟨_, _, h⟩ => h) (noDefer_spec (by kernel_rfl)) ?_
        change wpAny _ _ _ _ _ _ _ (World.drew _)
        refine wpAny_take_at (i := 1) (v := .int .u8 c.toNat) rfl rfl (by kernel_rfl) (by kernel_rfl) (by kernel_rfl) (fun _ _ _ h => h) (Or.inl ⟨by rfl, fun w => ?_⟩) ?_
        · go_simp
        simp only [List.setIfInBounds_toArray, List.set_cons_zero, List.set_cons_succ]
        refine wpAny_take_at (i := 2) (v := .int .i64 j) rfl rfl (by kernel_rfl) (by kernel_rfl) (by kernel_rfl) (fun _ _ _ h => h) (Or.inl ⟨by rfl, fun w => ?_⟩) ?_
        · go_simp
        simp only [List.setIfInBounds_toArray, List.set_cons_zero, List.set_cons_succ]
        refine wpAny_take_at (i := 3) (v := .pointer (some ⟨gB, j, none⟩)) rfl rfl (by kernel_rfl) (by kernel_rfl) (by kernel_rfl) (fun _ _ _ h => h) (Or.inl ⟨by rfl, fun w => ?_⟩) ?_
        · go_simp
        simp only [List.setIfInBounds_toArray, List.set_cons_zero, List.set_cons_succ]
        have HO9 : Hid (∀ o, Own (wz.drew.alloc o) w.heap.size v (base ++ M.xo (fun i => Kb.getD i 0) C j)) := fun o => Own.below (w := wz) HOX.out ((below_draws wz 1).alloc (Nat.le_refl _) o)
        have HNX : Hid (base ++ M.xo (fun i => Kb.getD i 0) C j ++ [c ^^^ kb] = base ++ M.xo (fun i => Kb.getD i 0) C (j + 1)) := by
          rw [Hid, M.xo, ← hc.out, ← hkb.out, List.append_assoc]
        have HLEN : Hid ((base ++ M.xo (fun i => Kb.getD i 0) C j).length ≤ 140737488355000) := by
          have e1 := HBL.out
          have e2 := HLN.out
          rw [Hid, List.length_append, M.xo_length]
          omega
        have HS1 : Hid (w.heap.size ≤ wz.heap.size) := Nat.le_trans hsw hR.out.below.size
        have HS2 : Hid (B1 + 1 < wz.heap.size) := hY.out.lt
        have HS3 : Hid (w.heap.size ≤ gO) := by rw [Hid]; omega
        have HSZ : Hid (∀ o, w.heap.size ≤ (wz.drew.alloc o).heap.size) := fun o => by
          rw [World.size_alloc]
          exact Nat.le_trans HS1.out (Nat.le_succ _)
        refine wpAny_ready (rs := [0, 4]) (by kernel_rfl) (by simp) ?_
        refine AllReady.cons rfl (fun K hK => ?_) (AllReady.cons rfl (fun K hK => ?_) AllReady.nil)
        · go_simp
          refine hK _ _ ?_
          clear hK K
          refine wpAny_ready (rs := [4]) (by kernel_rfl) (by simp) ?_
          refine AllReady.cons rfl (fun K hK => ?_) AllReady.nil
          go_simp
          refine hK _ _ ?_
          clear hK K
          refine wpAny_take_at (i := 5) (v := .int .u8 ((c ^^^ kb).toNat : Int)) rfl rfl (by kernel_rfl) (by kernel_rfl) (by kernel_rfl) (fun _ _ _ h => h) (Or.inl ⟨by rfl, fun w => ?_⟩) ?_
          · go_simp
          simp only [List.setIfInBounds_toArray, List.set_cons_zero, List.set_cons_succ]
          refine wpAny_ready (rs := [6]) (by kernel_rfl) (by simp) ?_
          refine AllReady.cons rfl (fun K hK => ?_) AllReady.nil
          go_simp
          refine hK _ _ ?_
          clear hK K
          refine wpAny_ready (rs := [7]) (by kernel_rfl) (by simp) ?_
          refine AllReady.cons rfl (fun K hK => ?_) AllReady.nil
          refine step_appB rfl (.tmp 39) (.tmp 45) rfl w.heap.size v _ rfl (HO9.out _) wz.heap.size (c ^^^ kb) rfl (by simp) HLEN.out (HSZ.out _) ?_
          intro v' w9 o9 g9
          obtain ⟨g', m', cp', hv'⟩ : ∃ g m c, v' = .slice (some ⟨g, 0, none⟩) m c := by obtain ⟨g, c, h, _⟩ := o9.shape (by simp; omega); exact ⟨g, _, c, h⟩
          refine hK _ _ ?_
          clear hK K
          obtain ⟨hb9, hO9, ho9, hall, hr9⟩ := out_appended HOX.out HBX.out o9 g9 HS1.out HS2.out HS3.out hOB ⟨_, _, by decide, hX.out⟩ ⟨_, _, by decide, hY.out⟩ hR.out
          have cO9 : w9.cell? ⟨gO, 0, none⟩ = some v := hb9.cell 0
          have fO9 : w9.frozen? ⟨gO, 0, none⟩ = false := hb9.frozen 0
          rw [HNX.out] at ho9
          have E9 : Hid (∃ v, Blk (w9.setCell ⟨gO, 0, none⟩ v') gO 24 [v] ∧ Own (w9.setCell ⟨gO, 0, none⟩ v') w.heap.size v (base ++ M.xo (fun i => Kb.getD i 0) C (j + 1))) := ⟨v', hO9, ho9⟩
          have F9 : Hid (Blk (w9.setCell ⟨gO, 0, none⟩ v') gF 96 (wc F)) := hall _ _ _ (by decide) (by omega) hF2.out
          have X9 : Hid (Blk (w9.setCell ⟨gO, 0, none⟩ v') B1 24 [.slice a3 L c3]) := hall _ _ _ (by decide) (by omega) hX.out
          have Y9 : Hid (Blk (w9.setCell ⟨gO, 0, none⟩ v') (B1 + 1) 3 [.int .i64 64]) := hall _ _ _ (by decide) (by omega) hY.out
          have B9 : Hid (Blk (w9.setCell ⟨gO, 0, none⟩ v') gB 101 (Lib.byteCells Kb)) := hall _ _ _ (by decide) (by omega) hB2.out
          have R9 : Hid (RK w.heap.size B1 W (w9.setCell ⟨gO, 0, none⟩ v')) := hr9
          clear hb9 hO9 ho9 hall hr9 o9 g9
          subst hv'
          refine wpAny_ready (rs := [8]) (by kernel_rfl) (by simp) ?_
          refine AllReady.cons rfl (fun K hK => ?_) AllReady.nil
          go_simp
          refine hK _ _ ?_
          clear hK K
          refine wpAny_done (by kernel_rfl) ?_ _
          clear hcc hcO hcO2 hcB hxor cO9 fO9
          gi_wp2
          go_roundw
          case rel => exact ⟨j + 1, by omega, by go_num, E9, F9, X9, Y9, B9, R9⟩
          case measure => simp [intOf]; omega
        · go_simp
          refine hK _ _ ?_
          clear hK K
          refine wpAny_take_at (i := 5) (v := .int .u8 ((c ^^^ kb).toNat : Int)) rfl rfl (by kernel_rfl) (by kernel_rfl) (by kernel_rfl) (fun _ _ _ h => h) (Or.inl ⟨by rfl, fun w => ?_⟩) ?_
          · go_simp
          simp only [List.setIfInBounds_toArray, List.set_cons_zero, List.set_cons_succ]
          refine wpAny_ready (rs := [0, 6]) (by kernel_rfl) (by simp) ?_
          refine AllReady.cons rfl (fun K hK => ?_) (AllReady.cons rfl (fun K hK => ?_) AllReady.nil)
          · go_simp
            refine hK _ _ ?_
            clear hK K
            refine wpAny_ready (rs := [6]) (by kernel_rfl) (by simp) ?_
            refine AllReady.cons rfl (fun K hK => ?_) AllReady.nil
            go_simp
            refine hK _ _ ?_
            clear hK K
            refine wpAny_ready (rs := [7]) (by kernel_rfl) (by simp) ?_
            refine AllReady.cons rfl (fun K hK => ?_) AllReady.nil
            refine step_appB rfl (.tmp 39) (.tmp 45) rfl w.heap.size v _ rfl (HO9.out _) wz.heap.size (c ^^^ kb) rfl (by simp) HLEN.out (HSZ.out _) ?_
            intro v' w9 o9 g9
            obtain ⟨g', m', cp', hv'⟩ : ∃ g m c, v' = .slice (some ⟨g, 0, none⟩) m c := by obtain ⟨g, c, h, _⟩ := o9.shape (by simp; omega); exact ⟨g, _, c, h⟩
            refine hK _ _ ?_
            clear hK K
            obtain ⟨hb9, hO9, ho9, hall, hr9⟩ := out_appended HOX.out HBX.out o9 g9 HS1.out HS2.out HS3.out hOB ⟨_, _, by decide, hX.out⟩ ⟨_, _, by decide, hY.out⟩ hR.out
            have cO9 : w9.cell? ⟨gO, 0, none⟩ = some v := hb9.cell 0
            have fO9 : w9.frozen? ⟨gO, 0, none⟩ = false := hb9.frozen 0
            rw [HNX.out] at ho9
            have E9 : Hid (∃ v, Blk (w9.setCell ⟨gO, 0, none⟩ v') gO 24 [v] ∧ Own (w9.setCell ⟨gO, 0, none⟩ v') w.heap.size v (base ++ M.xo (fun i => Kb.getD i 0) C (j + 1))) := ⟨v', hO9, ho9⟩
            have F9 : Hid (Blk (w9.setCell ⟨gO, 0, none⟩ v') gF 96 (wc F)) := hall _ _ _ (by decide) (by omega) hF2.out
            have X9 : Hid (Blk (w9.setCell ⟨gO, 0, none⟩ v') B1 24 [.slice a3 L c3]) := hall _ _ _ (by decide) (by omega) hX.out
            have Y9 : Hid (Blk (w9.setCell ⟨gO, 0, none⟩ v') (B1 + 1) 3 [.int .i64 64]) := hall _ _ _ (by decide) (by omega) hY.out
            have B9 : Hid (Blk (w9.setCell ⟨gO, 0, none⟩ v') gB 101 (Lib.byteCells Kb)) := hall _ _ _ (by decide) (by omega) hB2.out
            have R9 : Hid (RK w.heap.size B1 W (w9.setCell ⟨gO, 0, none⟩ v')) := hr9
            clear hb9 hO9 ho9 hall hr9 o9 g9
            subst hv'
            refine wpAny_ready (rs := [8]) (by kernel_rfl) (by simp) ?_
            refine AllReady.cons rfl (fun K hK => ?_) AllReady.nil
            go_simp
            refine hK _ _ ?_
            clear hK K
            refine wpAny_done (by kernel_rfl) ?_ _
            clear hcc hcO hcO2 hcB hxor cO9 fO9
            gi_wp2
            go_roundw
            case rel => exact ⟨j + 1, by omega, by go_num, E9, F9, X9, Y9, B9, R9⟩
            case measure => simp [intOf]; omega
          · go_simp
            refine hK _ _ ?_
            clear hK K
            refine wpAny_ready (rs := [0]) (by kernel_rfl) (by simp) ?_
            refine AllReady.cons rfl (fun K hK => ?_) AllReady.nil
            go_simp
            refine hK _ _ ?_
            clear hK K
            refine wpAny_ready (rs := [7]) (by kernel_rfl) (by simp) ?_
            refine AllReady.cons rfl (fun K hK => ?_) AllReady.nil
            refine step_appB rfl (.tmp 39) (.tmp 45) rfl w.heap.size v _ rfl (HO9.out _) wz.heap.size (c ^^^ kb) rfl (by simp) HLEN.out (HSZ.out _) ?_
            intro v' w9 o9 g9
            obtain ⟨g', m', cp', hv'⟩ : ∃ g m c, v' = .slice (some ⟨g, 0, none⟩) m c := by obtain ⟨g, c, h, _⟩ := o9.shape (by simp; omega); exact ⟨g, _, c, h⟩
            refine hK _ _ ?_
            clear hK K
            obtain ⟨hb9, hO9, ho9, hall, hr9⟩ := out_appended HOX.out HBX.out o9 g9 HS1.out HS2.out HS3.out hOB ⟨_, _, by decide, hX.out⟩ ⟨_, _, by decide, hY.out⟩ hR.out
            have cO9 : w9.cell? ⟨gO, 0, none⟩ = some v := hb9.cell 0
            have fO9 : w9.frozen? ⟨gO, 0, none⟩ = false := hb9.frozen 0
            rw [HNX.out] at ho9
            have E9 : Hid (∃ v, Blk (w9.setCell ⟨gO, 0, none⟩ v') gO 24 [v] ∧ Own (w9.setCell ⟨gO, 0, none⟩ v') w.heap.size v (base ++ M.xo (fun i => Kb.getD i 0) C (j + 1))) := ⟨v', hO9, ho9⟩
            have F9 : Hid (Blk (w9.setCell ⟨gO, 0, none⟩ v') gF 96 (wc F)) := hall _ _ _ (by decide) (by omega) hF2.out
            have X9 : Hid (Blk (w9.setCell ⟨gO, 0, none⟩ v') B1 24 [.slice a3 L c3]) := hall _ _ _ (by decide) (by omega) hX.out
            have Y9 : Hid (Blk (w9.setCell ⟨gO, 0, none⟩ v') (B1 + 1) 3 [.int .i64 64]) := hall _ _ _ (by decide) (by omega) hY.out
            have B9 : Hid (Blk (w9.setCell ⟨gO, 0, none⟩ v') gB 101 (Lib.byteCells Kb)) := hall _ _ _ (by decide) (by omega) hB2.out
            have R9 : Hid (RK w.heap.size B1 W (w9.setCell ⟨gO, 0, none⟩ v')) := hr9
            clear hb9 hO9 ho9 hall hr9 o9 g9
            subst hv'
            refine wpAny_ready (rs := [8]) (by kernel_rfl) (by simp) ?_
            refine AllReady.cons rfl (fun K hK => ?_) AllReady.nil
            go_simp
            refine hK _ _ ?_
            clear hK K
            refine wpAny_done (by kernel_rfl) ?_ _
            clear hcc hcO hcO2 hcB hxor cO9 fO9
            gi_wp2
            go_roundw
            case rel => exact ⟨j + 1, by omega, by go_num, E9, F9, X9, Y9, B9, R9⟩
            case measure => simp [intOf]; omega
      · obtain rfl : j = q := by omega
        obtain ⟨ct, hct⟩ : ∃ c, Hid (c = ctr + UInt32.ofNat pre.length) := ⟨_, rfl⟩
        have e12 : F.getD 12 0 = ct := by rw [hF.out, ← hct.out]; exact first_ctr key nonce ct
        have hc12 : wz.cell? ⟨gF, 12, none⟩ = some (.int .u32 (ct.toNat : Int)) := by rw [hF2.out.cell, wc_get _ _ (by rw [HFL.out]; decide), e12]
        have hf12 : wz.frozen? ⟨gF, 12, none⟩ = false := hF2.out.frozen 12
        obtain ⟨ct1, hct1⟩ : ∃ c, Hid (c = ct + 1) := ⟨_, rfl⟩
        have hs1 : ((ct.toNat : Int) + 1) % 4294967296 = (ct1.toNat : Int) := by rw [hct1.out]; exact w_add ct 1
        have hs2 : IntKind.u32.wrap ((ct.toNat : Int) + 1) = (ct1.toNat : Int) := hs1
        have N12 : Hid (Blk (wz.setCell ⟨gF, 12, none⟩ (.int .u32 (ct1.toNat : Int))) gF 96 (wc (M.first key nonce ct1))) := by
          refine (hF2.out.set_ 12 _).eq_ ?_
          rw [show Value.int .u32 (ct1.toNat : Int) = c32 ct1 from rfl, wc_set, hF.out, first_next]
        obtain ⟨v, hb, ho⟩ := hE.out
        have hON : Hid (Blk (wz.setCell ⟨gF, 12, none⟩ (.int .u32 (ct1.toNat : Int))) gO 24 [v]) := hb.far (by simp; omega) _
        have hgs : wz.grownBy (wz.setCell ⟨gF, 12, none⟩ (.int .u32 (ct1.toNat : Int))) (some gF) := (Only.refl gF wz).setCell (.inl rfl) _
        have hOW : Hid (Own (wz.setCell ⟨gF, 12, none⟩ (.int .u32 (ct1.toNat : Int))) w.heap.size v (M.xl key nonce ctr text (pre ++ [x]) 0)) := by
          rw [Hid, M.xl_snoc, Nat.zero_add, ← hbase.out, ← hct.out, ← hC.out, ← HQ.out]
          rw [hKb.out, hF.out, ← hct.out] at ho
          exact ho.lasts hgs fun k hk e => Blk.not_row hF2.out (by decide) ho k hk (by injection e with e; exact e.symm)
        have hX1 : Hid (Blk (wz.setCell ⟨gF, 12, none⟩ (.int .u32 (ct1.toNat : Int))) B1 24 [.slice a3 L c3]) := hX.out.far (by simp; omega) _
        have hY1 : Hid (Blk (wz.setCell ⟨gF, 12, none⟩ (.int .u32 (ct1.toNat : Int))) (B1 + 1) 3 [.int .i64 64]) := hY.out.far (by simp; omega) _
        have hRK : Hid (RK w.heap.size B1 W (wz.setCell ⟨gF, 12, none⟩ (.int .u32 (ct1.toNat : Int)))) := hR.out.only hgs hF2.out (Nat.le_trans hsw hR.out.below.size) hY.out.lt hwF (by omega) (by omega)
        have e13 : ctr + UInt32.ofNat (pre ++ [x]).length = ct1 := by
          rw [hct1.out, hct.out, List.length_append, List.length_singleton, UInt32.ofNat_add, UInt32.add_assoc]
          rfl
        have HE13 := Lib.hid e13
        clear hb ho hgs e12 e13
        gi_wp2
        exact ⟨hRK.out.others.from _, hRK.out.two, ⟨⟨⟨v, hON.out, hOW.out⟩, by rw [HE13.out]; exact N12.out⟩, hX1.out, hY1.out⟩, HB.out.trans hRK.out.below⟩

end Go.Proofs.YtdojalhaklkegaaDoor

namespace Go.Proofs.YtdojalhaklkegaaDoor
open Go.RowKit

theorem ret_bool {a b : Bool} (h : a = b) : Ending.returned (.bool a) = .returned (.bool b) := by rw [h]

theorem equal_any (v1 v2 : Value) (xs ys : List UInt8) (w : World) (h1 : IsB w v1 xs) (h2 : IsB w v2 ys) :
    Calls Tryd.prog 12 #[v1, v2] w fun e w' => e = .returned (.bool (decide (xs = ys))) ∧ ∃ n, w' = w.drewN n := by
  obtain ⟨ao1, cap1, rfl, hl1, hm1, H1⟩ := h1
  obtain ⟨ao2, cap2, rfl, hl2, hm2, H2⟩ := h2
  unfold maxLen at hm1 hm2
  have H1 : Hid (At w ao1 xs) := H1
  have H2 : Hid (At w ao2 ys) := H2
  by_cases hlen : xs.length = ys.length
  · have HL : Hid (xs.length = ys.length) := hlen
    clear hlen
    rw [HL.out]
    go_enter Tryd.func12, Tryd.ntmps12
    go_wp2
    go_loopw [5] (fun i wr => ∃ k : Nat, k ≤ ys.length ∧ i = .int .i64 k ∧ Hid (xs.take k = ys.take k) ∧ ∃ n, wr = w.drewN n)
      (fun i _ => ys.length - (intOf i).toNat)
    case atStart => exact ⟨0, Nat.zero_le _, rfl, by simp [Hid], 0, rfl⟩
    case round =>
      obtain ⟨k, hk, rfl, hpre, nq, rfl⟩ := hrel
      by_cases hlt : k < ys.length
      · rcases H1.out with h0 | ⟨b1, off1, rfl, hc1⟩
        · have := HL.out; subst h0; simp at this; simp [← this] at hlt
        rcases H2.out with h0 | ⟨b2, off2, rfl, hc2⟩
        · subst h0; simp at hlt
        have g1 := hc1 k (by rw [HL.out]; exact hlt)
        have g2 := hc2 k hlt
        clear hc1 hc2
        obtain ⟨c1, hcc1⟩ : ∃ c, c = (xs.getD k 0).toNat := ⟨_, rfl⟩
        obtain ⟨c2, hcc2⟩ : ∃ c, c = (ys.getD k 0).toNat := ⟨_, rfl⟩
        rw [← hcc1] at g1
        rw [← hcc2] at g2
        have HC1 : Hid (c1 = (xs.getD k 0).toNat) := hcc1
        have HC2 : Hid (c2 = (ys.getD k 0).toNat) := hcc2
        clear hcc1 hcc2
        have hltI : (k : Int) < (ys.length : Int) := by omega
        by_cases hcc : c1 = c2
        · subst hcc
          go_wp2
          go_quiet (fail)
          go_wp2
          go_roundw
          case rel => exact ⟨k + 1, by omega, by go_num, M.take_next xs ys k (by rw [HL.out]; exact hlt) hlt hpre.out (by rw [← HC1.out, ← HC2.out]), _, rfl⟩
          case measure => simp [intOf]; omega
        · go_wp2
          go_quiet (fail)
          go_wp2
          go_ret
          refine ⟨ret_bool ?_, _, World.drewN_drewN _ _ _⟩
          symm
          rw [decide_eq_false_iff_not]
          intro e
          rw [HC1.out, HC2.out, e] at hcc
          exact hcc rfl
      · obtain rfl : k = ys.length := by omega
        go_wp2
        go_ret
        refine ⟨ret_bool ?_, _, rfl⟩
        symm
        rw [decide_eq_true_iff]
        have e := hpre.out
        rw [List.take_length, List.take_of_length_le (by rw [HL.out]; exact Nat.le_refl _)] at e
        exact e
  · have hne : ¬ xs = ys := fun e => hlen (by rw [e])
    have HN : Hid (¬ xs = ys) := hne
    clear hne
    go_enter Tryd.func12, Tryd.ntmps12
    go_wp2
    go_ret
    refine ⟨ret_bool ?_, 0, rfl⟩
    symm
    rw [decide_eq_false_iff_not]
    exact HN.out

end Go.Proofs.YtdojalhaklkegaaDoor

namespace Go.Proofs.YtdojalhaklkegaaDoor
open Go.RowKit

theorem xor_zero_iff (a b : Nat) : a ^^^ b = 0 ↔ a = b := by
  constructor
  · intro h
    apply Nat.eq_of_testBit_eq
    intro i
    have := congrArg (fun n => n.testBit i) h
    simpa using this
  · rintro rfl
    exact Nat.xor_self a

theorem or_zero_iff (a b : Nat) : a ||| b = 0 ↔ a = 0 ∧ b = 0 := by
  constructor
  · intro h
    refine ⟨Nat.eq_of_testBit_eq fun i => ?_, Nat.eq_of_testBit_eq fun i => ?_⟩
    all_goals
      have := congrArg (fun n => n.testBit i) h
      simp at this
      simp [this]
  · rintro ⟨rfl, rfl⟩
    rfl

theorem take_succ_iff (xs ys : List UInt8) (k : Nat) (hx : k < xs.length) (hy : k < ys.length) :
    xs.take (k + 1) = ys.take (k + 1) ↔ xs.take k = ys.take k ∧ (xs.getD k 0).toNat = (ys.getD k 0).toNat := by
  constructor
  · intro h
    refine ⟨?_, ?_⟩
    · have := congrArg (List.take k) h
      simpa [List.take_take, Nat.min_eq_left (Nat.le_succ k)] using this
    · have := congrArg (fun l => (l.getD k 0)) h
      simp [List.getD_eq_getElem?_getD] at this
      simp [List.getD_eq_getElem?_getD, this]
  · rintro ⟨h1, h2⟩
    exact M.take_next xs ys k hx hy h1 h2

theorem wequal_any (v1 v2 : Value) (xs ys : List UInt8) (w : World) (h1 : IsB w v1 xs) (h2 : IsB w v2 ys) :
    Calls Tryd.prog 27 #[v1, v2] w fun e w' => e = .returned (.bool (decide (xs = ys))) ∧ ∃ n, w' = w.drewN n := by
  obtain ⟨ao1, cap1, rfl, hl1, hm1, H1⟩ := h1
  obtain ⟨ao2, cap2, rfl, hl2, hm2, H2⟩ := h2
  unfold maxLen at hm1 hm2
  have H1 : Hid (At w ao1 xs) := H1
  have H2 : Hid (At w ao2 ys) := H2
  by_cases hlen : xs.length = ys.length
  · have HL : Hid (xs.length = ys.length) := hlen
    clear hlen
    rw [HL.out]
    go_enter Tryd.func27, Tryd.ntmps27
    go_wp2
    go_loopw [5, 14] (fun x i wr => ∃ k u : Nat, k ≤ ys.length ∧ i = .int .i64 k ∧ x = .int .u8 u ∧ u < 256 ∧ Hid (u = 0 ↔ xs.take k = ys.take k) ∧ ∃ n, wr = w.drewN n)
      (fun _ i _ => ys.length - (intOf i).toNat)
    case atStart => exact ⟨0, 0, Nat.zero_le _, rfl, rfl, by omega, by simp [Hid], 0, rfl⟩
    case round =>
      obtain ⟨k, u, hk, rfl, rfl, hu, hpre, nq, rfl⟩ := hrel
      by_cases hlt : k < ys.length
      · rcases H1.out with h0 | ⟨b1, off1, rfl, hc1⟩
        · have := HL.out; subst h0; simp at this; simp [← this] at hlt
        rcases H2.out with h0 | ⟨b2, off2, rfl, hc2⟩
        · subst h0; simp at hlt
        have g1 := hc1 k (by rw [HL.out]; exact hlt)
        have g2 := hc2 k hlt
        clear hc1 hc2
        obtain ⟨c1, hcc1⟩ : ∃ c, c = (xs.getD k 0).toNat := ⟨_, rfl⟩
        obtain ⟨c2, hcc2⟩ : ∃ c, c = (ys.getD k 0).toNat := ⟨_, rfl⟩
        rw [← hcc1] at g1
        rw [← hcc2] at g2
        have l1 : c1 < 256 := by rw [hcc1]; exact (xs.getD k 0).toNat_lt
        have l2 : c2 < 256 := by rw [hcc2]; exact (ys.getD k 0).toNat_lt
        have HC1 : Hid (c1 = (xs.getD k 0).toNat) := hcc1
        have HC2 : Hid (c2 = (ys.getD k 0).toNat) := hcc2
        clear hcc1 hcc2
        have hltI : (k : Int) < (ys.length : Int) := by omega
        go_wp2
        go_quiet (fail)
        go_wp2
        go_roundw
        case rel =>
          refine ⟨k + 1, u ||| (c1 ^^^ c2), by omega, by go_num, ?_, Nat.or_lt_two_pow (n := 8) hu (Nat.xor_lt_two_pow (n := 8) l1 l2), ?_, _, rfl⟩
          · rw [u8_xor_nat c1 c2 l1 l2, u8_or_nat u _ hu (Nat.xor_lt_two_pow (n := 8) l1 l2)]
          · rw [Hid, or_zero_iff, xor_zero_iff, take_succ_iff xs ys k (by rw [HL.out]; exact hlt) hlt, hpre.out, HC1.out, HC2.out]
        case measure => simp [intOf]; omega
      · obtain rfl : k = ys.length := by omega
        go_wp2
        go_ret
        refine ⟨ret_bool ?_, _, rfl⟩
        have e := hpre.out
        rw [List.take_length, List.take_of_length_le (by rw [HL.out]; exact Nat.le_refl _)] at e
        by_cases hx : xs = ys
        · have h0 : u = 0 := e.2 hx
          simp [h0, hx]
        · have h0 : u ≠ 0 := fun h => hx (e.1 h)
          simp [hx]
          omega
  · have hne : ¬ xs = ys := fun e => hlen (by rw [e])
    have HN : Hid (¬ xs = ys) := hne
    clear hne
    go_enter Tryd.func27, Tryd.ntmps27
    go_wp2
    go_ret
    refine ⟨ret_bool ?_, 0, rfl⟩
    symm
    rw [decide_eq_false_iff_not]
    exact HN.out

theorem wequal_b (v1 v2 : Value) (xs ys : List UInt8) (w : World) (h1 : IsB w v1 xs) (h2 : IsB w v2 ys) :
    Calls Tryd.prog 27 #[v1, v2] w fun e w' => e = .returned (.bool (decide (xs = ys))) ∧ Below w.heap.size w w' := by
  refine (wequal_any v1 v2 xs ys w h1 h2).mono ?_
  rintro e w' ⟨rfl, n, rfl⟩
  exact ⟨rfl, below_draws w n⟩

theorem requal_b (v1 v2 : Value) (xs ys : List UInt8) (w : World) (h1 : IsB w v1 xs) (h2 : IsB w v2 ys) :
    Calls Tryd.prog 12 #[v1, v2] w fun e w' => e = .returned (.bool (decide (xs = ys))) ∧ Below w.heap.size w w' := by
  refine (equal_any v1 v2 xs ys w h1 h2).mono ?_
  rintro e w' ⟨rfl, n, rfl⟩
  exact ⟨rfl, below_draws w n⟩

theorem wequal_yes (v1 v2 : Value) (xs : List UInt8) (w : World) (h1 : IsB w v1 xs) (h2 : IsB w v2 xs) :
    Calls Tryd.prog 27 #[v1, v2] w fun e w' => e = .returned (.bool true) ∧ Below w.heap.size w w' := by
  refine (wequal_any v1 v2 xs xs w h1 h2).mono ?_
  rintro e w' ⟨rfl, n, rfl⟩
  exact ⟨by simp, below_draws w n⟩

theorem wequal_no (v1 v2 : Value) (xs ys : List UInt8) (w : World) (h1 : IsB w v1 xs) (h2 : IsB w v2 ys) (hne : ¬ xs = ys) :
    Calls Tryd.prog 27 #[v1, v2] w fun e w' => e = .returned (.bool false) ∧ Below w.heap.size w w' := by
  refine (wequal_any v1 v2 xs ys w h1 h2).mono ?_
  rintro e w' ⟨rfl, n, rfl⟩
  exact ⟨by simp [hne], below_draws w n⟩

/-- Cells written one after the other, from the place o on. -/
def over (xs : List Value) : Nat → List Value → List Value
  | _, [] => xs
  | o, v :: r => over (xs.set o v) (o + 1) r

end Go.Proofs.YtdojalhaklkegaaDoor
