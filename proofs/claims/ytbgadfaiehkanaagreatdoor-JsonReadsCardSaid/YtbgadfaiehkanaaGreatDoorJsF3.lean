/-
  THE PROGRAM'S mayAt, of a value that may be, if mayAt and mayMembers hold within. Conditions: names and texts as long as they may be; fewer than 100000 members; the library's tables lie as laid.
-/
import Derived.Test.YtbgadfaiehkanaaGreatDoorJsF2
namespace Go.Proofs.YtbgadfaiehkanaaGreatDoor
open Go.RowKit Go.Proofs Go.Shelf
set_option linter.unusedVariables false
set_option maxRecDepth 100000

/-- Names and texts are as long as they may be, and there are fewer than 100000 members. -/
def M.Fit : Nat → M.GV → Prop
  | 0, _ => False
  | d + 1, g => g.t.length ≤ maxLen ∧ g.m.length < 100000 ∧ (∀ x ∈ g.l, M.Fit d x) ∧ ∀ x ∈ g.m, x.1.length ≤ maxLen ∧ M.Fit d x.2

/-- mayAt holds, of a value d deep, q within others. -/
def MA (d : Nat) (q : Int) : Prop := ∀ (S : Nat → Prop) (cs : List Value) (x : M.GV) (w : World), IsV S w d cs x → M.MayP d x → M.Fit d x → JLaid w →
  Calls Tryz.prog 41 #[.agg cs.toArray, .int .i64 q] w fun e w' => e = .returned (.bool true) ∧ Below w.heap.size w w'

/-- A map's members in memory. -/
def MemRow (S : Nat → Prop) (w : World) (d : Nat) (mv : Value) (m : List (List UInt8 × M.GV)) (ms : List (List Value)) : Prop :=
  ms.length = m.length ∧ RowAt S w 7 mv m.length ms.flatten ∧ ∀ i, i < m.length → ∃ c, ms.getD i [] = .string ⟨(m.getD i ([], M.vNull)).1.toArray⟩ :: c ∧ IsV S w d c (m.getD i ([], M.vNull)).2
/-- Members that may be. -/
def MemMay (d : Nat) (m : List (List UInt8 × M.GV)) : Prop :=
  (∀ x ∈ m, M.utf x.1 = true ∧ M.MayP d x.2) ∧ (m.map (·.1)).Nodup ∧ (∀ x ∈ m, x.1.length ≤ maxLen ∧ M.Fit d x.2) ∧ m.length < 100000

def MM (d : Nat) (q : Int) : Prop := ∀ (S : Nat → Prop) (mv : Value) (m : List (List UInt8 × M.GV)) (ms : List (List Value)) (w : World), MemRow S w d mv m ms → MemMay d m → JLaid w →
  Calls Tryz.prog 97 #[mv, .int .i64 q] w fun e w' => e = .returned (.bool true) ∧ Below w.heap.size w w'

theorem MemRow.below {S : Nat → Prop} {w w' : World} {d : Nat} {mv : Value} {m : List (List UInt8 × M.GV)} {ms : List (List Value)} (h : MemRow S w d mv m ms) (k : Below w.heap.size w w') : MemRow S w' d mv m ms := by
  refine ⟨h.1, h.2.1.chg (Chg.of_below (F := fun _ => False) k) (fun _ _ h => h), fun i hi => ?_⟩
  obtain ⟨c, e, iv⟩ := h.2.2 i hi
  exact ⟨c, e, iv.below k⟩

/-- An element of a list lies where its cells are. -/
theorem row_el {S : Nat → Prop} {w : World} {size n : Nat} {b off i : Nat} {cap : Nat} {ls : List (List Value)} (h : RowAt S w size (.slice (some ⟨b, off, none⟩) n cap) n ls.flatten) (h6 : ∀ l ∈ ls, l.length = size) (hl : ls.length = n) (hi : i < n) : w.rangeAt b (off + i * size) (ls.getD i []) := by
  intro j v hv
  obtain ⟨ao, cap2, e, _, _, _, h0⟩ := h
  rcases h0 with h0 | ⟨b2, off2, e2, _, _, hc⟩
  · omega
  · injection e with e _ _
    rw [e2] at e
    injection e with e
    injection e with e3 e4 _
    subst e3 e4
    rw [Nat.add_assoc]
    refine hc _ _ ?_
    have hm : ls.getD i [] ∈ ls := by
      rw [List.getD_eq_getElem?_getD, List.getElem?_eq_getElem (by omega)]
      exact List.getElem_mem _
    have hj : j < size := by
      rw [← h6 _ hm]
      exact (List.getElem?_eq_some_iff.1 hv).1
    rw [flat_at size ls h6 i j (by omega) hj]
    exact hv

theorem row_some {S : Nat → Prop} {w : World} {size n i : Nat} {v : Value} {xs : List Value} (h : RowAt S w size v n xs) (hi : i < n) : ∃ b off cap, v = .slice (some ⟨b, off, none⟩) n cap := by
  obtain ⟨ao, cap, e, _, _, _, h0⟩ := h
  rcases h0 with h0 | ⟨b, off, e2, _⟩
  · omega
  · exact ⟨b, off, cap, by rw [e, e2]⟩

theorem z6_new (w : World) : Blk (w.alloc (.cells #[.int .i64 0, .bool false, .int .i64 0, .string ⟨#[]⟩, .slice none 0 0, .slice none 0 0] 27)) w.heap.size 27 z6 := Blk.newAt _ _ _ _ _ rfl rfl
theorem getD_mem {α : Type} {l : List α} {i : Nat} {x : α} (h : i < l.length) : l.getD i x ∈ l := by
  rw [List.getD_eq_getElem?_getD, List.getElem?_eq_getElem h]
  exact List.getElem_mem _
theorem len_of {ls : List (List Value)} {n k : Nat} (hn : ls.length = n) (h : ∀ i, i < n → (ls.getD i []).length = k) : ∀ l ∈ ls, l.length = k := by
  intro l hl
  obtain ⟨i, hi, e⟩ := List.mem_iff_getElem.1 hl
  have := h i (by omega)
  rw [List.getD_eq_getElem?_getD, List.getElem?_eq_getElem hi] at this
  rw [← e]
  exact this

set_option maxHeartbeats 16000000 in
theorem mayAt_any {d : Nat} {q q2 : Int} (hq1 : q ≤ 16) (hq : wrap64 (q + 1) = q2) (HA : MA d q2) (HM : MM d q2) : MA (d + 1) q := by
  intro S cs x w iv hm hf hL
  obtain ⟨lv, mv, ls, ms, rfl, hll, hlr, hle, hml, hmr, hme⟩ := iv
  obtain ⟨⟨p1, p2, p3, p4, p5, p6, p7, p8, p9⟩, pu, pl, pm, pn⟩ := hm
  obtain ⟨f1, f2, f3, f4⟩ := hf
  generalize x.k = k at *
  generalize x.b = b at *
  generalize x.n = n at *
  generalize x.t = t at *
  generalize x.l = l at *
  generalize x.m = m at *
  obtain ⟨la, lc, rfl, hz1⟩ := id hlr
  obtain ⟨ma, mc, rfl, hz2⟩ := id hmr
  have hal : Alone k b n t l.length m.length := ⟨by omega, p3, p4, p5, fun h => by rw [p6 h]; rfl, fun h => by rw [p7 h]; rfl⟩
  have HAL := Lib.hid fun w1 => alone_yes k b n t la ma l.length lc m.length mc w1 hal
  have HNU := Lib.hid (mayNum_any n)
  have e8 : (decide (-9007199254740991 ≤ n) && decide (n ≤ 9007199254740991)) = true := by simp; omega
  rw [e8] at HNU
  have HVA := Lib.hid fun w1 (k1 : Below w.heap.size w w1) => valid_any t w1 (by unfold maxLen at f1; omega) (hL.below k1)
  rw [pu] at HVA
  have HQ := Lib.hid hq
  have hd : decide (16 < q) = false := decide_eq_false (by omega)
  obtain ⟨W1, hW1⟩ : ∃ W, W = w.alloc (.cells #[.int .i64 k, .bool b, .int .i64 n, .string ⟨t.toArray⟩, .slice la l.length lc, .slice ma m.length mc] 27) := ⟨_, rfl⟩
  obtain ⟨gX, hgX⟩ : ∃ y, y = w.heap.size := ⟨_, rfl⟩
  have B1 : Blk W1 gX 27 (vcs k b n t (.slice la l.length lc) (.slice ma m.length mc)) := by rw [hW1]; exact Blk.newAt _ _ _ _ _ hgX rfl
  have k1 : Below w.heap.size w W1 := by rw [hW1]; exact (Below.refl _ _).alloc (Nat.le_refl _) _
  have HX : Hid (w.heap.size ≤ gX ∧ gX < W1.heap.size) := ⟨by omega, B1.lt⟩
  have HB := Lib.hid B1
  have HK := Lib.hid k1
  have E1 := Lib.hid hW1
  have EX := Lib.hid hgX
  have HL := Lib.hid hL
  obtain ⟨ll, hlle⟩ : ∃ y, y = l.length := ⟨_, rfl⟩
  obtain ⟨ml, hmle⟩ : ∃ y, y = m.length := ⟨_, rfl⟩
  have HLR : Hid (ll = l.length ∧ ls.length = l.length ∧ RowAt S w 6 (.slice la l.length lc) l.length ls.flatten ∧ (∀ i, i < l.length → IsV S w d (ls.getD i []) (l.getD i M.vNull)) ∧ (∀ y ∈ l, M.MayP d y) ∧ ∀ y ∈ l, M.Fit d y) := ⟨hlle, hll, hlr, hle, pl, f3⟩
  have HMR : Hid (ml = m.length ∧ MemRow S w d (.slice ma m.length mc) m ms ∧ MemMay d m) := ⟨hmle, ⟨hml, hmr, hme⟩, pm, pn, f4, f2⟩
  have hllb : (ll : Int) ≤ 9223372036854775807 := by obtain ⟨_, _, e, h1, h2, _⟩ := hlr; unfold maxLen at h2; omega
  rw [← hlle, ← hmle] at HAL HB E1
  rw [show (vcs k b n t (.slice la l.length lc) (.slice ma m.length mc)).toArray = #[.int .i64 k, .bool b, .int .i64 n, .string ⟨t.toArray⟩, .slice la l.length lc, .slice ma m.length mc] from rfl, ← hlle, ← hmle]
  clear hz1 hz2 hal e8 B1 k1 hW1 hgX hL hll hlr hle hml hmr hme p1 p2 p3 p4 p5 p6 p7 p8 p9 pu pl pm pn f1 f2 f3 f4 hlle hmle hq1 hq
  have cX0 : W1.cell? ⟨gX, 0, none⟩ = some (.int .i64 k) := HB.out.cell 0
  have cX1 : W1.cell? ⟨gX, 1, none⟩ = some (.bool b) := HB.out.cell 1
  have cX2 : W1.cell? ⟨gX, 2, none⟩ = some (.int .i64 n) := HB.out.cell 2
  have cX3 : W1.cell? ⟨gX, 3, none⟩ = some (.string ⟨t.toArray⟩) := HB.out.cell 3
  have cX4 : W1.cell? ⟨gX, 4, none⟩ = some (.slice la ll lc) := HB.out.cell 4
  have cX5 : W1.cell? ⟨gX, 5, none⟩ = some (.slice ma ml mc) := HB.out.cell 5
  go_enter Tryz.func41, Tryz.ntmps41
  go_upto_region 1 with fail
  rw [← EX.out, ← E1.out]
  clear E1 EX
  go_wp2_with fail
  refine (HAL.out W1).mono ?_
  rintro e w2 ⟨rfl, k2⟩
  have B2 := HB.out.below k2 HX.out.2
  have cX2 : w2.cell? ⟨gX, 2, none⟩ = some (.int .i64 n) := B2.cell 2
  have cX3 : w2.cell? ⟨gX, 3, none⟩ = some (.string ⟨t.toArray⟩) := B2.cell 3
  have HK2 : Hid (Below w.heap.size w w2) := HK.out.trans (k2.mono HK.out.size)
  have HB2 := Lib.hid B2
  clear k2 B2 HB HK cX0 cX1
  go_wp2_with fail
  refine (HNU.out w2).mono ?_
  rintro e w3 ⟨rfl, rfl⟩
  go_wp2_with fail
  refine (HVA.out _ HK2.out).mono ?_
  rintro e w4 ⟨rfl, k4⟩
  have B4 := HB2.out.below k4 HB2.out.lt
  have HK4 : Hid (Below w.heap.size w w4) := HK2.out.trans (k4.mono HK2.out.size)
  have cX4 : w4.cell? ⟨gX, 4, none⟩ = some (.slice la ll lc) := B4.cell 4
  have HB4 := Lib.hid B4
  clear k4 B4 HB2 HK2 cX2 cX3 cX5
  go_wp2_with fail
  go_loopw [29] (fun i wr => ∃ j : Nat, i = .int .i64 (j : Int) ∧ Hid (j ≤ ll) ∧ Hid (Blk wr gX 27 (vcs k b n t (.slice la ll lc) (.slice ma ml mc))) ∧ Hid (Below w.heap.size w wr)) (fun i _ => ll - (intOf i).toNat)
  case atStart => exact ⟨0, rfl, Nat.zero_le _, HB4, HK4⟩
  case round =>
    obtain ⟨wz, rfl⟩ : ∃ x, x = wr := ⟨_, rfl⟩
    obtain ⟨j, rfl, hj, BZ, KZ⟩ := hrel
    by_cases hlt : j < ll
    · have b1 : (j : Int) < (ll : Int) := by omega
      have hj0 : (0 : Int) ≤ (j : Int) := Int.natCast_nonneg j
      have HLT := Lib.hid hlt
      obtain ⟨g1, o1, c1, hla⟩ := row_some HLR.out.2.2.1 (by rw [← HLR.out.1]; exact hlt)
      injection hla with hla _ hlc
      subst hla hlc
      have hjl : j < l.length := by rw [← HLR.out.1]; exact hlt
      have hel := row_el (HLR.out.2.2.1.chg (Chg.of_below (F := fun _ => False) KZ.out) (fun _ _ h => h)) (len_of HLR.out.2.1 fun i hi => (HLR.out.2.2.2.1 i hi).len) HLR.out.2.1 hjl
      have hiv := HLR.out.2.2.2.1 j hjl
      have hmy : M.MayP d (l.getD j M.vNull) ∧ M.Fit d (l.getD j M.vNull) := ⟨HLR.out.2.2.2.2.1 _ (getD_mem hjl), HLR.out.2.2.2.2.2 _ (getD_mem hjl)⟩
      obtain ⟨gx, hgx⟩ : ∃ y, y = l.getD j M.vNull := ⟨_, rfl⟩
      obtain ⟨el, hl⟩ : ∃ y, y = ls.getD j [] := ⟨_, rfl⟩
      rw [← hl] at hel hiv
      rw [← hgx] at hiv hmy
      have HEL := Lib.hid hel
      have HIV : Hid (IsV S wz d el gx) := hiv.below KZ.out
      have HMY := Lib.hid hmy
      have HE6 : Hid (el.length = 6) := hiv.len
      clear hel hlt hj hjl hiv hmy hgx hl
      go_upto_region 6 with (first
        | (refine wpList_load_mid rfl _ (.tmp 31) rfl g1 (o1 + j * 6) rfl el _ HEL.out Tryz.underlying27 rfl (by rw [Tryz.sizeV]; exact congrArg some HE6.out.symm) ?_)
        | (refine wpList_store_blk rfl 27 (.tmp 6) (.tmp 32) rfl wz.heap.size _ rfl rfl 27 _ (z6_new wz) (by rw [Tryz.sizeV]; exact congrArg some HE6.out.symm) HE6.out.symm HIV.out.one ?_; intro w5 hb5 ho5))
      have k5 : Below wz.heap.size wz w5 := ((Below.refl wz.heap.size wz).alloc (Nat.le_refl _) _).trans (ho5.below (by simp) (Nat.le_refl _))
      have HIV5 := Lib.hid (HIV.out.below k5)
      have HB5 : Hid (Blk w5 gX 27 _) := BZ.out.below k5 BZ.out.lt
      have HK5 : Hid (Below w.heap.size w w5) := KZ.out.trans (k5.mono KZ.out.size)
      obtain ⟨gN, hgN⟩ : ∃ y, y = wz.heap.size := ⟨_, rfl⟩
      rw [← hgN] at hb5 ⊢
      have HN5 := Lib.hid hb5
      have HCA : Hid (Calls Tryz.prog 41 #[.agg el.toArray, .int .i64 q2] w5 fun e w' => e = .returned (.bool true) ∧ Below w5.heap.size w5 w') := HA S el gx w5 HIV5.out HMY.out.1 HMY.out.2 (HL.out.below HK5.out)
      rw [← HQ.out] at HCA
      clear k5 hb5 ho5 hgN HIV BZ KZ HEL HIV5
      go_wp2_with (refine wpList_load_mid rfl _ (.tmp 6) rfl gN 0 rfl el _ (HN5.out.range 0 _ [] (by simp)) Tryz.underlying27 rfl (by rw [Tryz.sizeV]; exact congrArg some HE6.out.symm) ?_)
      refine HCA.out.mono ?_
      rintro e w6 ⟨rfl, k6⟩
      have HB6 : Hid (Blk w6 gX 27 _) := HB5.out.below k6 HB5.out.lt
      have HK6 : Hid (Below w.heap.size w w6) := HK5.out.trans (k6.mono HK5.out.size)
      clear k6 HCA HN5
      go_wp2
      go_roundw
      case rel => exact ⟨j + 1, by go_num, HLT.out, HB6, HK6⟩
      case measure => have := HLT.out; simp [intOf]; omega
    · have b1 : ¬ (j : Int) < (ll : Int) := by omega
      have cX5 : wz.cell? ⟨gX, 5, none⟩ = some (.slice ma ml mc) := BZ.out.cell 5
      clear hlt hj
      by_cases h0 : ml = 0
      · subst h0
        go_wp2
        go_ret
        exact ⟨rfl, KZ.out⟩
      · have b2 : ¬ (ml : Int) = 0 := by omega
        have HCA : Hid (Calls Tryz.prog 97 #[.slice ma ml mc, .int .i64 q2] wz fun e w' => e = .returned (.bool true) ∧ Below wz.heap.size wz w') := by
          have := HM S _ m ms wz (HMR.out.2.1.below KZ.out) HMR.out.2.2 (HL.out.below KZ.out)
          rw [← HMR.out.1] at this
          exact this
        rw [← HQ.out] at HCA
        clear h0
        go_wp2_with fail
        refine HCA.out.mono ?_
        rintro e w6 ⟨rfl, k6⟩
        have HK6 : Hid (Below w.heap.size w w6) := KZ.out.trans (k6.mono KZ.out.size)
        clear k6 HCA
        go_wp2
        go_ret
        exact ⟨rfl, HK6.out⟩

end Go.Proofs.YtbgadfaiehkanaaGreatDoor
