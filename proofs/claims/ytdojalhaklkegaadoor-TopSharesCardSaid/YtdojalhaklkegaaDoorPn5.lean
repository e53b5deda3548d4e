/-
  CONTRACT OF chacha.quarter: four numbers are mixed where they lie. Conditions: sixteen numbers lie in a block; the places are below 16.
  CONTRACTS OF word.leastFirst, word.greatestFirst, Put32, Put64, Big32, Big64: the numbers' bytes in memory of the call's own. Conditions: none but that the numbers are numbers of their kinds.
  THE TABLE OF PLACES of chacha, and equations for arrays by value and slices of an array. Conditions: none.
-/
import Derived.Test.YtdojalhaklkegaaDoorPn2
import Derived.Test.YtdojalhaklkegaaDoorPn4
import Derived.BigRegion
import Derived.Test.YtdojalhaklkegaaDoorPn1
import Derived.WalkSpells

namespace Go.Proofs.YtdojalhaklkegaaDoor
open Go.RowKit
set_option linter.unusedVariables false

theorem wc_set (s : List UInt32) (i : Nat) (x : UInt32) : (wc s).set i (c32 x) = wc (s.set i x) := by
  rw [wc, wc, List.map_set]

theorem quarter_any (g : Nat) (t : TypeId) (s : List UInt32) (i j k l : Nat) (w : World) (hs : s.length = 16) (hi : i < 16) (hj : j < 16) (hk : k < 16) (hl : l < 16) (hd : i ≠ j ∧ i ≠ k ∧ i ≠ l ∧ j ≠ k ∧ j ≠ l ∧ k ≠ l) (h : Blk w g t (wc s)) :
    Calls Tryd.prog 75 #[.pointer (some ⟨g, 0, none⟩), .agg #[.int .i64 i, .int .i64 j, .int .i64 k, .int .i64 l]] w fun e w' =>
      e = .returned (.tuple #[]) ∧ Blk w' g t (wc (M.qAt s i j k l)) ∧ Only g w w' := by
  have H : Hid (Blk w g t (wc s)) := h
  obtain ⟨hij, hik, hil, hjk, hjl, hkl⟩ := hd
  have hji := hij.symm
  have hki := hik.symm
  have hli := hil.symm
  have hkj := hjk.symm
  have hlj := hjl.symm
  have hlk := hkl.symm
  have hg : g < w.heap.size := h.lt
  obtain ⟨a, ha⟩ : ∃ x, Hid (x = s.getD i 0) := ⟨_, rfl⟩
  obtain ⟨b, hb⟩ : ∃ x, Hid (x = s.getD j 0) := ⟨_, rfl⟩
  obtain ⟨c, hc⟩ : ∃ x, Hid (x = s.getD k 0) := ⟨_, rfl⟩
  obtain ⟨d, hd⟩ : ∃ x, Hid (x = s.getD l 0) := ⟨_, rfl⟩
  obtain ⟨q, hq⟩ : ∃ q, Hid (q = M.qr a b c d) := ⟨_, rfl⟩
  have HS : Hid (M.qAt s i j k l = (((s.set i q.1).set j q.2.1).set k q.2.2.1).set l q.2.2.2) := by
    rw [Hid, M.qAt, ← ha.out, ← hb.out, ← hc.out, ← hd.out, ← hq.out]
  obtain ⟨w1, hw1⟩ : ∃ x, Hid (x = w.alloc (.cells #[.int .i64 i, .int .i64 j, .int .i64 k, .int .i64 l] 118)) := ⟨_, rfl⟩
  have H1 : Hid (Blk w1 g t (wc s)) := by rw [Hid, hw1.out]; exact h.alloc _
  have O1 : Hid (Only g w w1) := by rw [Hid, hw1.out]; exact (Only.refl g w).alloc _
  have hcell : ∀ p, p < 16 → w1.cell? ⟨g, p, none⟩ = some (.int .u32 ((s.getD p 0).toNat : Int)) := fun p hp => by
    rw [H1.out.cell, wc_get s p (by omega)]
  have ca := hcell i hi
  have cb := hcell j hj
  have cc := hcell k hk
  have cd := hcell l hl
  rw [← ha.out] at ca
  rw [← hb.out] at cb
  rw [← hc.out] at cc
  rw [← hd.out] at cd
  have p0 : w1.cell? ⟨w.heap.size, 0, none⟩ = some (.int .i64 i) := by rw [hw1.out, (Blk.newAt w _ _ w.heap.size _ rfl rfl).cell]; rfl
  have p1 : w1.cell? ⟨w.heap.size, 1, none⟩ = some (.int .i64 j) := by rw [hw1.out, (Blk.newAt w _ _ w.heap.size _ rfl rfl).cell]; rfl
  have p2 : w1.cell? ⟨w.heap.size, 2, none⟩ = some (.int .i64 k) := by rw [hw1.out, (Blk.newAt w _ _ w.heap.size _ rfl rfl).cell]; rfl
  have p3 : w1.cell? ⟨w.heap.size, 3, none⟩ = some (.int .i64 l) := by rw [hw1.out, (Blk.newAt w _ _ w.heap.size _ rfl rfl).cell]; rfl
  have HL : Hid (s.length = 16) := hs
  clear hcell h hs
  go_enter Tryd.func75, Tryd.ntmps75
  go_wp2
  rw [← hw1.out]
  go_quiet (fail)
  go_wp2_with fail
  simp only [w_xor, w_add]
  obtain ⟨a1, ha1⟩ : ∃ x, Hid (x = a + b) := ⟨_, rfl⟩
  rw [← ha1.out]
  refine (rotl_ex _ _ _ (by decide) (by decide)).mono ?_
  rintro e4 w4 ⟨d1, hd1, rfl, rfl⟩
  go_wp2_with fail
  simp only [w_xor, w_add]
  obtain ⟨c1, hc1⟩ : ∃ x, Hid (x = c + d1) := ⟨_, rfl⟩
  rw [← hc1.out]
  refine (rotl_ex _ _ _ (by decide) (by decide)).mono ?_
  rintro e4 w4 ⟨b1, hb1, rfl, rfl⟩
  go_wp2_with fail
  simp only [w_xor, w_add]
  obtain ⟨a2, ha2⟩ : ∃ x, Hid (x = a1 + b1) := ⟨_, rfl⟩
  rw [← ha2.out]
  refine (rotl_ex _ _ _ (by decide) (by decide)).mono ?_
  rintro e4 w4 ⟨d2, hd2, rfl, rfl⟩
  go_wp2_with fail
  simp only [w_xor, w_add]
  obtain ⟨c2, hc2⟩ : ∃ x, Hid (x = c1 + d2) := ⟨_, rfl⟩
  rw [← hc2.out]
  refine (rotl_ex _ _ _ (by decide) (by decide)).mono ?_
  rintro e4 w4 ⟨b2, hb2, rfl, rfl⟩
  have e : q = (a2, b2, c2, d2) := by
    rw [hq.out, hb2.out, hc2.out, hd2.out, ha2.out, hb1.out, hc1.out, hd1.out, ha1.out]
    rfl
  subst e
  obtain ⟨w2, hw2⟩ : ∃ x, Hid (x = w1.drewN nq) := ⟨_, rfl⟩
  have H2 : Hid (Blk w2 g t (wc s)) := by rw [Hid, hw2.out]; exact H1.out.drewN _
  have O2 : Hid (Only g w w2) := by rw [Hid, hw2.out]; exact O1.out.drewN _
  rw [← hw2.out]
  have ca := H2.out.cell i
  rw [wc_get s i (by have := HL.out; omega)] at ca
  have cb := H2.out.cell j
  rw [wc_get s j (by have := HL.out; omega)] at cb
  have cc := H2.out.cell k
  rw [wc_get s k (by have := HL.out; omega)] at cc
  have cd := H2.out.cell l
  rw [wc_get s l (by have := HL.out; omega)] at cd
  have fa := H2.out.frozen i
  have fb := H2.out.frozen j
  have fc := H2.out.frozen k
  have fd := H2.out.frozen l
  have p0 : w2.cell? ⟨w.heap.size, 0, none⟩ = some (.int .i64 i) := by rw [hw2.out]; exact p0
  have p1 : w2.cell? ⟨w.heap.size, 1, none⟩ = some (.int .i64 j) := by rw [hw2.out]; exact p1
  have p2 : w2.cell? ⟨w.heap.size, 2, none⟩ = some (.int .i64 k) := by rw [hw2.out]; exact p2
  have p3 : w2.cell? ⟨w.heap.size, 3, none⟩ = some (.int .i64 l) := by rw [hw2.out]; exact p3
  go_wp2
  go_region
  go_end0
  refine ⟨rfl, ?_, ((((O2.out.setCell (.inl rfl) _).setCell (.inl rfl) _).setCell (.inl rfl) _).setCell (.inl rfl) _).drew⟩
  rw [HS.out, ← wc_set, ← wc_set, ← wc_set, ← wc_set]
  exact ((((H2.out.set_ i _).set_ j _).set_ k _).set_ l _).drew

end Go.Proofs.YtdojalhaklkegaaDoor

namespace Go.Proofs.YtdojalhaklkegaaDoor
open Go.RowKit

theorem leastFirst_any (v n : Nat) (w : World) (hn : n ≤ 8) :
    Calls Tryd.prog 95 #[.int .u64 v, .int .i64 n] w (Makes w (M.le v n)) := by
  obtain ⟨i0, hi, hz0, hz1, hz2⟩ := info_parts Tryd.info5
  go_enter Tryd.func95, Tryd.ntmps95
  go_wp2_with (at_make; go_must (refine wpList_make_full _ rfl _ _ 24 rfl w.heap.size 5 i0 (.int .u8 0) 1 Tryd.underlying24 hi hz0 hz1 .i64 .i64 n n n rfl rfl rfl rfl (by rw [hz2]; omega) (by unfold maxLen; omega) (Nat.le_refl _) ?_))
  intro w1 hown hgrow
  have hb1 : Below w.heap.size w w1 := (Below.refl _ _).grown hgrow (Nat.le_refl _) (by intro k hk; cases hk)
  have HO : Hid (w1.ownsRow w.heap.size 5 1 (.slice (some ⟨w.heap.size, 0, none⟩) n n) n (Lib.byteCells (M.le v 0) ++ List.replicate (n - 0) (.int .u8 0))) := by
    have e : Lib.byteCells (M.le v 0) ++ List.replicate (n - 0) (Value.int .u8 0) = (madeCells #[Value.int IntKind.u8 0] n).toList := by
      simp [M.le, Lib.byteCells, toList_madeCells_one]
    rw [Hid, e]
    exact hown
  clear hown hgrow hi hz0 hz1 hz2
  go_wp2
  go_loopw [10] (fun i wr => ∃ k : Nat, k ≤ n ∧ i = .int .i64 k ∧ Hid (wr.ownsRow w.heap.size 5 1 (.slice (some ⟨w.heap.size, 0, none⟩) n n) n (Lib.byteCells (M.le v k) ++ List.replicate (n - k) (.int .u8 0))) ∧ Below w.heap.size w wr)
    (fun i _ => n - (intOf i).toNat)
  case atStart => exact ⟨0, Nat.zero_le _, rfl, HO, hb1⟩
  case round =>
    rename_i wr
    obtain ⟨k, hk, rfl, hown, hb⟩ := hrel
    by_cases hlt : k < n
    · have hc : wr.cell? ⟨w.heap.size, k, none⟩ = some (.int .u8 0) := by
        rw [hown.out.cellAt k (by omega)]
        rw [List.getElem?_append_right (by simp [byteCells_length, M.le_length])]
        rw [byteCells_length, M.le_length, Nat.sub_self, List.getElem?_replicate, if_pos (by omega)]
      have hf : wr.frozen? ⟨w.heap.size, k, none⟩ = false := hown.out.frozenAt k
      go_wp2
      go_roundw
      case rel =>
        refine ⟨k + 1, by omega, by go_num, ?_, hb.setCell (Nat.le_refl _) _⟩
        have h := (hown.out.stored k (Value.int IntKind.u8 (↑v / 2 ^ (8 * k) % 256))).1
        rw [set_next _ _ _ k (n - k) (by simp [byteCells_length, M.le_length]) (by omega), byte_of] at h
        rw [Hid, M.le, byteCells_append, Nat.sub_add_eq, byte_of]
        exact h
      case measure => simp [intOf]; omega
    · obtain rfl : k = n := by omega
      go_wp2
      go_ret
      refine ⟨_, rfl, ?_, hb⟩
      have h := hown.out
      rw [Nat.sub_self, List.replicate_zero, List.append_nil] at h
      rw [Own, M.le_length]
      exact h

theorem greatestFirst_any (v n : Nat) (w : World) (hn : n ≤ 8) :
    Calls Tryd.prog 97 #[.int .u64 v, .int .i64 n] w (Makes w (M.le v n).reverse) := by
  obtain ⟨i0, hi, hz0, hz1, hz2⟩ := info_parts Tryd.info5
  go_enter Tryd.func97, Tryd.ntmps97
  go_wp2_with (at_make; go_must (refine wpList_make_full _ rfl _ _ 24 rfl w.heap.size 5 i0 (.int .u8 0) 1 Tryd.underlying24 hi hz0 hz1 .i64 .i64 n n n rfl rfl rfl rfl (by rw [hz2]; omega) (by unfold maxLen; omega) (Nat.le_refl _) ?_))
  intro w1 hown hgrow
  have hb1 : Below w.heap.size w w1 := (Below.refl _ _).grown hgrow (Nat.le_refl _) (by intro k hk; cases hk)
  have HO : Hid (w1.ownsRow w.heap.size 5 1 (.slice (some ⟨w.heap.size, 0, none⟩) n n) n (List.replicate (n - 0) (.int .u8 0) ++ Lib.byteCells (M.le v 0).reverse)) := by
    have e : List.replicate (n - 0) (Value.int .u8 0) ++ Lib.byteCells (M.le v 0).reverse = (madeCells #[Value.int IntKind.u8 0] n).toList := by
      simp [M.le, Lib.byteCells, toList_madeCells_one]
    rw [Hid, e]
    exact hown
  clear hown hgrow hi hz0 hz1 hz2
  go_wp2
  go_loopw [10] (fun i wr => ∃ k : Nat, k ≤ n ∧ i = .int .i64 k ∧ Hid (wr.ownsRow w.heap.size 5 1 (.slice (some ⟨w.heap.size, 0, none⟩) n n) n (List.replicate (n - k) (.int .u8 0) ++ Lib.byteCells (M.le v k).reverse)) ∧ Below w.heap.size w wr)
    (fun i _ => n - (intOf i).toNat)
  case atStart => exact ⟨0, Nat.zero_le _, rfl, HO, hb1⟩
  case round =>
    rename_i wr
    obtain ⟨k, hk, rfl, hown, hb⟩ := hrel
    by_cases hlt : k < n
    · have hc : wr.cell? ⟨w.heap.size, n - 1 - k, none⟩ = some (.int .u8 0) := by
        rw [hown.out.cellAt (n - 1 - k) (by omega)]
        rw [List.getElem?_append_left (by simp; omega)]
        rw [List.getElem?_replicate, if_pos (by omega)]
      have hf : wr.frozen? ⟨w.heap.size, n - 1 - k, none⟩ = false := hown.out.frozenAt _
      go_wp2
      go_roundw
      case rel =>
        refine ⟨k + 1, by omega, by go_num, ?_, hb.setCell (Nat.le_refl _) _⟩
        have h := (hown.out.stored (n - 1 - k) (Value.int IntKind.u8 (↑v / 2 ^ (8 * k) % 256))).1
        rw [set_prev _ _ _ (n - 1 - k) (n - k) (by omega), byte_of] at h
        rw [Hid, M.le, List.reverse_append, show n - (k + 1) = n - 1 - k by omega, byte_of]
        exact h
      case measure => simp [intOf]; omega
    · obtain rfl : k = n := by omega
      go_wp2
      go_ret
      refine ⟨_, rfl, ?_, hb⟩
      have h := hown.out
      rw [Nat.sub_self, List.replicate_zero, List.nil_append] at h
      rw [Own, List.length_reverse, M.le_length]
      exact h

theorem put32_any (v : Nat) (w : World) (hv : v ≤ 4294967295) :
    Calls Tryd.prog 76 #[.int .u32 v] w (Makes w (M.le v 4)) := by
  go_enter Tryd.func76, Tryd.ntmps76
  go_wp2_with (go_at_call 95; go_must (refine (leastFirst_any v 4 _ (by omega)).mono ?_); rintro e w1 ⟨r, rfl, h1, h2⟩)
  go_ret
  exact ⟨r, rfl, h1, h2⟩

theorem put64_any (v : Nat) (w : World) :
    Calls Tryd.prog 64 #[.int .u64 v] w (Makes w (M.le v 8)) := by
  go_enter Tryd.func64, Tryd.ntmps64
  go_wp2_with (go_at_call 95; go_must (refine (leastFirst_any v 8 _ (by omega)).mono ?_); rintro e w1 ⟨r, rfl, h1, h2⟩)
  go_ret
  exact ⟨r, rfl, h1, h2⟩

theorem big32_any (v : Nat) (w : World) (hv : v ≤ 4294967295) :
    Calls Tryd.prog 66 #[.int .u32 v] w (Makes w (M.le v 4).reverse) := by
  go_enter Tryd.func66, Tryd.ntmps66
  go_wp2_with (go_at_call 97; go_must (refine (greatestFirst_any v 4 _ (by omega)).mono ?_); rintro e w1 ⟨r, rfl, h1, h2⟩)
  go_ret
  exact ⟨r, rfl, h1, h2⟩

theorem big64_any (v : Nat) (w : World) :
    Calls Tryd.prog 116 #[.int .u64 v] w (Makes w (M.le v 8).reverse) := by
  go_enter Tryd.func116, Tryd.ntmps116
  go_wp2_with (go_at_call 97; go_must (refine (greatestFirst_any v 8 _ (by omega)).mono ?_); rintro e w1 ⟨r, rfl, h1, h2⟩)
  go_ret
  exact ⟨r, rfl, h1, h2⟩

end Go.Proofs.YtdojalhaklkegaaDoor

namespace Go.Proofs.YtdojalhaklkegaaDoor
open Go.RowKit
set_option linter.unusedVariables false

/-- The places of quarter k, as cells. -/
def pc (k : Nat) : List Value := [.int .i64 (M.pl k 0 : Nat), .int .i64 (M.pl k 1 : Nat), .int .i64 (M.pl k 2 : Nat), .int .i64 (M.pl k 3 : Nat)]

/-- The table's cells. -/
def tbl : List Value := pc 0 ++ pc 1 ++ pc 2 ++ pc 3 ++ pc 4 ++ pc 5 ++ pc 6 ++ pc 7

theorem tbl_get (i : Nat) (h : i < 32) : tbl[i]? = some (.int .i64 (M.pl (i / 4) (i % 4) : Nat)) := by
  match i, h with
  | 0, _ => rfl
  | 1, _ => rfl
  | 2, _ => rfl
  | 3, _ => rfl
  | 4, _ => rfl
  | 5, _ => rfl
  | 6, _ => rfl
  | 7, _ => rfl
  | 8, _ => rfl
  | 9, _ => rfl
  | 10, _ => rfl
  | 11, _ => rfl
  | 12, _ => rfl
  | 13, _ => rfl
  | 14, _ => rfl
  | 15, _ => rfl
  | 16, _ => rfl
  | 17, _ => rfl
  | 18, _ => rfl
  | 19, _ => rfl
  | 20, _ => rfl
  | 21, _ => rfl
  | 22, _ => rfl
  | 23, _ => rfl
  | 24, _ => rfl
  | 25, _ => rfl
  | 26, _ => rfl
  | 27, _ => rfl
  | 28, _ => rfl
  | 29, _ => rfl
  | 30, _ => rfl
  | 31, _ => rfl
  | n + 32, h => omega

/-- The package's table lies as the program's text lays it. -/
structure LaidP (w : World) : Prop where
  pls : ∀ i, i < 32 → w.cell? ⟨0, i, none⟩ = some (.int .i64 (M.pl (i / 4) (i % 4) : Nat))
  size : 1 ≤ w.heap.size

theorem LaidP.below {B : Nat} {w w' : World} (h : LaidP w) (k : Below B w w') (hB : 1 ≤ B) : LaidP w' :=
  ⟨fun i hi => by rw [k.cell (Nat.lt_of_lt_of_le (show 0 < 1 by decide) hB)]; exact h.pls i hi, Nat.le_trans h.size k.size⟩

theorem LaidP.range {w : World} (h : LaidP w) : w.rangeAt 0 0 tbl := by
  intro j v hv
  have hj : j < 32 := (List.getElem?_eq_some_iff.1 hv).1
  rw [Nat.zero_add, h.pls j hj, ← hv, tbl_get j hj]

theorem pc_oneCell (k : Nat) : ∀ v ∈ (pc k).toArray.toList, v.oneCell' = true := by
  intro v hv
  simp [pc] at hv
  rcases hv with rfl | rfl | rfl | rfl <;> rfl

theorem pl_ne (k : Nat) : M.pl k 0 ≠ M.pl k 1 ∧ M.pl k 0 ≠ M.pl k 2 ∧ M.pl k 0 ≠ M.pl k 3 ∧ M.pl k 1 ≠ M.pl k 2 ∧ M.pl k 1 ≠ M.pl k 3 ∧ M.pl k 2 ≠ M.pl k 3 := by
  unfold M.pl
  split <;> omega

/-- 'places[k]' of the table by value. -/
theorem run_index_places (w : World) (k : Nat) (hk : k < 8) :
    (Instr.index 119 (.agg tbl.toArray) (.int .i64 (k : Int))).run Tryd.prog w = .ok (.agg (pc k).toArray) w := by
  have hn' : (k : Int) < 8 := by omega
  simp [Instr.index, run_underlying Tryd.underlying119, asIntOf, go_sem, Tryd.sizeOf118]
  match k, hk with
  | 0, _ => rfl
  | 1, _ => rfl
  | 2, _ => rfl
  | 3, _ => rfl
  | 4, _ => rfl
  | 5, _ => rfl
  | 6, _ => rfl
  | 7, _ => rfl

/-- A number of an array by value. -/
theorem run_index_w16 (w : World) (l : List UInt32) (k : Nat) (hk : k < 16) (x : UInt32) (hx : (wc l)[k]? = some (.int .u32 (x.toNat : Int))) :
    (Instr.index 96 (.agg (wc l).toArray) (.int .i64 (k : Int))).run Tryd.prog w = .ok (.int .u32 (x.toNat : Int)) w := by
  have hn' : (k : Int) < 16 := by omega
  simp [Instr.index, run_underlying Tryd.underlying96, asIntOf, go_sem, Tryd.sizeOf58]
  rw [if_pos hk, hx]
  rfl

/-- 'block[at:]'. -/
theorem slice_blk (g at_ : Nat) (z : Int) (hz : z = at_) (h : at_ < 64) (w : World) :
    (Instr.sliceAt 101 (.pointer (some ⟨g, 0, none⟩)) (some (.int .i64 z)) none none).run Tryd.prog w = .ok (.slice (some ⟨g, at_, none⟩) (64 - at_) (64 - at_)) w := by
  subst hz
  have hal : Tryd.prog.arrayLen 101 = 64 := by simp [Program.arrayLen, Tryd.underlying101]
  have hel : Tryd.prog.elem 101 = 5 := by simp [Program.elem, Tryd.underlying101]
  rw [run_sliceAt_array_l w 101 ⟨g, 0, none⟩ (by rw [hal, hel]; exact Tryd.underlying101) .i64 (at_ : Int) (by omega) (by rw [hal]; omega), hel, Tryd.sizeOf5]
  simp only [Result.andThen_ok, slicedAt, hal, Int.toNat_natCast]
  rw [if_neg (by omega), Nat.mul_one, Addr.add_lit, Nat.zero_add]

/-- 'copy' into a block that is known, as one step of a region that draws. -/
theorem step_copy_blk {P : Program} {w : World} {ops : Array Oper} {o : Oper} {a : Act} {K : Act → World → Prop} {Q : Exit → Act → World → Prop} {E : Prop} (hgd : o.guard = none) (d s : Operand) (dT sT : TypeId)
    (ho : o.op = .call { callee := .builtin .copy, args := #[d, s], argTypes := #[dT, sT] }) (elem : TypeId) (hu : P.underlying dT = some (.slice elem)) (hsz : (P.info? elem).map (·.size) = some 1)
    (g off dLen dCap : Nat) (ad : Addr) (sLen sCap : Nat) (hd : a.eval d = .slice (some ⟨g, off, none⟩) dLen dCap) (hs : a.eval s = .slice (some ad) sLen sCap)
    (cur : List Value) (t : TypeId) (hg : Blk w g t cur) (cs : List Value) (hn : cs.length = Nat.min sLen dLen)
    (hsrc : ∀ j v, cs[j]? = some v → w.cell? (ad.add j) = some v) (hfit : off + cs.length ≤ cur.length) (h1 : ∀ v ∈ cs, v.oneCell' = true)
    (h : ∀ w', Blk w' g t (splice cur off cs) → Only g w w' → K (a.put o.dst (.int .i64 (cs.length : Int))) w') :
    if Region.wanted o (yielded ops a.tmps) = true then Oper.wp P o a w K Q else E := by
  rw [if_pos (by simp [Region.wanted, hgd])]
  have hrun := run_copy_row (P := P) w dT sT o.type elem g off dLen dCap ad sLen sCap cur.toArray t cs hu hsz hg hn hsrc (by simpa using hfit) h1
  unfold Oper.wp
  simp [execOp, ho, resolve, invoke, builtin, hd, hs, hrun, Result.andThen]
  exact h _ (show _ = _ by simpa [splice] using setRow_heap w g _ _ t _ hg) ⟨rfl, rfl, rfl, by simp, fun k _ hne => setRow_other w g k _ (fun e => hne (by rw [e]))⟩

theorem bytes_oneCell (b : List UInt8) : ∀ v ∈ (Lib.byteCells b).toArray.toList, v.oneCell' = true := by
  intro v hv
  exact byteCells_oneCell b v (by simpa using hv)

end Go.Proofs.YtdojalhaklkegaaDoor
