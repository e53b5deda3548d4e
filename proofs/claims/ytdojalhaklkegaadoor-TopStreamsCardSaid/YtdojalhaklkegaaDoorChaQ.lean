/-
  CONTRACT OF chacha.quarter: four numbers are mixed where they lie. Conditions: sixteen numbers lie in a block; the places are below 16.
-/
import Derived.Test.YtdojalhaklkegaaDoorShaMem
import Derived.Test.YtdojalhaklkegaaDoorChaRol
import Derived.BigRegion
namespace Go.Proofs.YtdojalhaklkegaaDoor
open Go.RowKit
set_option linter.unusedVariables false

theorem wc_set (s : List UInt32) (i : Nat) (x : UInt32) : (wc s).set i (c32 x) = wc (s.set i x) := by
  rw [wc, wc, List.map_set]

theorem quarter_any (g : Nat) (t : TypeId) (s : List UInt32) (i j k l : Nat) (w : World) (hs : s.length = 16) (hi : i < 16) (hj : j < 16) (hk : k < 16) (hl : l < 16) (hd : i ≠ j ∧ i ≠ k ∧ i ≠ l ∧ j ≠ k ∧ j ≠ l ∧ k ≠ l) (h : Blk w g t (wc s)) :
    Calls Tryd.prog 75 #[.pointer (some ⟨g, 0, none⟩), .agg #[.int .i64 i, .int .i64 j, .int .i64 k, .int .i64 l]] w fun e w' =>
      e = .returned (.tuple #[]) ∧ Blk w' g t (wc (M.qAt s i j k l)) ∧ Only g w w' := by
  have H : Hid (Blk w g t (wc s)) := h
  obtain ⟨hij, hik, hil, hjk, hjl, hkl⟩ := hd
  have hji := hij.symm
  have hki := hik.symm
  have hli := hil.symm
  have hkj := hjk.symm
  have hlj := hjl.symm
  have hlk := hkl.symm
  have hg : g < w.heap.size := h.lt
  obtain ⟨a, ha⟩ : ∃ x, Hid (x = s.getD i 0) := ⟨_, rfl⟩
  obtain ⟨b, hb⟩ : ∃ x, Hid (x = s.getD j 0) := ⟨_, rfl⟩
  obtain ⟨c, hc⟩ : ∃ x, Hid (x = s.getD k 0) := ⟨_, rfl⟩
  obtain ⟨d, hd⟩ : ∃ x, Hid (x = s.getD l 0) := ⟨_, rfl⟩
  obtain ⟨q, hq⟩ : ∃ q, Hid (q = M.qr a b c d) := ⟨_, rfl⟩
  have HS : Hid (M.qAt s i j k l = (((s.set i q.1).set j q.2.1).set k q.2.2.1).set l q.2.2.2) := by
    rw [Hid, M.qAt, ← ha.out, ← hb.out, ← hc.out, ← hd.out, ← hq.out]
  obtain ⟨w1, hw1⟩ : ∃ x, Hid (x = w.alloc (.cells #[.int .i64 i, .int .i64 j, .int .i64 k, .int .i64 l] 118)) := ⟨_, rfl⟩
  have H1 : Hid (Blk w1 g t (wc s)) := by rw [Hid, hw1.out]; exact h.alloc _
  have O1 : Hid (Only g w w1) := by rw [Hid, hw1.out]; exact (Only.refl g w).alloc _
  have hcell : ∀ p, p < 16 → w1.cell? ⟨g, p, none⟩ = some (.int .u32 ((s.getD p 0).toNat : Int)) := fun p hp => by
    rw [H1.out.cell, wc_get s p (by omega)]
  have ca := hcell i hi
  have cb := hcell j hj
  have cc := hcell k hk
  have cd := hcell l hl
  rw [← ha.out] at ca
  rw [← hb.out] at cb
  rw [← hc.out] at cc
  rw [← hd.out] at cd
  have p0 : w1.cell? ⟨w.heap.size, 0, none⟩ = some (.int .i64 i) := by rw [hw1.out, (Blk.newAt w _ _ w.heap.size _ rfl rfl).cell]; rfl
  have p1 : w1.cell? ⟨w.heap.size, 1, none⟩ = some (.int .i64 j) := by rw [hw1.out, (Blk.newAt w _ _ w.heap.size _ rfl rfl).cell]; rfl
  have p2 : w1.cell? ⟨w.heap.size, 2, none⟩ = some (.int .i64 k) := by rw [hw1.out, (Blk.newAt w _ _ w.heap.size _ rfl rfl).cell]; rfl
  have p3 : w1.cell? ⟨w.heap.size, 3, none⟩ = some (.int .i64 l) := by rw [hw1.out, (Blk.newAt w _ _ w.heap.size _ rfl rfl).cell]; rfl
  have HL : Hid (s.length = 16) := hs
  clear hcell h hs
  go_enter Tryd.func75, Tryd.ntmps75
  go_wp2
  rw [← hw1.out]
  go_quiet (fail)
  go_wp2_with fail
  simp only [w_xor, w_add]
  obtain ⟨a1, ha1⟩ : ∃ x, Hid (x = a + b) := ⟨_, rfl⟩
  rw [← ha1.out]
  refine (rotl_ex _ _ _ (by decide) (by decide)).mono ?_
  rintro e4 w4 ⟨d1, hd1, rfl, rfl⟩
  go_wp2_with fail
  simp only [w_xor, w_add]
  obtain ⟨c1, hc1⟩ : ∃ x, Hid (x = c + d1) := ⟨_, rfl⟩
  rw [← hc1.out]
  refine (rotl_ex _ _ _ (by decide) (by decide)).mono ?_
  rintro e4 w4 ⟨b1, hb1, rfl, rfl⟩
  go_wp2_with fail
  simp only [w_xor, w_add]
  obtain ⟨a2, ha2⟩ : ∃ x, Hid (x = a1 + b1) := ⟨_, rfl⟩
  rw [← ha2.out]
  refine (rotl_ex _ _ _ (by decide) (by decide)).mono ?_
  rintro e4 w4 ⟨d2, hd2, rfl, rfl⟩
  go_wp2_with fail
  simp only [w_xor, w_add]
  obtain ⟨c2, hc2⟩ : ∃ x, Hid (x = c1 + d2) := ⟨_, rfl⟩
  rw [← hc2.out]
  refine (rotl_ex _ _ _ (by decide) (by decide)).mono ?_
  rintro e4 w4 ⟨b2, hb2, rfl, rfl⟩
  have e : q = (a2, b2, c2, d2) := by
    rw [hq.out, hb2.out, hc2.out, hd2.out, ha2.out, hb1.out, hc1.out, hd1.out, ha1.out]
    rfl
  subst e
  obtain ⟨w2, hw2⟩ : ∃ x, Hid (x = w1.drewN nq) := ⟨_, rfl⟩
  have H2 : Hid (Blk w2 g t (wc s)) := by rw [Hid, hw2.out]; exact H1.out.drewN _
  have O2 : Hid (Only g w w2) := by rw [Hid, hw2.out]; exact O1.out.drewN _
  rw [← hw2.out]
  have ca := H2.out.cell i
  rw [wc_get s i (by have := HL.out; omega)] at ca
  have cb := H2.out.cell j
  rw [wc_get s j (by have := HL.out; omega)] at cb
  have cc := H2.out.cell k
  rw [wc_get s k (by have := HL.out; omega)] at cc
  have cd := H2.out.cell l
  rw [wc_get s l (by have := HL.out; omega)] at cd
  have fa := H2.out.frozen i
  have fb := H2.out.frozen j
  have fc := H2.out.frozen k
  have fd := H2.out.frozen l
  have p0 : w2.cell? ⟨w.heap.size, 0, none⟩ = some (.int .i64 i) := by rw [hw2.out]; exact p0
  have p1 : w2.cell? ⟨w.heap.size, 1, none⟩ = some (.int .i64 j) := by rw [hw2.out]; exact p1
  have p2 : w2.cell? ⟨w.heap.size, 2, none⟩ = some (.int .i64 k) := by rw [hw2.out]; exact p2
  have p3 : w2.cell? ⟨w.heap.size, 3, none⟩ = some (.int .i64 l) := by rw [hw2.out]; exact p3
  go_wp2
  go_region
  go_end0
  refine ⟨rfl, ?_, ((((O2.out.setCell (.inl rfl) _).setCell (.inl rfl) _).setCell (.inl rfl) _).setCell (.inl rfl) _).drew⟩
  rw [HS.out, ← wc_set, ← wc_set, ← wc_set, ← wc_set]
  exact ((((H2.out.set_ i _).set_ j _).set_ k _).set_ l _).drew

end Go.Proofs.YtdojalhaklkegaaDoor
