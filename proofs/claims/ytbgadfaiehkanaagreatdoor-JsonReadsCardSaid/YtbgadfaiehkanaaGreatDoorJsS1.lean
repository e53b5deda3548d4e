/-
  THE REFERENCE'S Same, OF TWO VALUES THAT ARE ALIKE, if it holds within. Conditions: none.
-/
import Derived.Test.YtbgadfaiehkanaaGreatDoorJsF4
namespace Go.Proofs.YtbgadfaiehkanaaGreatDoor
open Go.RowKit Go.Proofs Go.Shelf
set_option linter.unusedVariables false
set_option maxRecDepth 100000

/-- Same holds of alike values d deep. -/
def SameP (d : Nat) : Prop := ∀ (S1 S2 : Nat → Prop) (c1 c2 : List Value) (x : M.GV) (w : World), IsV S1 w d c1 x → IsV S2 w d c2 x →
  Calls Tryz.prog 14 #[.agg c1.toArray, .agg c2.toArray] w fun e w' => e = .returned (.bool true) ∧ Below w.heap.size w w'

/-- A list in memory. -/
def LisRow (S : Nat → Prop) (w : World) (d : Nat) (lv : Value) (l : List M.GV) (ls : List (List Value)) : Prop :=
  ls.length = l.length ∧ RowAt S w 6 lv l.length ls.flatten ∧ ∀ i, i < l.length → IsV S w d (ls.getD i []) (l.getD i M.vNull)
theorem LisRow.below {S : Nat → Prop} {w w' : World} {d : Nat} {lv : Value} {l : List M.GV} {ls : List (List Value)} (h : LisRow S w d lv l ls) (k : Below w.heap.size w w') : LisRow S w' d lv l ls :=
  ⟨h.1, h.2.1.chg (Chg.of_below (F := fun _ => False) k) (fun _ _ h => h), fun i hi => (h.2.2 i hi).below k⟩
theorem LisRow.some {S : Nat → Prop} {w : World} {d n i : Nat} {ao : Option Addr} {c : Nat} {l : List M.GV} {ls : List (List Value)} (h : LisRow S w d (.slice ao n c) l ls) (hi : i < n) : ∃ b off, ao = some ⟨b, off, none⟩ ∧ n = l.length ∧ w.rangeAt b (off + i * 6) (ls.getD i []) ∧ IsV S w d (ls.getD i []) (l.getD i M.vNull) := by
  have hn : n = l.length := by obtain ⟨ao, cap, e, _⟩ := h.2.1; injection e
  obtain ⟨b, off, cap, e⟩ := row_some h.2.1 (by rw [← hn]; exact hi)
  injection e with e1 _ e3
  subst e1 e3
  subst hn
  exact ⟨b, off, rfl, rfl, row_el h.2.1 (len_of h.1 fun i hi => (h.2.2 i hi).len) h.1 hi, h.2.2 i hi⟩
theorem MemRow.some {S : Nat → Prop} {w : World} {d n i : Nat} {ao : Option Addr} {c : Nat} {l : List (List UInt8 × M.GV)} {ls : List (List Value)} (h : MemRow S w d (.slice ao n c) l ls) (hi : i < n) : ∃ b off cs, ao = some ⟨b, off, none⟩ ∧ n = l.length ∧ w.cell? ⟨b, off + i * 7, none⟩ = some (.string ⟨(l.getD i ([], M.vNull)).1.toArray⟩) ∧ w.rangeAt b (off + i * 7 + 1) cs ∧ IsV S w d cs (l.getD i ([], M.vNull)).2 := by
  have hn : n = l.length := by obtain ⟨ao, cap, e, _⟩ := h.2.1; injection e
  obtain ⟨b, off, cap, e⟩ := row_some h.2.1 (by rw [← hn]; exact hi)
  injection e with e1 _ e3
  subst e1 e3
  subst hn
  obtain ⟨cs, ec, iv⟩ := h.2.2 i hi
  have hel := row_el h.2.1 (len_of h.1 fun i hi => by obtain ⟨c, e, iv⟩ := h.2.2 i hi; rw [e, List.length_cons, iv.len]) h.1 hi
  rw [ec] at hel
  refine ⟨b, off, cs, rfl, rfl, hel 0 _ rfl, fun j v hv => ?_, iv⟩
  have := hel (j + 1) v (by rw [List.getElem?_cons_succ]; exact hv)
  rw [show off + i * 7 + (j + 1) = off + i * 7 + 1 + j by omega] at this
  exact this

theorem cell_below {wz w' : World} {a : Addr} {v : Value} (k : Below wz.heap.size wz w') (h : wz.cell? a = some v) : w'.cell? a = some v := by
  by_cases hp : a.block < wz.heap.size
  · rw [k.cell hp]; exact h
  · exfalso
    unfold World.cell? at h
    rw [Array.getElem?_eq_none (by omega)] at h
    cases h
theorem range_below {wz : World} {g o : Nat} {x : List Value} (h : wz.rangeAt g o x) : ∀ w', Below wz.heap.size wz w' → w'.rangeAt g o x := by
  intro w' k j v hv
  exact cell_below k (h j v hv)

set_option maxHeartbeats 32000000 in
theorem same_any {d : Nat} (HS : SameP d) : SameP (d + 1) := by
  intro S1 S2 c1 c2 x w iv1 iv2
  obtain ⟨lv1, mv1, ls1, ms1, rfl, hl1, hr1, hv1, hm1, hq1, hw1⟩ := iv1
  obtain ⟨lv2, mv2, ls2, ms2, rfl, hl2, hr2, hv2, hm2, hq2, hw2⟩ := iv2
  have LR1 : LisRow S1 w d lv1 x.l ls1 := ⟨hl1, hr1, hv1⟩
  have LR2 : LisRow S2 w d lv2 x.l ls2 := ⟨hl2, hr2, hv2⟩
  have MR1 : MemRow S1 w d mv1 x.m ms1 := ⟨hm1, hq1, hw1⟩
  have MR2 : MemRow S2 w d mv2 x.m ms2 := ⟨hm2, hq2, hw2⟩
  have hnl : (x.l.length : Int) ≤ 9223372036854775807 := by obtain ⟨_, _, e, h1, h2, _⟩ := hr1; unfold maxLen at h2; omega
  have hnm : (x.m.length : Int) ≤ 9223372036854775807 := by obtain ⟨_, _, e, h1, h2, _⟩ := hq1; unfold maxLen at h2; omega
  obtain ⟨a1, e1, rfl, hz1⟩ := id hr1
  obtain ⟨a2, e2, rfl, hz2⟩ := id hr2
  obtain ⟨b1, f1, rfl, hz3⟩ := id hq1
  obtain ⟨b2, f2, rfl, hz4⟩ := id hq2
  clear hl1 hr1 hv1 hm1 hq1 hw1 hl2 hr2 hv2 hm2 hq2 hw2 hz1 hz2 hz3 hz4
  obtain ⟨l, hl⟩ : ∃ l, l = x.l := ⟨_, rfl⟩
  obtain ⟨m, hm⟩ : ∃ m, m = x.m := ⟨_, rfl⟩
  rw [← hl] at LR1 LR2 hnl ⊢
  rw [← hm] at MR1 MR2 hnm ⊢
  obtain ⟨n, hn⟩ : ∃ n, n = l.length := ⟨_, rfl⟩
  obtain ⟨p, hp⟩ : ∃ p, p = m.length := ⟨_, rfl⟩
  rw [← hn] at LR1 LR2 hnl ⊢
  rw [← hp] at MR1 MR2 hnm ⊢
  clear hl hm hn hp
  obtain ⟨k, hk⟩ : ∃ k, k = x.k := ⟨_, rfl⟩
  obtain ⟨b, hb⟩ : ∃ b, b = x.b := ⟨_, rfl⟩
  obtain ⟨u, hu⟩ : ∃ u, u = x.n := ⟨_, rfl⟩
  obtain ⟨T, hT⟩ : ∃ T : ByteArray, T = ⟨x.t.toArray⟩ := ⟨_, rfl⟩
  unfold vcs
  rw [← hk, ← hb, ← hu, ← hT]
  clear hk hb hu hT
  obtain ⟨W1, hW1⟩ : ∃ W, W = w.alloc (.cells #[.int .i64 k, .bool b, .int .i64 u, .string T, .slice a1 n e1, .slice b1 p f1] 27) := ⟨_, rfl⟩
  obtain ⟨gX, hgX⟩ : ∃ y, y = w.heap.size := ⟨_, rfl⟩
  obtain ⟨W2, hW2⟩ : ∃ W, W = W1.alloc (.cells #[.int .i64 k, .bool b, .int .i64 u, .string T, .slice a2 n e2, .slice b2 p f2] 27) := ⟨_, rfl⟩
  obtain ⟨gY, hgY⟩ : ∃ y, y = W1.heap.size := ⟨_, rfl⟩
  have s1 : W1.heap.size = w.heap.size + 1 := by rw [hW1]; simp
  have B1 : Blk W1 gX 27 [.int .i64 k, .bool b, .int .i64 u, .string T, .slice a1 n e1, .slice b1 p f1] := by rw [hW1]; exact Blk.newAt _ _ _ _ _ hgX rfl
  have B2 : Blk W2 gY 27 [.int .i64 k, .bool b, .int .i64 u, .string T, .slice a2 n e2, .slice b2 p f2] := by rw [hW2]; exact Blk.newAt _ _ _ _ _ hgY rfl
  have k1 : Below w.heap.size w W1 := by rw [hW1]; exact (Below.refl _ _).alloc (Nat.le_refl _) _
  have k2 : Below W1.heap.size W1 W2 := by rw [hW2]; exact (Below.refl _ _).alloc (Nat.le_refl _) _
  have B12 := B1.below k2 B1.lt
  have HK : Hid (Below w.heap.size w W2) := k1.trans (k2.mono k1.size)
  have HBX := Lib.hid B12
  have HBY := Lib.hid B2
  have HL1 := Lib.hid LR1
  have HL2 := Lib.hid LR2
  have HM1 := Lib.hid MR1
  have HM2 := Lib.hid MR2
  have E1 := Lib.hid hW1
  have E2 := Lib.hid hW2
  have EX := Lib.hid hgX
  have EY : Hid (gY = w.heap.size + 1) := by rw [Hid, hgY, s1]
  have cX0 : W2.cell? ⟨gX, 0, none⟩ = some (.int .i64 k) := B12.cell 0
  have cX1 : W2.cell? ⟨gX, 1, none⟩ = some (.bool b) := B12.cell 1
  have cX2 : W2.cell? ⟨gX, 2, none⟩ = some (.int .i64 u) := B12.cell 2
  have cX3 : W2.cell? ⟨gX, 3, none⟩ = some (.string T) := B12.cell 3
  have cX4 : W2.cell? ⟨gX, 4, none⟩ = some (.slice a1 n e1) := B12.cell 4
  have cX5 : W2.cell? ⟨gX, 5, none⟩ = some (.slice b1 p f1) := B12.cell 5
  have cY0 : W2.cell? ⟨gY, 0, none⟩ = some (.int .i64 k) := B2.cell 0
  have cY1 : W2.cell? ⟨gY, 1, none⟩ = some (.bool b) := B2.cell 1
  have cY2 : W2.cell? ⟨gY, 2, none⟩ = some (.int .i64 u) := B2.cell 2
  have cY3 : W2.cell? ⟨gY, 3, none⟩ = some (.string T) := B2.cell 3
  have cY4 : W2.cell? ⟨gY, 4, none⟩ = some (.slice a2 n e2) := B2.cell 4
  have cY5 : W2.cell? ⟨gY, 5, none⟩ = some (.slice b2 p f2) := B2.cell 5
  clear s1 B1 B2 B12 k1 k2 hW1 hW2 hgX hgY LR1 LR2 MR1 MR2
  go_enter Tryz.func14, Tryz.ntmps14
  go_upto_region 1 with fail
  rw [← EY.out, ← EX.out, ← E1.out, ← E2.out]
  clear E1 E2 EX EY
  go_wp2_with fail
  clear cX0 cX1 cX2 cX3 cX4 cX5 cY0 cY1 cY2 cY3 cY4 cY5
  go_loopw [5] (fun i wr => ∃ j : Nat, i = .int .i64 (j : Int) ∧ Hid (j ≤ n) ∧ Hid (Below W2.heap.size W2 wr)) (fun i _ => n - (intOf i).toNat)
  case atStart => exact ⟨0, rfl, Nat.zero_le _, Lib.hid (Below.refl _ _)⟩
  case round =>
    obtain ⟨wz, rfl⟩ : ∃ x, x = wr := ⟨_, rfl⟩
    obtain ⟨j, rfl, hj, KZ⟩ := hrel
    have cX4 : wz.cell? ⟨gX, 4, none⟩ = some (.slice a1 n e1) := (HBX.out.below KZ.out HBX.out.lt).cell 4
    have HCZ : Hid (∀ w', Below wz.heap.size wz w' → w'.cell? ⟨gX, 4, none⟩ = some (.slice a1 n e1) ∧ w'.cell? ⟨gY, 4, none⟩ = some (.slice a2 n e2)) := fun w' k' =>
      ⟨(HBX.out.below (KZ.out.trans (k'.mono KZ.out.size)) HBX.out.lt).cell 4, (HBY.out.below (KZ.out.trans (k'.mono KZ.out.size)) HBY.out.lt).cell 4⟩
    by_cases hlt : j < n
    · have q1 : (j : Int) < (n : Int) := by omega
      have hj0 : (0 : Int) ≤ (j : Int) := Int.natCast_nonneg j
      have HLT := Lib.hid hlt
      have KW : Below w.heap.size w wz := HK.out.trans (KZ.out.mono HK.out.size)
      obtain ⟨g1, o1, ha1, hnn1, hel1, hiv1⟩ := (HL1.out.below KW).some hlt
      obtain ⟨g2, o2, ha2, hnn2, hel2, hiv2⟩ := (HL2.out.below KW).some hlt
      subst ha1 ha2
      obtain ⟨x1, hx1⟩ : ∃ x, x = ls1.getD j [] := ⟨_, rfl⟩
      obtain ⟨x2, hx2⟩ : ∃ x, x = ls2.getD j [] := ⟨_, rfl⟩
      rw [← hx1] at hel1 hiv1
      rw [← hx2] at hel2 hiv2
      have h61 : Hid (x1.length = 6) := hiv1.len
      have h62 : Hid (x2.length = 6) := hiv2.len
      have HR1 : Hid (∀ w', Below wz.heap.size wz w' → w'.rangeAt g1 (o1 + j * 6) x1) := range_below hel1
      have HR2 : Hid (∀ w', Below wz.heap.size wz w' → w'.rangeAt g2 (o2 + j * 6) x2) := range_below hel2
      have HC : Hid (∀ w', Below wz.heap.size wz w' → Calls Tryz.prog 14 #[.agg x1.toArray, .agg x2.toArray] w' fun e w2 => e = .returned (.bool true) ∧ Below w'.heap.size w' w2) := fun w' k' => HS S1 S2 x1 x2 _ w' (hiv1.below k') (hiv2.below k')
      clear hel1 hel2 hiv1 hiv2 hx1 hx2 hnn1 hnn2 hj hlt KW
      go_upto_region 6 with fail
      refine wp_region_any (by kernel_rfl) ?_
      change wpAny _ _ _ _ _ _ _ (World.drew _)
      refine wpAny_of_held (S := fun w' => Below wz.heap.size wz w') _ _ _ _ ?_
      clear cX4
      have S0 : Below wz.heap.size wz wz.drew := (Below.refl _ _).drew
      refine wpAnyH_take_at (i := 0) (v := .pointer (some ⟨gX, 4, none⟩)) rfl rfl (by kernel_rfl) (by kernel_rfl) (by kernel_rfl) (fun _ _ _ h => h) (Or.inl ⟨by rfl, fun w hS => by go_simp⟩) S0 ?_
      try simp only [List.setIfInBounds_toArray, List.set_cons_zero, List.set_cons_succ]
      refine wpAnyH_take_at (i := 1) (v := .slice (some ⟨g1, o1, none⟩) n e1) rfl rfl (by kernel_rfl) (by kernel_rfl) (by kernel_rfl) (fun _ _ _ h => h) (Or.inl ⟨by rfl, fun w hS => by have c := (HCZ.out w hS).1; go_simp⟩) S0 ?_
      try simp only [List.setIfInBounds_toArray, List.set_cons_zero, List.set_cons_succ]
      refine wpAnyH_take_at (i := 2) (v := .int .i64 (j : Int)) rfl rfl (by kernel_rfl) (by kernel_rfl) (by kernel_rfl) (fun _ _ _ h => h) (Or.inl ⟨by rfl, fun w hS => by go_simp⟩) S0 ?_
      try simp only [List.setIfInBounds_toArray, List.set_cons_zero, List.set_cons_succ]
      refine wpAnyH_take_at (i := 3) (v := .pointer (some ⟨g1, o1 + j * 6, none⟩)) rfl rfl (by kernel_rfl) (by kernel_rfl) (by kernel_rfl) (fun _ _ _ h => h) (Or.inl ⟨by rfl, fun w hS => by go_simp⟩) S0 ?_
      try simp only [List.setIfInBounds_toArray, List.set_cons_zero, List.set_cons_succ]
      refine wpAnyH_take_at (i := 4) (v := .agg x1.toArray) rfl rfl (by kernel_rfl) (by kernel_rfl) (by kernel_rfl) (fun _ _ _ h => h) (yieldsIf_load_mid (by rfl) 27 (.tmp 61) rfl g1 (o1 + j * 6) rfl x1 _ HR1.out Tryz.underlying27 rfl (by rw [Tryz.sizeV]; exact congrArg some (h61.out).symm)) S0 ?_
      try simp only [List.setIfInBounds_toArray, List.set_cons_zero, List.set_cons_succ]
      refine wpAnyH_take_at (i := 5) (v := .pointer (some ⟨gY, 4, none⟩)) rfl rfl (by kernel_rfl) (by kernel_rfl) (by kernel_rfl) (fun _ _ _ h => h) (Or.inl ⟨by rfl, fun w hS => by go_simp⟩) S0 ?_
      try simp only [List.setIfInBounds_toArray, List.set_cons_zero, List.set_cons_succ]
      refine wpAnyH_take_at (i := 6) (v := .slice (some ⟨g2, o2, none⟩) n e2) rfl rfl (by kernel_rfl) (by kernel_rfl) (by kernel_rfl) (fun _ _ _ h => h) (Or.inl ⟨by rfl, fun w hS => by have c := (HCZ.out w hS).2; go_simp⟩) S0 ?_
      try simp only [List.setIfInBounds_toArray, List.set_cons_zero, List.set_cons_succ]
      refine wpAnyH_take_at (i := 7) (v := .int .i64 (j : Int)) rfl rfl (by kernel_rfl) (by kernel_rfl) (by kernel_rfl) (fun _ _ _ h => h) (Or.inl ⟨by rfl, fun w hS => by go_simp⟩) S0 ?_
      try simp only [List.setIfInBounds_toArray, List.set_cons_zero, List.set_cons_succ]
      refine wpAnyH_take_at (i := 8) (v := .pointer (some ⟨g2, o2 + j * 6, none⟩)) rfl rfl (by kernel_rfl) (by kernel_rfl) (by kernel_rfl) (fun _ _ _ h => h) (Or.inl ⟨by rfl, fun w hS => by go_simp⟩) S0 ?_
      try simp only [List.setIfInBounds_toArray, List.set_cons_zero, List.set_cons_succ]
      refine wpAnyH_take_at (i := 9) (v := .agg x2.toArray) rfl rfl (by kernel_rfl) (by kernel_rfl) (by kernel_rfl) (fun _ _ _ h => h) (yieldsIf_load_mid (by rfl) 27 (.tmp 66) rfl g2 (o2 + j * 6) rfl x2 _ HR2.out Tryz.underlying27 rfl (by rw [Tryz.sizeV]; exact congrArg some (h62.out).symm)) S0 ?_
      try simp only [List.setIfInBounds_toArray, List.set_cons_zero, List.set_cons_succ]
      refine wpAnyH_ready (rs := [10]) (by kernel_rfl) (by simp) ?_
      refine AllReadyH.cons rfl (fun K hK => ?_) AllReadyH.nil
      go_simp
      refine (HC.out _ S0).mono ?_
      rintro e w1 ⟨rfl, k1⟩
      have S3 : Below wz.heap.size wz w1 := S0.trans (k1.mono S0.size)
      refine hK.out _ _ S3 (fun _ => ?_)
      clear hK K S0 k1
      refine wpAnyH_take_at (i := 11) (v := .bool false) rfl rfl (by kernel_rfl) (by kernel_rfl) (by kernel_rfl) (fun _ _ _ h => h) (Or.inl ⟨by rfl, fun w hS => by go_simp⟩) S3 ?_
      try simp only [List.setIfInBounds_toArray, List.set_cons_zero, List.set_cons_succ]
      refine wpAnyH_done (by kernel_rfl) ?_ _
      have HK3 : Hid (Below W2.heap.size W2 w1) := KZ.out.trans (S3.mono KZ.out.size)
      clear S3 HC HR1 HR2 KZ HCZ
      go_wp2
      go_roundw
      case rel => exact ⟨j + 1, by go_num, HLT.out, HK3⟩
      case measure => have := HLT.out; simp [intOf]; omega
    · have q1 : ¬ (j : Int) < (n : Int) := by omega
      clear hlt hj
      go_wp2_with fail
      clear cX4 HCZ
      go_loopw [6] (fun i wr => ∃ j : Nat, i = .int .i64 (j : Int) ∧ Hid (j ≤ p) ∧ Hid (Below W2.heap.size W2 wr)) (fun i _ => p - (intOf i).toNat)
      case atStart => exact ⟨0, rfl, Nat.zero_le _, KZ⟩
      case round =>
        obtain ⟨wy, rfl⟩ : ∃ x, x = wr := ⟨_, rfl⟩
        obtain ⟨i, rfl, hi, KY⟩ := hrel
        have cX5 : wy.cell? ⟨gX, 5, none⟩ = some (.slice b1 p f1) := (HBX.out.below KY.out HBX.out.lt).cell 5
        have HCZ : Hid (∀ w', Below wy.heap.size wy w' → w'.cell? ⟨gX, 5, none⟩ = some (.slice b1 p f1) ∧ w'.cell? ⟨gY, 5, none⟩ = some (.slice b2 p f2)) := fun w' k' =>
          ⟨(HBX.out.below (KY.out.trans (k'.mono KY.out.size)) HBX.out.lt).cell 5, (HBY.out.below (KY.out.trans (k'.mono KY.out.size)) HBY.out.lt).cell 5⟩
        by_cases hlt : i < p
        · have q2 : (i : Int) < (p : Int) := by omega
          have hi0 : (0 : Int) ≤ (i : Int) := Int.natCast_nonneg i
          have HLT := Lib.hid hlt
          have KW : Below w.heap.size w wy := HK.out.trans (KY.out.mono HK.out.size)
          obtain ⟨g1, o1, x1, ha1, hnn1, hst1, hel1, hiv1⟩ := (HM1.out.below KW).some hlt
          obtain ⟨g2, o2, x2, ha2, hnn2, hst2, hel2, hiv2⟩ := (HM2.out.below KW).some hlt
          subst ha1 ha2
          obtain ⟨N, hN⟩ : ∃ N : ByteArray, N = ⟨(m.getD i ([], M.vNull)).1.toArray⟩ := ⟨_, rfl⟩
          rw [← hN] at hst1 hst2
          have h61 : Hid (x1.length = 6) := hiv1.len
          have h62 : Hid (x2.length = 6) := hiv2.len
          have HR1 : Hid (∀ w', Below wy.heap.size wy w' → w'.rangeAt g1 (o1 + i * 7 + 1) x1) := range_below hel1
          have HR2 : Hid (∀ w', Below wy.heap.size wy w' → w'.rangeAt g2 (o2 + i * 7 + 1) x2) := range_below hel2
          have HN1 : Hid (∀ w', Below wy.heap.size wy w' → w'.cell? ⟨g1, o1 + i * 7, none⟩ = some (.string N)) := fun w' k' => cell_below k' hst1
          have HN2 : Hid (∀ w', Below wy.heap.size wy w' → w'.cell? ⟨g2, o2 + i * 7, none⟩ = some (.string N)) := fun w' k' => cell_below k' hst2
          have HC : Hid (∀ w', Below wy.heap.size wy w' → Calls Tryz.prog 14 #[.agg x1.toArray, .agg x2.toArray] w' fun e w2 => e = .returned (.bool true) ∧ Below w'.heap.size w' w2) := fun w' k' => HS S1 S2 x1 x2 _ w' (hiv1.below k') (hiv2.below k')
          clear hel1 hel2 hiv1 hiv2 hst1 hst2 hN hnn1 hnn2 hi hlt KW
          go_upto_region 11 with fail
          refine wp_region_any (by kernel_rfl) ?_
          change wpAny _ _ _ _ _ _ _ (World.drew _)
          refine wpAny_of_held (S := fun w' => Below wy.heap.size wy w') _ _ _ _ ?_
          clear cX5
          have S0 : Below wy.heap.size wy wy.drew := (Below.refl _ _).drew
          refine wpAnyH_take_at (i := 0) (v := .pointer (some ⟨gX, 5, none⟩)) rfl rfl (by kernel_rfl) (by kernel_rfl) (by kernel_rfl) (fun _ _ _ h => h) (Or.inl ⟨by rfl, fun w hS => by go_simp⟩) S0 ?_
          try simp only [List.setIfInBounds_toArray, List.set_cons_zero, List.set_cons_succ]
          refine wpAnyH_take_at (i := 1) (v := .slice (some ⟨g1, o1, none⟩) p f1) rfl rfl (by kernel_rfl) (by kernel_rfl) (by kernel_rfl) (fun _ _ _ h => h) (Or.inl ⟨by rfl, fun w hS => by have c := (HCZ.out w hS).1; go_simp⟩) S0 ?_
          try simp only [List.setIfInBounds_toArray, List.set_cons_zero, List.set_cons_succ]
          refine wpAnyH_take_at (i := 2) (v := .int .i64 (i : Int)) rfl rfl (by kernel_rfl) (by kernel_rfl) (by kernel_rfl) (fun _ _ _ h => h) (Or.inl ⟨by rfl, fun w hS => by go_simp⟩) S0 ?_
          try simp only [List.setIfInBounds_toArray, List.set_cons_zero, List.set_cons_succ]
          refine wpAnyH_take_at (i := 3) (v := .pointer (some ⟨g1, o1 + i * 7, none⟩)) rfl rfl (by kernel_rfl) (by kernel_rfl) (by kernel_rfl) (fun _ _ _ h => h) (Or.inl ⟨by rfl, fun w hS => by go_simp⟩) S0 ?_
          try simp only [List.setIfInBounds_toArray, List.set_cons_zero, List.set_cons_succ]
          refine wpAnyH_take_at (i := 4) (v := .pointer (some ⟨g1, o1 + i * 7, none⟩)) rfl rfl (by kernel_rfl) (by kernel_rfl) (by kernel_rfl) (fun _ _ _ h => h) (Or.inl ⟨by rfl, fun w hS => by go_simp⟩) S0 ?_
          try simp only [List.setIfInBounds_toArray, List.set_cons_zero, List.set_cons_succ]
          refine wpAnyH_take_at (i := 5) (v := .string N) rfl rfl (by kernel_rfl) (by kernel_rfl) (by kernel_rfl) (fun _ _ _ h => h) (Or.inl ⟨by rfl, fun w hS => by have c := HN1.out w hS; go_simp⟩) S0 ?_
          try simp only [List.setIfInBounds_toArray, List.set_cons_zero, List.set_cons_succ]
          refine wpAnyH_take_at (i := 6) (v := .pointer (some ⟨gY, 5, none⟩)) rfl rfl (by kernel_rfl) (by kernel_rfl) (by kernel_rfl) (fun _ _ _ h => h) (Or.inl ⟨by rfl, fun w hS => by go_simp⟩) S0 ?_
          try simp only [List.setIfInBounds_toArray, List.set_cons_zero, List.set_cons_succ]
          refine wpAnyH_take_at (i := 7) (v := .slice (some ⟨g2, o2, none⟩) p f2) rfl rfl (by kernel_rfl) (by kernel_rfl) (by kernel_rfl) (fun _ _ _ h => h) (Or.inl ⟨by rfl, fun w hS => by have c := (HCZ.out w hS).2; go_simp⟩) S0 ?_
          try simp only [List.setIfInBounds_toArray, List.set_cons_zero, List.set_cons_succ]
          refine wpAnyH_take_at (i := 8) (v := .int .i64 (i : Int)) rfl rfl (by kernel_rfl) (by kernel_rfl) (by kernel_rfl) (fun _ _ _ h => h) (Or.inl ⟨by rfl, fun w hS => by go_simp⟩) S0 ?_
          try simp only [List.setIfInBounds_toArray, List.set_cons_zero, List.set_cons_succ]
          refine wpAnyH_take_at (i := 9) (v := .pointer (some ⟨g2, o2 + i * 7, none⟩)) rfl rfl (by kernel_rfl) (by kernel_rfl) (by kernel_rfl) (fun _ _ _ h => h) (Or.inl ⟨by rfl, fun w hS => by go_simp⟩) S0 ?_
          try simp only [List.setIfInBounds_toArray, List.set_cons_zero, List.set_cons_succ]
          refine wpAnyH_take_at (i := 10) (v := .pointer (some ⟨g2, o2 + i * 7, none⟩)) rfl rfl (by kernel_rfl) (by kernel_rfl) (by kernel_rfl) (fun _ _ _ h => h) (Or.inl ⟨by rfl, fun w hS => by go_simp⟩) S0 ?_
          try simp only [List.setIfInBounds_toArray, List.set_cons_zero, List.set_cons_succ]
          refine wpAnyH_take_at (i := 11) (v := .string N) rfl rfl (by kernel_rfl) (by kernel_rfl) (by kernel_rfl) (fun _ _ _ h => h) (Or.inl ⟨by rfl, fun w hS => by have c := HN2.out w hS; go_simp⟩) S0 ?_
          try simp only [List.setIfInBounds_toArray, List.set_cons_zero, List.set_cons_succ]
          refine wpAnyH_take_at (i := 12) (v := .bool false) rfl rfl (by kernel_rfl) (by kernel_rfl) (by kernel_rfl) (fun _ _ _ h => h) (Or.inl ⟨by rfl, fun w hS => by go_simp⟩) S0 ?_
          try simp only [List.setIfInBounds_toArray, List.set_cons_zero, List.set_cons_succ]
          refine wpAnyH_take_at (i := 13) (v := .bool false) rfl rfl (by kernel_rfl) (by kernel_rfl) (by kernel_rfl) (fun _ _ _ h => h) (Or.inl ⟨by rfl, fun w hS => by go_simp⟩) S0 ?_
          try simp only [List.setIfInBounds_toArray, List.set_cons_zero, List.set_cons_succ]
          refine wpAnyH_take_at (i := 14) (v := .pointer (some ⟨gX, 5, none⟩)) rfl rfl (by kernel_rfl) (by kernel_rfl) (by kernel_rfl) (fun _ _ _ h => h) (Or.inl ⟨by rfl, fun w hS => by go_simp⟩) S0 ?_
          try simp only [List.setIfInBounds_toArray, List.set_cons_zero, List.set_cons_succ]
          refine wpAnyH_take_at (i := 15) (v := .slice (some ⟨g1, o1, none⟩) p f1) rfl rfl (by kernel_rfl) (by kernel_rfl) (by kernel_rfl) (fun _ _ _ h => h) (Or.inl ⟨by rfl, fun w hS => by have c := (HCZ.out w hS).1; go_simp⟩) S0 ?_
          try simp only [List.setIfInBounds_toArray, List.set_cons_zero, List.set_cons_succ]
          refine wpAnyH_take_at (i := 16) (v := .int .i64 (i : Int)) rfl rfl (by kernel_rfl) (by kernel_rfl) (by kernel_rfl) (fun _ _ _ h => h) (Or.inl ⟨by rfl, fun w hS => by go_simp⟩) S0 ?_
          try simp only [List.setIfInBounds_toArray, List.set_cons_zero, List.set_cons_succ]
          refine wpAnyH_take_at (i := 17) (v := .pointer (some ⟨g1, o1 + i * 7, none⟩)) rfl rfl (by kernel_rfl) (by kernel_rfl) (by kernel_rfl) (fun _ _ _ h => h) (Or.inl ⟨by rfl, fun w hS => by go_simp⟩) S0 ?_
          try simp only [List.setIfInBounds_toArray, List.set_cons_zero, List.set_cons_succ]
          refine wpAnyH_take_at (i := 18) (v := .pointer (some ⟨g1, o1 + i * 7 + 1, none⟩)) rfl rfl (by kernel_rfl) (by kernel_rfl) (by kernel_rfl) (fun _ _ _ h => h) (Or.inl ⟨by rfl, fun w hS => by go_simp⟩) S0 ?_
          try simp only [List.setIfInBounds_toArray, List.set_cons_zero, List.set_cons_succ]
          refine wpAnyH_take_at (i := 19) (v := .agg x1.toArray) rfl rfl (by kernel_rfl) (by kernel_rfl) (by kernel_rfl) (fun _ _ _ h => h) (yieldsIf_load_mid (by rfl) 27 (.tmp 95) rfl g1 (o1 + i * 7 + 1) rfl x1 _ HR1.out Tryz.underlying27 rfl (by rw [Tryz.sizeV]; exact congrArg some (h61.out).symm)) S0 ?_
          try simp only [List.setIfInBounds_toArray, List.set_cons_zero, List.set_cons_succ]
          refine wpAnyH_take_at (i := 20) (v := .pointer (some ⟨gY, 5, none⟩)) rfl rfl (by kernel_rfl) (by kernel_rfl) (by kernel_rfl) (fun _ _ _ h => h) (Or.inl ⟨by rfl, fun w hS => by go_simp⟩) S0 ?_
          try simp only [List.setIfInBounds_toArray, List.set_cons_zero, List.set_cons_succ]
          refine wpAnyH_take_at (i := 21) (v := .slice (some ⟨g2, o2, none⟩) p f2) rfl rfl (by kernel_rfl) (by kernel_rfl) (by kernel_rfl) (fun _ _ _ h => h) (Or.inl ⟨by rfl, fun w hS => by have c := (HCZ.out w hS).2; go_simp⟩) S0 ?_
          try simp only [List.setIfInBounds_toArray, List.set_cons_zero, List.set_cons_succ]
          refine wpAnyH_take_at (i := 22) (v := .int .i64 (i : Int)) rfl rfl (by kernel_rfl) (by kernel_rfl) (by kernel_rfl) (fun _ _ _ h => h) (Or.inl ⟨by rfl, fun w hS => by go_simp⟩) S0 ?_
          try simp only [List.setIfInBounds_toArray, List.set_cons_zero, List.set_cons_succ]
          refine wpAnyH_take_at (i := 23) (v := .pointer (some ⟨g2, o2 + i * 7, none⟩)) rfl rfl (by kernel_rfl) (by kernel_rfl) (by kernel_rfl) (fun _ _ _ h => h) (Or.inl ⟨by rfl, fun w hS => by go_simp⟩) S0 ?_
          try simp only [List.setIfInBounds_toArray, List.set_cons_zero, List.set_cons_succ]
          refine wpAnyH_take_at (i := 24) (v := .pointer (some ⟨g2, o2 + i * 7 + 1, none⟩)) rfl rfl (by kernel_rfl) (by kernel_rfl) (by kernel_rfl) (fun _ _ _ h => h) (Or.inl ⟨by rfl, fun w hS => by go_simp⟩) S0 ?_
          try simp only [List.setIfInBounds_toArray, List.set_cons_zero, List.set_cons_succ]
          refine wpAnyH_take_at (i := 25) (v := .agg x2.toArray) rfl rfl (by kernel_rfl) (by kernel_rfl) (by kernel_rfl) (fun _ _ _ h => h) (yieldsIf_load_mid (by rfl) 27 (.tmp 101) rfl g2 (o2 + i * 7 + 1) rfl x2 _ HR2.out Tryz.underlying27 rfl (by rw [Tryz.sizeV]; exact congrArg some (h62.out).symm)) S0 ?_
          try simp only [List.setIfInBounds_toArray, List.set_cons_zero, List.set_cons_succ]
          refine wpAnyH_ready (rs := [26]) (by kernel_rfl) (by simp) ?_
          refine AllReadyH.cons rfl (fun K hK => ?_) AllReadyH.nil
          go_simp
          refine (HC.out _ S0).mono ?_
          rintro e w1 ⟨rfl, k1⟩
          have S3 : Below wy.heap.size wy w1 := S0.trans (k1.mono S0.size)
          refine hK.out _ _ S3 (fun _ => ?_)
          clear hK K S0 k1
          refine wpAnyH_take_at (i := 27) (v := .bool false) rfl rfl (by kernel_rfl) (by kernel_rfl) (by kernel_rfl) (fun _ _ _ h => h) (Or.inl ⟨by rfl, fun w hS => by go_simp⟩) S3 ?_
          try simp only [List.setIfInBounds_toArray, List.set_cons_zero, List.set_cons_succ]
          refine wpAnyH_take_at (i := 28) (v := .bool false) rfl rfl (by kernel_rfl) (by kernel_rfl) (by kernel_rfl) (fun _ _ _ h => h) (Or.inl ⟨by rfl, fun w hS => by go_simp⟩) S3 ?_
          try simp only [List.setIfInBounds_toArray, List.set_cons_zero, List.set_cons_succ]
          refine wpAnyH_done (by kernel_rfl) ?_ _
          have HK3 : Hid (Below W2.heap.size W2 w1) := KY.out.trans (S3.mono KY.out.size)
          clear S3 HC HR1 HR2 HN1 HN2 KY HCZ
          go_wp2
          go_roundw
          case rel => exact ⟨i + 1, by go_num, HLT.out, HK3⟩
          case measure => have := HLT.out; simp [intOf]; omega
        · have q2 : ¬ (i : Int) < (p : Int) := by omega
          clear hlt hi
          go_wp2
          go_ret
          exact ⟨rfl, HK.out.trans (KY.out.mono HK.out.size)⟩

theorem sameP (d : Nat) : SameP d := by
  induction d with
  | zero => intro S1 S2 c1 c2 x w iv; exact iv.elim
  | succ d ih => exact same_any ih

end Go.Proofs.YtbgadfaiehkanaaGreatDoor
