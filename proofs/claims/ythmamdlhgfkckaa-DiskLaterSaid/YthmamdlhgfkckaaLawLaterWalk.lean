/-
  orloplaw09.DiskLater, under DiskOk: it returns true. Conditions: DiskOk (proved of the code elsewhere).
-/
import Derived.Test.YthmamdlhgfkckaaDiskHeld
namespace Go.Proofs.Ythmamdlhgfkckaa
open Go.RowKit
set_option linter.unusedVariables false

/-- 'Full([]byte{x})' behind a buildSlice. -/
theorem full_one (w : World) (x : UInt8) : Calls Try.prog 13 #[.slice (some ⟨w.heap.size, 0, none⟩) 1 1] (w.alloc (.cells #[.int .u8 (x.toNat : Int)] 5)) fun e w' =>
    ∃ r, e = .returned r ∧ Own w' w.heap.size r (M.full [x]) ∧ Below w.heap.size w w' := by
  refine (full_any _ [x] _ (isB_one w 5 x _ rfl) (by intro n c e; cases e) (by show 1 ≤ 1000; decide)).mono ?_
  rintro e w' ⟨r, rfl, o, k⟩
  exact ⟨r, rfl, o.mono (by simp), ((Below.refl _ w).alloc (Nat.le_refl _) (.cells #[.int .u8 (x.toNat : Int)] 5)).trans (k.mono (by simp))⟩

/-- The cells of an array of bools. -/
def zc (l : List Bool) : List Value := l.map Value.bool

theorem isZ_of_blk {w : World} {g : Nat} {t : TypeId} {a b : Bool} (h : Blk w g t (zc [a, b])) : IsZ w (.slice (some ⟨g, 0, none⟩) 2 2) [a, b] := by
  refine ⟨_, 2, rfl, Nat.le_refl _, by unfold maxLen; omega, .inr ⟨g, 0, rfl, fun i hi => ?_⟩⟩
  match i, hi with
  | 0, _ => exact h.cell 0
  | 1, _ => exact h.cell 1

theorem M.later (a b : List UInt8) (k0 k1 : Bool) : (M.idle (M.kept [M.zero256] [(0, a), (0, b)] [k0, k1] 2) []).image = if k1 = true then b else if k0 = true then a else M.zero256 := by
  cases k0 <;> cases k1 <;> simp [M.kept, M.idle, M.Dsk.image]

set_option maxRecDepth 100000 in
set_option maxHeartbeats 8000000 in
theorem later_walk {Dk : (Nat → Prop) → World → Nat → M.Dsk → Prop} (D : DiskOk Dk) (w : World) (na : Nat) (ha : na < 256) (nb : Nat) (hb : nb < 256) (k0 k1 : Bool) :
    Calls Try.prog 7 #[.int .u8 (na : Int), .int .u8 (nb : Int), .agg #[.bool k0, .bool k1]] w fun e w' => e = .returned (.bool true) ∧ Below w.heap.size w w' := by
  obtain ⟨a, ha'⟩ : ∃ a : UInt8, a.toNat = na := ⟨UInt8.ofNat na, by simp; omega⟩
  obtain ⟨b, hb'⟩ : ∃ b : UInt8, b.toNat = nb := ⟨UInt8.ofNat nb, by simp; omega⟩
  subst ha' hb'
  clear ha hb
  obtain ⟨fa, hfa⟩ : ∃ f, Hid (f = M.full [a]) := ⟨_, rfl⟩
  obtain ⟨fb, hfb⟩ : ∃ f, Hid (f = M.full [b]) := ⟨_, rfl⟩
  have la : Hid (fa.length = 256) := by rw [Hid, hfa.out]; exact M.full_length _
  have lb : Hid (fb.length = 256) := by rw [Hid, hfb.out]; exact M.full_length _
  obtain ⟨G, hG⟩ : ∃ G, G = w.heap.size := ⟨_, rfl⟩
  obtain ⟨W1, hW1⟩ : ∃ W, Hid (W = w.alloc (.cells #[.bool k0, .bool k1] 56)) := ⟨_, rfl⟩
  have BK : Hid (Blk W1 G 56 (zc [k0, k1])) := by rw [Hid, hW1.out]; exact Blk.newAt _ _ _ _ _ hG rfl
  have KW : Hid (Below w.heap.size w W1) := by rw [Hid, hW1.out]; exact (Below.refl _ _).alloc (Nat.le_refl _) _
  go_enter Try.func7, Try.ntmps7
  go_upto_region 1 with fail
  rw [← hW1.out, ← hG]
  clear hW1 hG
  go_wp2_with fail
  refine (diskAwake_any D W1).mono ?_
  rintro e w2 ⟨rfl, k2⟩
  have K2 := Lib.hid k2
  clear k2
  go_wp2_with fail
  refine (solo_new D 1 (by decide) K2.out).mono ?_
  rintro e w3 ⟨g, rfl, s3⟩
  have S3 : Hid (Solo Dk W1 w3 g (M.idle [M.zero256] [])) := s3
  clear s3 K2
  go_wp2_with fail
  refine (full_one w3 a).mono ?_
  rintro e w4 ⟨v4, rfl, o4, k4⟩
  rw [← hfa.out] at o4
  have X4 := Lib.hid (S3.out.write D k4 0 (by decide) o4 (by decide))
  have e4 := M.idle_write [M.zero256] [] 0 fa (by decide) la.out
  rw [show ((0 : Nat) : Int) = 0 from rfl] at e4
  rw [e4, List.nil_append] at X4
  clear S3 o4 k4 e4
  go_wp2_with fail
  refine X4.out.mono ?_
  rintro e w5 ⟨rfl, s5⟩
  have S5 := Lib.hid s5
  clear X4 s5
  go_wp2_with fail
  refine (full_one w5 b).mono ?_
  rintro e w6 ⟨v6, rfl, o6, k6⟩
  rw [← hfb.out] at o6
  have X6 := Lib.hid (S5.out.write D k6 0 (by decide) o6 (show 1 < 1000000 by decide))
  have e6 := M.idle_write [M.zero256] [(0, fa)] 0 fb (by decide) lb.out
  rw [show ((0 : Nat) : Int) = 0 from rfl, show [(0, fa)] ++ [(0, fb)] = [(0, fa), (0, fb)] from rfl] at e6
  rw [e6] at X6
  clear S5 o6 k6 e6
  go_wp2_with fail
  refine X6.out.mono ?_
  rintro e w7 ⟨rfl, s7⟩
  have S7 := Lib.hid s7
  have X7 := Lib.hid (s7.read D (show 2 < 1000000 by decide) 0 (by decide))
  have e7 : (M.idle [M.zero256] [(0, fa), (0, fb)]).doRead 0 = (fb, 0) := rfl
  rw [e7] at X7
  clear X6 s7 e7
  go_wp2_with fail
  refine X7.out.mono ?_
  rintro e w8 ⟨⟨r8, rfl, i8, _⟩, s8, k8⟩
  have S8 := Lib.hid s8
  have I8 := Lib.hid i8
  clear X7 s8 i8 k8 S7
  go_wp2_with fail
  refine (full_one w8 b).mono ?_
  rintro e w9 ⟨v9, rfl, o9, k9⟩
  rw [← hfb.out] at o9
  have S9 := Lib.hid (S8.out.below D.lasts k9)
  have X9 := Lib.hid (requal_b r8 v9 fb fb w9 (I8.out.below k9) o9.isB)
  rw [decide_eq_true rfl] at X9
  clear S8 I8 o9 k9
  go_wp2_with fail
  refine X9.out.mono ?_
  rintro e w10 ⟨rfl, k10⟩
  have S10 := Lib.hid (S9.out.below D.lasts k10)
  clear X9 S9 k10
  have hk : Below W1.heap.size W1 w10 := S10.out.under
  have bk10 : Blk w10 G 56 (zc [k0, k1]) := BK.out.below hk BK.out.lt
  have X10 := Lib.hid (S10.out.crash D (Below.refl _ _) (.slice (some ⟨G, 0, none⟩) 2 2) [k0, k1] (isZ_of_blk bk10) (fun _ ad n c e => by cases e; exact .inl BK.out.lt) (show 2 < 1000000 by decide))
  have hm : (M.idle [M.zero256] [(0, fa), (0, fb)]).crash [k0, k1] = M.idle (M.kept [M.zero256] [(0, fa), (0, fb)] [k0, k1] 2) [] := rfl
  rw [hm] at X10
  clear hk bk10 hm
  go_wp2_with fail
  refine X10.out.mono ?_
  rintro e w11 ⟨rfl, s11⟩
  have bk11 : Blk w11 G 56 (zc [k0, k1]) := BK.out.below s11.under BK.out.lt
  have S11 := Lib.hid s11
  obtain ⟨ZC, hZC⟩ := make_run 256 (by decide)
  have hmk : ∀ w : World, (Instr.makeSlice 22 (.int .i64 256) (.int .i64 256)).run Try.prog w = .ok (.slice (some ⟨w.heap.size, 0, none⟩) 256 256) (w.alloc (.cells ZC 5)) := fun w => (hZC w).1
  have hzo : Own (w11.alloc (.cells ZC 5)) w11.heap.size (.slice (some ⟨w11.heap.size, 0, none⟩) 256 256) M.zero256 := (hZC w11).2
  obtain ⟨w12, hw12⟩ : ∃ x, Hid (x = w11.alloc (.cells ZC 5)) := ⟨_, rfl⟩
  have k12 : Below w11.heap.size w11 w12 := by rw [hw12.out]; exact (Below.refl _ _).alloc (Nat.le_refl _) _
  rw [← hw12.out] at hzo
  have HZO : Hid (IsB w12 (.slice (some ⟨w11.heap.size, 0, none⟩) 256 256) M.zero256) := hzo.isB
  have S12 := Lib.hid (s11.below D.lasts k12)
  have bk12 := bk11.below k12 bk11.lt
  have c0 : w12.cell? ⟨G, 0, none⟩ = some (.bool k0) := bk12.cell 0
  have c1 : w12.cell? ⟨G, 1, none⟩ = some (.bool k1) := bk12.cell 1
  clear X10 s11 hZC hzo k12 bk11 bk12 S11
  go_upto_region 12 with fail
  go_upto_region 13 with fail
  rw [← hw12.out]
  clear hmk hw12
  cases k0 <;> cases k1
  · -- false false
    go_wp2_with fail
    refine ((S12).out.image D).mono ?_
    rintro e wX ⟨⟨rX, rfl, oX⟩, sX, kX⟩
    have HX : Hid ((M.idle (M.kept [M.zero256] [(0, fa), (0, fb)] [false, false] 2) []).image = M.zero256) := by rw [Hid, M.later]; rfl
    rw [HX.out] at oX
    have XE := Lib.hid (requal_b rX (.slice (some ⟨w11.heap.size, 0, none⟩) 256 256) M.zero256 M.zero256 wX oX.isB ((HZO).out.below kX))
    rw [decide_eq_true rfl] at XE
    have SX := Lib.hid sX
    clear oX kX sX HX
    go_wp2_with fail
    refine XE.out.mono ?_
    rintro e wY ⟨rfl, kY⟩
    have SY := SX.out.below D.lasts kY
    have KY : Below w.heap.size w wY := KW.out.trans (SY.under.mono KW.out.size)
    clear kY SX XE SY
    go_wp2
    go_ret
    exact ⟨rfl, KY⟩
  · -- false true
    go_wp2_with fail
    refine (full_one w12 b).mono ?_
    rintro e w14 ⟨v14, rfl, o14, k14⟩
    rw [← hfb.out] at o14
    have S14 := Lib.hid (S12.out.below D.lasts k14)
    have I14 := Lib.hid o14.isB
    clear o14 k14 S12 c1
    go_wp2_with fail
    refine ((S14).out.image D).mono ?_
    rintro e wX ⟨⟨rX, rfl, oX⟩, sX, kX⟩
    have HX : Hid ((M.idle (M.kept [M.zero256] [(0, fa), (0, fb)] [false, true] 2) []).image = fb) := by rw [Hid, M.later]; rfl
    rw [HX.out] at oX
    have XE := Lib.hid (requal_b rX v14 fb fb wX oX.isB ((I14).out.below kX))
    rw [decide_eq_true rfl] at XE
    have SX := Lib.hid sX
    clear oX kX sX HX
    go_wp2_with fail
    refine XE.out.mono ?_
    rintro e wY ⟨rfl, kY⟩
    have SY := SX.out.below D.lasts kY
    have KY : Below w.heap.size w wY := KW.out.trans (SY.under.mono KW.out.size)
    clear kY SX XE SY
    go_wp2
    go_ret
    exact ⟨rfl, KY⟩
  · -- true false
    go_wp2_with fail
    refine (full_one w12 a).mono ?_
    rintro e w13 ⟨v13, rfl, o13, k13⟩
    rw [← hfa.out] at o13
    have S13 := Lib.hid (S12.out.below D.lasts k13)
    have I13 := Lib.hid o13.isB
    have c1 : w13.cell? ⟨G, 1, none⟩ = some (.bool false) := (k13.cell (p := ⟨G, 1, none⟩) (World.block_lt_of_cell? w12 _ c1)).trans c1
    clear o13 k13 S12 c0
    go_wp2_with fail
    refine ((S13).out.image D).mono ?_
    rintro e wX ⟨⟨rX, rfl, oX⟩, sX, kX⟩
    have HX : Hid ((M.idle (M.kept [M.zero256] [(0, fa), (0, fb)] [true, false] 2) []).image = fa) := by rw [Hid, M.later]; rfl
    rw [HX.out] at oX
    have XE := Lib.hid (requal_b rX v13 fa fa wX oX.isB ((I13).out.below kX))
    rw [decide_eq_true rfl] at XE
    have SX := Lib.hid sX
    clear oX kX sX HX
    go_wp2_with fail
    refine XE.out.mono ?_
    rintro e wY ⟨rfl, kY⟩
    have SY := SX.out.below D.lasts kY
    have KY : Below w.heap.size w wY := KW.out.trans (SY.under.mono KW.out.size)
    clear kY SX XE SY
    go_wp2
    go_ret
    exact ⟨rfl, KY⟩
  · -- true true
    go_wp2_with fail
    refine (full_one w12 a).mono ?_
    rintro e w13 ⟨v13, rfl, o13, k13⟩
    rw [← hfa.out] at o13
    have S13 := Lib.hid (S12.out.below D.lasts k13)
    have I13 := Lib.hid o13.isB
    have c1 : w13.cell? ⟨G, 1, none⟩ = some (.bool true) := (k13.cell (p := ⟨G, 1, none⟩) (World.block_lt_of_cell? w12 _ c1)).trans c1
    clear o13 k13 S12 c0
    go_wp2_with fail
    refine (full_one w13 b).mono ?_
    rintro e w14 ⟨v14, rfl, o14, k14⟩
    rw [← hfb.out] at o14
    have S14 := Lib.hid (S13.out.below D.lasts k14)
    have I14 := Lib.hid o14.isB
    clear o14 k14 S13 c1
    go_wp2_with fail
    refine ((S14).out.image D).mono ?_
    rintro e wX ⟨⟨rX, rfl, oX⟩, sX, kX⟩
    have HX : Hid ((M.idle (M.kept [M.zero256] [(0, fa), (0, fb)] [true, true] 2) []).image = fb) := by rw [Hid, M.later]; rfl
    rw [HX.out] at oX
    have XE := Lib.hid (requal_b rX v14 fb fb wX oX.isB ((I14).out.below kX))
    rw [decide_eq_true rfl] at XE
    have SX := Lib.hid sX
    clear oX kX sX HX
    go_wp2_with fail
    refine XE.out.mono ?_
    rintro e wY ⟨rfl, kY⟩
    have SY := SX.out.below D.lasts kY
    have KY : Below w.heap.size w wY := KW.out.trans (SY.under.mono KW.out.size)
    clear kY SX XE SY
    go_wp2
    go_ret
    exact ⟨rfl, KY⟩

end Go.Proofs.Ythmamdlhgfkckaa
