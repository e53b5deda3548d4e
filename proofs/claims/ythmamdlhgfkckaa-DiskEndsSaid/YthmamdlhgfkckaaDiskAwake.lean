/-
  orloplaw09.awake, under DiskOk: it returns true. Conditions: DiskOk (proved of the code elsewhere).
-/
import Derived.Test.YthmamdlhgfkckaaDiskFace
namespace Go.Proofs.Ythmamdlhgfkckaa
open Go.RowKit
set_option linter.unusedVariables false

/-- A Write of a row of the call's own, on a disk whose blocks are all new. -/
theorem DiskOk.write_new {Dk : (Nat → Prop) → World → Nat → M.Dsk → Prop} (D : DiskOk Dk) {B : Nat} {T : Nat → Prop} {w W : World} {g : Nat} {m : M.Dsk} (h : Dk T w g m) (hT : ∀ k, T k → B ≤ k) (hB : B ≤ w.heap.size)
    (kW : Below w.heap.size w W) (i : Int) (hi : -9223372036854775808 ≤ i ∧ i < 9223372036854775808) {v : Value} {bs : List UInt8} (o : Own W w.heap.size v bs) (hfew : m.wait.length < 1000000) :
    Calls Try.prog 12 #[.pointer (some ⟨g, 0, none⟩), .int .i64 i, v] W fun e w' =>
      e = .returned (.int .i64 (m.doWrite i bs).2) ∧ Below B W w' ∧ B ≤ w'.heap.size ∧ ∃ T', Dk T' w' g (m.doWrite i bs).1 ∧ ∀ k, T' k → B ≤ k := by
  have h' := D.below h kW
  have hs := kW.size
  refine (D.write h' i v bs hi o.isB (fun _ => o.lies fun k h1 _ ht => by have := D.there h k ht; omega) hfew).mono ?_
  rintro e w' ⟨rfl, k, T', d, ht⟩
  refine ⟨rfl, k.below (by omega) hT, by have := k.size; omega, T', d, fun j hj => ?_⟩
  rcases ht j hj with q | q
  · exact hT j q
  · omega

theorem isZ_two (w : World) (t : TypeId) (a b : Bool) : IsZ (w.alloc (.cells #[.bool a, .bool b] t)) (.slice (some ⟨w.heap.size, 0, none⟩) 2 2) [a, b] := by
  refine ⟨_, 2, rfl, Nat.le_refl _, by unfold maxLen; omega, .inr ⟨w.heap.size, 0, rfl, fun i hi => ?_⟩⟩
  match i, hi with
  | 0, _ => simp
  | 1, _ => simp

set_option maxRecDepth 100000 in
set_option maxHeartbeats 8000000 in
theorem diskAwake_any {Dk : (Nat → Prop) → World → Nat → M.Dsk → Prop} (D : DiskOk Dk) (w : World) :
    Calls Try.prog 8 #[] w fun e w' => e = .returned (.bool true) ∧ Below w.heap.size w w' := by
  go_enter Try.func8, Try.ntmps8
  go_wp2_with fail
  refine (D.new_any 2 (by decide) w).mono ?_
  rintro e w1 ⟨g, T1, rfl, d1, t1, k1⟩
  obtain ⟨m0, hm0⟩ : ∃ x, Hid (x = M.dnew (Int.toNat 2)) := ⟨_, rfl⟩
  rw [← hm0.out] at d1
  have D1 := Lib.hid d1
  have N1 := Lib.hid t1
  have K1 := Lib.hid k1
  have S1 : Hid (w.heap.size ≤ w1.heap.size) := k1.size
  clear d1 t1 k1
  go_wp2_with fail
  refine (full_any _ [1] _ (isB_one w1 5 1 1 rfl) (by intro n c e; cases e) (by decide)).mono ?_
  rintro e w2 ⟨v2, rfl, o2, k2⟩
  have k2' : Below w1.heap.size w1 w2 := ((Below.refl _ _).alloc (Nat.le_refl _) (.cells #[.int .u8 1] 5)).trans (k2.mono (by simp))
  have o2' : Own w2 w1.heap.size v2 (M.full [1]) := o2.mono (by simp)
  have X2 := Lib.hid (D.write_new D1.out N1.out S1.out k2' 0 (by decide) o2' (by rw [hm0.out]; decide))
  have a2 : (m0.doWrite 0 (M.full [1])).2 = 0 := by rw [hm0.out]; decide +kernel
  rw [a2] at X2
  obtain ⟨m1, hm1⟩ : ∃ x, Hid (x = (m0.doWrite 0 (M.full [1])).1) := ⟨_, rfl⟩
  rw [← hm1.out] at X2
  have K2 : Hid (Below w.heap.size w w2) := K1.out.trans (k2'.mono S1.out)
  clear k2 k2' o2 o2' a2 D1 N1 K1
  go_wp2_with fail
  refine X2.out.mono ?_
  rintro e w3 ⟨rfl, k3, s3, T3, d3, n3⟩
  have D3 := Lib.hid d3
  have N3 := Lib.hid n3
  have S3 := Lib.hid s3
  have K3 : Hid (Below w.heap.size w w3) := K2.out.trans k3
  clear k3 s3 d3 n3 K2 X2
  go_wp2_with fail
  refine (full_any _ [2] _ (isB_one w3 5 2 2 rfl) (by intro n c e; cases e) (by decide)).mono ?_
  rintro e w4 ⟨v4, rfl, o4, k4⟩
  have k4' : Below w3.heap.size w3 w4 := ((Below.refl _ _).alloc (Nat.le_refl _) (.cells #[.int .u8 2] 5)).trans (k4.mono (by simp))
  have o4' : Own w4 w3.heap.size v4 (M.full [2]) := o4.mono (by simp)
  have X4 := Lib.hid (D.write_new D3.out N3.out S3.out k4' 0 (by decide) o4' (by rw [hm1.out, hm0.out]; decide +kernel))
  have a4 : (m1.doWrite 0 (M.full [2])).2 = 0 := by rw [hm1.out, hm0.out]; decide +kernel
  rw [a4] at X4
  obtain ⟨m2, hm2⟩ : ∃ x, Hid (x = (m1.doWrite 0 (M.full [2])).1) := ⟨_, rfl⟩
  rw [← hm2.out] at X4
  have K4 : Hid (Below w.heap.size w w4) := K3.out.trans (k4'.mono S3.out)
  clear k4 k4' o4 o4' a4 D3 N3 K3
  go_wp2_with fail
  refine X4.out.mono ?_
  rintro e w5 ⟨rfl, k5, s5, T5, d5, n5⟩
  have D5 := Lib.hid d5
  have N5 := Lib.hid n5
  have S5 := Lib.hid s5
  have K5 : Hid (Below w.heap.size w w5) := K4.out.trans k5
  clear k5 s5 d5 n5 K4 X4
  go_wp2_with fail
  refine (full_any _ [] _ (IsB.nil w5) (by intro n c e; cases e; rfl) (by decide)).mono ?_
  rintro e w6 ⟨v6, rfl, o6, k6⟩
  have X6 := Lib.hid (D.write_new D5.out N5.out S5.out k6 2 (by decide) o6 (by rw [hm2.out, hm1.out, hm0.out]; decide +kernel))
  have a6 : (m2.doWrite 2 (M.full [])).2 = 1 := by rw [hm2.out, hm1.out, hm0.out]; decide +kernel
  rw [a6] at X6
  obtain ⟨m3, hm3⟩ : ∃ x, Hid (x = (m2.doWrite 2 (M.full [])).1) := ⟨_, rfl⟩
  rw [← hm3.out] at X6
  have K6 : Hid (Below w.heap.size w w6) := K5.out.trans (k6.mono S5.out)
  clear k6 o6 a6 D5 N5 K5
  go_wp2_with fail
  refine X6.out.mono ?_
  rintro e w7 ⟨rfl, k7, s7, T7, d7, n7⟩
  have D7 := Lib.hid d7
  have N7 := Lib.hid n7
  have S7 := Lib.hid s7
  have K7 : Hid (Below w.heap.size w w7) := K6.out.trans k7
  clear k7 s7 d7 n7 K6 X6
  go_wp2_with fail
  have kW : Below w7.heap.size w7 (w7.alloc (.cells #[.bool true, .bool false] 4)) := (Below.refl _ _).alloc (Nat.le_refl _) _
  refine (D.crash (D.below D7.out kW) _ [true, false] (isZ_two w7 4 true false) (fun _ ad n c e ht => by cases e; have := D.there D7.out _ ht; simp at this) (by rw [hm3.out, hm2.out, hm1.out, hm0.out]; decide +kernel)).mono ?_
  rintro e w8 ⟨rfl, k8, T8, d8, n8⟩
  obtain ⟨m4, hm4⟩ : ∃ x, Hid (x = m3.crash [true, false]) := ⟨_, rfl⟩
  rw [← hm4.out] at d8
  have k8' : Below w.heap.size (w7.alloc (.cells #[.bool true, .bool false] 4)) w8 := k8.below (by have := S7.out; simp; omega) N7.out
  have K8 : Hid (Below w.heap.size w w8) := (K7.out.trans (kW.mono S7.out)).trans k8'
  have S8 : Hid (w.heap.size ≤ w8.heap.size) := by have := k8.size; have := S7.out; simp at *; rw [Hid]; omega
  have RD := Lib.hid (D.read d8 (by rw [hm4.out, hm3.out, hm2.out, hm1.out, hm0.out]; decide +kernel) 0 (by decide))
  have r1 : (m4.doRead 0).1 = M.full [1] := by rw [hm4.out, hm3.out, hm2.out, hm1.out, hm0.out]; decide +kernel
  have r2 : (m4.doRead 0).2 = 0 := by rw [hm4.out, hm3.out, hm2.out, hm1.out, hm0.out]; decide +kernel
  rw [r1, r2] at RD
  clear kW k8 k8' d8 n8 r1 r2 D7 N7 K7 S7
  go_wp2_with fail
  refine RD.out.mono ?_
  rintro e w9 ⟨r, rfl, ir, _, _, k9⟩
  have K9 : Hid (Below w.heap.size w w9) := K8.out.trans (k9.mono S8.out)
  obtain ⟨ao, cap, rfl, hc1, hc2, hat⟩ := ir
  rw [M.full_length] at hc1 ⊢
  obtain ⟨b, off, rfl, hc⟩ := hat.resolve_left (by intro e; have := M.full_length [1]; rw [e] at this; simp at this)
  have c0 : w9.cell? ⟨b, off, none⟩ = some (.int .u8 1) := by have := hc 0 (by rw [M.full_length]; omega); rw [Nat.add_zero] at this; rw [this]; rfl
  have c1 : w9.cell? ⟨b, off + 255, none⟩ = some (.int .u8 1) := by have := hc 255 (by rw [M.full_length]; omega); rw [this]; rfl
  clear hc hc1 hc2 k9 K8 RD hat
  go_wp2
  go_ret
  exact ⟨rfl, K9.out⟩

end Go.Proofs.Ythmamdlhgfkckaa
