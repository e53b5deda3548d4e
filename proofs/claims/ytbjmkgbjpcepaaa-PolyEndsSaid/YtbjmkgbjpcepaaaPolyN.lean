/-
  CONTRACT OF poly.numberOf: the limbs of 17 bytes. Conditions: 17 bytes.
-/
import Derived.Test.YtbjmkgbjpcepaaaPolyC1
import Derived.Test.YtbjmkgbjpcepaaaWordB
namespace Go.Proofs.Ytbjmkgbjpcepaaa
open Go.RowKit
set_option linter.unusedVariables false

namespace M

/-- Limb i of a row of bytes. -/
def limb (b : List UInt8) (i : Nat) : UInt64 := UInt64.ofNat (gl (b.drop (3 * i)) 8 / 2 ^ (2 * i) % 67108864)

def numTo (b : List UInt8) : Nat → List UInt64
  | 0 => List.replicate 5 0
  | k + 1 => (numTo b k).set k (limb b k)

def num (b : List UInt8) : List UInt64 := numTo b 5

theorem numTo_length (b : List UInt8) (k : Nat) : (numTo b k).length = 5 := by
  induction k with
  | zero => rfl
  | succ k ih => simp [numTo, ih]

theorem num_length (b : List UInt8) : (num b).length = 5 := numTo_length b 5

end M

/-- 'b[at:]' of an array of 17 bytes. -/
theorem slice17 (g at_ : Nat) (z : Int) (hz : z = at_) (h : at_ < 17) (w : World) :
    (Instr.sliceAt 52 (.pointer (some ⟨g, 0, none⟩)) (some (.int .i64 z)) none none).run Try.prog w = .ok (.slice (some ⟨g, at_, none⟩) (17 - at_) (17 - at_)) w := by
  subst hz
  have hal : Try.prog.arrayLen 52 = 17 := by simp [Program.arrayLen, Try.underlying52]
  have hel : Try.prog.elem 52 = 5 := by simp [Program.elem, Try.underlying52]
  rw [run_sliceAt_array_l w 52 ⟨g, 0, none⟩ (by rw [hal, hel]; exact Try.underlying52) .i64 (at_ : Int) (by omega) (by rw [hal]; omega), hel, Try.sizeOf5]
  simp only [Result.andThen_ok, slicedAt, hal, Int.toNat_natCast]
  rw [if_neg (by omega), Nat.mul_one, Addr.add_lit, Nat.zero_add]

/-- 'b[:]' of an array of 17 bytes. -/
theorem slice17_all (g : Nat) (w : World) :
    (Instr.sliceAt 52 (.pointer (some ⟨g, 0, none⟩)) none none none).run Try.prog w = .ok (.slice (some ⟨g, 0, none⟩) 17 17) w := by
  have hal : Try.prog.arrayLen 52 = 17 := by simp [Program.arrayLen, Try.underlying52]
  have hel : Try.prog.elem 52 = 5 := by simp [Program.elem, Try.underlying52]
  rw [run_sliceAt_array_all w 52 ⟨g, 0, none⟩ (by rw [hal, hel]; exact Try.underlying52), hel, Try.sizeOf5]
  simp only [Result.andThen_ok, slicedAt, hal]
  rw [if_neg (by omega), Nat.zero_mul, Addr.add_lit]

/-- 'b[:16]' of an array of 17 bytes. -/
theorem slice17_to (g : Nat) (w : World) :
    (Instr.sliceAt 52 (.pointer (some ⟨g, 0, none⟩)) none (some (.int .i64 16)) none).run Try.prog w = .ok (.slice (some ⟨g, 0, none⟩) 16 17) w := by
  have hal : Try.prog.arrayLen 52 = 17 := by simp [Program.arrayLen, Try.underlying52]
  have hel : Try.prog.elem 52 = 5 := by simp [Program.elem, Try.underlying52]
  rw [run_sliceAt_array_h w 52 ⟨g, 0, none⟩ (by rw [hal, hel]; exact Try.underlying52) .i64 16 (by omega) (by rw [hal]; omega), hel, Try.sizeOf5]
  simp only [Result.andThen_ok, slicedAt, hal]
  rw [if_neg (by omega), Nat.zero_mul, Addr.add_lit]
  rfl

theorem blk_isB {w : World} {g : Nat} {t : TypeId} {bs : List UInt8} (h : Blk w g t (Lib.byteCells bs)) (m : Nat) (hm : bs.length ≤ 1000) : IsB w (.slice (some ⟨g, m, none⟩) (bs.length - m) (bs.length - m)) (bs.drop m) := by
  refine ⟨_, bs.length - m, by rw [List.length_drop], by rw [List.length_drop]; exact Nat.le_refl _, by unfold maxLen; omega, .inr ⟨g, m, rfl, fun i hi => ?_⟩⟩
  rw [List.length_drop] at hi
  rw [h.cell, byteCells_getElem? _ _ (by omega)]
  simp [List.getD_eq_getElem?_getD, List.getElem?_drop]

theorem d_limb (b : List UInt8) (i : Nat) : bits BinOp.and .u64 ((M.gl (b.drop (3 * i)) 8 : Nat) / 2 ^ (2 * i) : Int) 67108863 = ((M.limb b i).toNat : Int) := by
  have h1 := M.gl_lt (b.drop (3 * i)) 8
  have h3 : (256 : Nat) ^ 8 = 18446744073709551616 := by decide
  have h2 : M.gl (b.drop (3 * i)) 8 / 2 ^ (2 * i) < 18446744073709551616 := Nat.lt_of_le_of_lt (Nat.div_le_self _ _) (by omega)
  have e : ((M.gl (b.drop (3 * i)) 8 : Nat) / 2 ^ (2 * i) : Int) = ((M.gl (b.drop (3 * i)) 8 / 2 ^ (2 * i) : Nat) : Int) := by simp
  rw [e, show (67108863 : Int) = ((67108863 : Nat) : Int) from rfl, u64_and_nat _ _ h2 (by omega), show (67108863 : Nat) = 2 ^ 26 - 1 from rfl, Nat.and_two_pow_sub_one_eq_mod, M.limb, UInt64.toNat_ofNat', Nat.mod_eq_of_lt (a := _ % 67108864) (by omega)]

theorem numberOf_any (b : List UInt8) (w : World) (hb : b.length = 17) :
    Calls Try.prog 22 #[.agg (Lib.byteCells b).toArray] w fun e w' => e = .returned (.agg (dc (M.num b)).toArray) ∧ Below w.heap.size w w' := by
  have HB := Lib.hid hb
  have A0 : ∀ o o', Hid (Blk (((w.alloc (.cells (Lib.byteCells b).toArray 52)).alloc o).alloc o') w.heap.size 52 (Lib.byteCells b)) := fun o o' =>
    ((Blk.newAt w _ (Lib.byteCells b).toArray w.heap.size (Lib.byteCells b) rfl (by simp)).alloc o).alloc o'
  have A1 : ∀ o o', Hid (Blk (((w.alloc o).alloc (.cells (Array.replicate 5 (.int .u64 0)) 39)).alloc o') (w.heap.size + 1) 39 (dc (List.replicate 5 0))) := fun o o' => (blk_zero _ _ (by simp)).alloc o'
  have A2 : ∀ o o', Hid (Blk (((w.alloc o).alloc o').alloc (.cells (Array.replicate 5 (.int .u64 0)) 39)) (w.heap.size + 1 + 1) 39 (dc (M.numTo b 0))) := fun o o' => blk_zero _ _ (by simp)
  have k0 : ∀ o o' o2, Below w.heap.size w (((w.alloc o).alloc o').alloc o2) := fun o o' o2 => (((Below.refl _ _).alloc (Nat.le_refl _) o).alloc (by simp) o').alloc (by simp; omega) o2
  clear hb
  go_enter Try.func22, Try.ntmps22
  go_wp2
  go_loopw [5] (fun i wr => ∃ k : Nat, k ≤ 5 ∧ i = .int .i64 k ∧ Hid (Blk wr w.heap.size 52 (Lib.byteCells b)) ∧ Hid (Blk wr (w.heap.size + 1) 39 (dc (List.replicate 5 0))) ∧ Hid (Blk wr (w.heap.size + 1 + 1) 39 (dc (M.numTo b k))) ∧ Below w.heap.size w wr)
    (fun i _ => 5 - (intOf i).toNat)
  case atStart => exact ⟨0, by omega, rfl, A0 _ _, A1 _ _, A2 _ _, k0 _ _ _⟩
  case round =>
    clear A0 A1 A2 k0
    obtain ⟨wr, rfl⟩ : ∃ x, x = wr := ⟨_, rfl⟩
    obtain ⟨k, hk, rfl, b0, b1, b2, kk⟩ := hrel
    by_cases hlt : k < 5
    · have hsl := slice17 w.heap.size (3 * k) (3 * (k : Int)) (by omega) (by omega) wr
      have HIS : Hid (IsB wr (.slice (some ⟨w.heap.size, 3 * k, none⟩) (17 - 3 * k) (17 - 3 * k)) (b.drop (3 * k))) := by
        have h := blk_isB b0.out (3 * k) (by rw [HB.out]; omega)
        rw [HB.out] at h
        exact h
      obtain ⟨c, hcc⟩ : ∃ u, wr.cell? ⟨w.heap.size + 1 + 1, k, none⟩ = some u := ⟨_, by rw [b2.out.cell, dc_get _ _ (by rw [M.numTo_length]; exact hlt)]⟩
      have hf : wr.frozen? ⟨w.heap.size + 1 + 1, k, none⟩ = false := b2.out.frozen k
      obtain ⟨G, hG⟩ : ∃ G, Hid (G = M.gl (b.drop (3 * k)) 8) := ⟨_, rfl⟩
      obtain ⟨m, hm⟩ : ∃ m, Hid (m = M.limb b k) := ⟨_, rfl⟩
      have hgb : G < 18446744073709551616 := by
        rw [hG.out]
        exact Nat.lt_of_lt_of_eq (M.gl_lt _ 8) (by decide)
      have s1 : bits BinOp.and .u64 ((G : Int) / 2 ^ (2 * k)) 67108863 = (m.toNat : Int) := by rw [hG.out, hm.out]; exact d_limb b k
      go_wp2_with fail
      refine (get64_any _ _ _ HIS.out).mono ?_
      rintro e w1 ⟨rfl, rfl⟩
      rw [← hG.out]
      go_wp2
      go_roundw
      case rel =>
        refine ⟨k + 1, by omega, by go_num, blk_far b0.out (by omega) _, blk_far b1.out (by omega) _, ?_, below_set kk (by omega) _⟩
        rw [Hid, M.numTo, ← hm.out, ← dc_set]
        exact b2.out.set_ k _
      case measure => simp [intOf]; omega
    · obtain rfl : k = 5 := by omega
      obtain ⟨r, hr⟩ : ∃ r, Hid (r = M.num b) := ⟨_, rfl⟩
      have HRL : Hid (r.length = 5) := by rw [Hid, hr.out, M.num_length]
      have N0 : Hid (Blk wr (w.heap.size + 1 + 1) 39 (dc r)) := by rw [hr.out]; exact b2
      have NR : Hid (wr.rangeAt (w.heap.size + 1 + 1) 0 (dc r)) := N0.out.range 0 (dc r) [] (by simp)
      clear N0 b2
      go_wp2_with (first
        | (refine wpList_load_mid rfl 39 (.tmp 3) rfl (w.heap.size + 1 + 1) 0 rfl (dc r) _ NR.out Try.underlying39 rfl (by rw [dc_length, HRL.out]; kernel_rfl) ?_)
        | (refine wpList_store_blk rfl 39 (.tmp 2) (.tmp 19) rfl (w.heap.size + 1) (dc r).toArray rfl rfl 39 (dc (List.replicate 5 0)) b1.out (by rw [List.size_toArray, dc_length, HRL.out]; kernel_rfl) (by rw [List.size_toArray, dc_length, dc_length, HRL.out]; rfl) (dc_oneCell r) ?_; intro w3 hb3 ho3))
      have k3 : Below w.heap.size w w3 := kk.trans (ho3.below kk.size (by omega))
      exact bodyPost_ret (results_cell_row rfl _ _ (w.heap.size + 1) _ _ _ _ rfl hb3 Try.underlying39 rfl (by rw [Array.toArray_toList, List.size_toArray, dc_length, HRL.out]; kernel_rfl)) rfl ⟨by rw [Array.toArray_toList, ← hr.out], k3⟩

end Go.Proofs.Ytbjmkgbjpcepaaa
