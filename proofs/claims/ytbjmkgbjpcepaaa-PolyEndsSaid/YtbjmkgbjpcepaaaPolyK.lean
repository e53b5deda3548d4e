/-
  CONTRACT OF poly.clamped: r, of a key's first bytes. Conditions: a key of 32 bytes.
-/
import Derived.Test.YtbjmkgbjpcepaaaPolyN
namespace Go.Proofs.Ytbjmkgbjpcepaaa
open Go.RowKit
set_option linter.unusedVariables false

namespace M

def clA (b : List UInt8) : Nat → List UInt8
  | 0 => b
  | k + 1 => (clA b k).set (4 * k + 3) ((clA b k).getD (4 * k + 3) 0 &&& 15)

def clB (b : List UInt8) : Nat → List UInt8
  | 0 => b
  | k + 1 => (clB b k).set (4 * k + 4) ((clB b k).getD (4 * k + 4) 0 &&& 252)

theorem clA_length (b : List UInt8) (k : Nat) : (clA b k).length = b.length := by
  induction k with
  | zero => rfl
  | succ k ih => simp [clA, ih]

theorem clB_length (b : List UInt8) (k : Nat) : (clB b k).length = b.length := by
  induction k with
  | zero => rfl
  | succ k ih => simp [clB, ih]

/-- The key's first bytes, some bits of them made 0. -/
def clamp (key : List UInt8) : List UInt8 := clB (clA (key.take 16 ++ [0]) 4) 3

theorem clamp_length (key : List UInt8) (h : key.length = 32) : (clamp key).length = 17 := by
  rw [clamp, clB_length, clA_length]
  simp [h]

end M

theorem bc_set (l : List UInt8) (i : Nat) (x : UInt8) : (Lib.byteCells l).set i (.int .u8 (x.toNat : Int)) = Lib.byteCells (l.set i x) := by
  rw [Lib.byteCells, Lib.byteCells, List.map_set]

theorem bc_oneCell (l : List UInt8) : ∀ v ∈ (Lib.byteCells l).toArray.toList, v.oneCell' = true := fun v hv => byteCells_oneCell l v (by simpa using hv)

theorem b_and' (a b : UInt8) : bits BinOp.and .u8 (a.toNat : Int) (b.toNat : Int) = ((a &&& b).toNat : Int) := by
  rw [u8_and_nat _ _ a.toNat_lt b.toNat_lt, UInt8.toNat_and]

theorem clamped_any (kv : Value) (key : List UInt8) (w : World) (hk : IsB w kv key) (hkl : key.length = 32) :
    Calls Try.prog 12 #[kv] w fun e w' => e = .returned (.agg (dc (M.num (M.clamp key))).toArray) ∧ Below w.heap.size w w' := by
  have HKL := Lib.hid hkl
  obtain ⟨ao, cap, rfl, h1, h2, hat⟩ := hk
  obtain ⟨b, o, rfl, hc⟩ : ∃ b off, ao = some ⟨b, off, none⟩ ∧ ∀ i, i < key.length → w.cell? ⟨b, off + i, none⟩ = some (.int .u8 ((key.getD i 0).toNat : Int)) := by
    rcases hat with h | h
    · rw [h] at hkl; simp at hkl
    · exact h
  have HC : Hid (∀ w', Below w.heap.size w w' → ∀ (j : Nat) (v : Value), (Lib.byteCells (key.take 16))[j]? = some v → w'.cell? (Addr.add ⟨b, o, none⟩ j) = some v) := by
    intro w' kw j v hv
    have hj : j < (Lib.byteCells (key.take 16)).length := (List.getElem?_eq_some_iff.1 hv).1
    have hj16 : j < 16 := by rw [byteCells_length, List.length_take] at hj; omega
    have h := hc j (by omega)
    rw [Addr.add_lit, kw.cell (by exact World.block_lt_of_cell? w _ h), h, ← hv, byteCells_getElem? _ _ (by rw [byteCells_length] at hj; exact hj)]
    simp [List.getD_eq_getElem?_getD, List.getElem?_take, hj16]
  rw [hkl] at h1 ⊢
  unfold maxLen at h2
  obtain ⟨w2, hw2⟩ : ∃ x, x = (w.alloc (.cells #[.int .u64 0, .int .u64 0, .int .u64 0, .int .u64 0, .int .u64 0] 39)).alloc (.cells #[.int .u8 0, .int .u8 0, .int .u8 0, .int .u8 0, .int .u8 0, .int .u8 0, .int .u8 0, .int .u8 0, .int .u8 0, .int .u8 0, .int .u8 0, .int .u8 0, .int .u8 0, .int .u8 0, .int .u8 0, .int .u8 0, .int .u8 0] 52) := ⟨_, rfl⟩
  have A0 : Hid (Blk w2 w.heap.size 39 (dc (List.replicate 5 0))) := by rw [hw2]; exact (blk_zeroL _ _ rfl).alloc _
  have A1 : Hid (Blk w2 (w.heap.size + 1) 52 (List.replicate 17 (.int .u8 0))) := by rw [hw2]; exact Blk.newAt _ _ _ _ _ (by simp) rfl
  have k2 : Below w.heap.size w w2 := by rw [hw2]; exact ((Below.refl _ _).alloc (Nat.le_refl _) _).alloc (by simp) _
  have HW2 := Lib.hid hw2
  clear hc hat hkl hw2
  go_enter Try.func12, Try.ntmps12
  go_wp2
  rw [← HW2.out]
  obtain ⟨c0, hc0⟩ : ∃ c : List UInt8, Hid (c = key.take 16 ++ [0]) := ⟨key.take 16 ++ [0], rfl⟩
  have HL0 : Hid (c0.length = 17) := by rw [Hid, hc0.out]; simp [HKL.out]
  have HT : Hid ((Lib.byteCells (key.take 16)).length = 16) := by rw [Hid, byteCells_length, List.length_take, HKL.out]; rfl
  have HSP : Hid (splice (List.replicate 17 (Value.int .u8 0)) 0 (Lib.byteCells (key.take 16)) = Lib.byteCells c0) := by
    rw [Hid, hc0.out, splice, HT.out, byteCells_append]
    rfl
  have hsl1 := slice17_all (w.heap.size + 1)
  have hc16 : 16 ≤ cap := by omega
  have hc16i : (16 : Int) ≤ (cap : Int) := by omega
  refine wp_region_still 3 (by kernel_rfl) (by kernel_rfl) ?_
  simp only [List.take_succ_cons, List.take_zero, List.drop_succ_cons, List.drop_zero]
  repeat still_step
  refine wpStill_nil ?_
  refine wpList_copy_blk rfl (.tmp 6) (.tmp 8) 22 22 rfl 5 Try.underlying22 (by kernel_rfl) (some ⟨w.heap.size + 1, 0, none⟩) (some ⟨b, o, none⟩) 17 17 16 cap rfl rfl
    (w.heap.size + 1) 0 _ 52 A1.out.drew (Lib.byteCells (key.take 16)) HT.out (fun _ => ⟨rfl, _, rfl, HC.out _ (drewN_below k2 1)⟩) (by rw [HT.out]; decide) (byteCells_oneCell _) ?_
  intro w3 hb3 ho3
  rw [HSP.out] at hb3
  have hs2 : w.heap.size + 1 < w2.heap.size := A1.out.lt
  have D0 : Hid (Blk w3 w.heap.size 39 (dc (List.replicate 5 0))) := A0.out.drew.grown ho3 (by intro e; injection e with e; omega)
  have D1 : Hid (Blk w3 (w.heap.size + 1) 52 (Lib.byteCells (M.clA c0 0))) := hb3
  have k3 : Below w.heap.size w w3 := (drewN_below k2 1).trans (ho3.below k2.size (by omega))
  clear hb3 ho3 A0 A1 k2 hs2 HC HSP HT
  go_wp2
  go_loopw [4] (fun i wr => ∃ k : Nat, k ≤ 4 ∧ i = .int .i64 (4 * k + 3 : Nat) ∧ Hid (Blk wr w.heap.size 39 (dc (List.replicate 5 0))) ∧ Hid (Blk wr (w.heap.size + 1) 52 (Lib.byteCells (M.clA c0 k))) ∧ Below w.heap.size w wr)
    (fun i _ => 20 - (intOf i).toNat)
  case atStart => exact ⟨0, by omega, rfl, D0, D1, k3⟩
  case round =>
    clear D0 D1 k3
    obtain ⟨wA, rfl⟩ : ∃ x, x = wr := ⟨_, rfl⟩
    obtain ⟨k, hk, rfl, b0, b1, kk⟩ := hrel
    obtain ⟨p, hp⟩ : ∃ p, p = 4 * k + 3 := ⟨_, rfl⟩
    rw [← hp]
    by_cases hlt : k < 4
    · obtain ⟨x, hx⟩ : ∃ x, Hid (x = (M.clA c0 k).getD p 0) := ⟨_, rfl⟩
      have hp16 : p < 16 := by omega
      have hc : wA.cell? ⟨w.heap.size + 1, p, none⟩ = some (.int .u8 (x.toNat : Int)) := by rw [b1.out.cell, byteCells_getElem? _ _ (by rw [M.clA_length, HL0.out]; omega), hx.out]
      have hf : wA.frozen? ⟨w.heap.size + 1, p, none⟩ = false := b1.out.frozen p
      obtain ⟨m, hm⟩ : ∃ m, Hid (m = x &&& 15) := ⟨_, rfl⟩
      have s1 : bits BinOp.and .u8 (x.toNat : Int) 15 = (m.toNat : Int) := by rw [hm.out]; exact b_and' x 15
      have HP := Lib.hid hp
      clear hp
      go_wp2
      go_roundw
      case rel =>
        refine ⟨k + 1, by omega, by have := HP.out; go_num, blk_far b0.out (by omega) _, ?_, below_set kk (by omega) _⟩
        rw [Hid, M.clA, ← HP.out, ← hx.out, ← hm.out, ← bc_set]
        exact b1.out.set_ p _
      case measure => have := HP.out; simp [intOf]; omega
    · obtain rfl : k = 4 := by omega
      obtain rfl : p = 19 := hp
      obtain ⟨c1, hc1⟩ : ∃ c, Hid (c = M.clA c0 4) := ⟨_, rfl⟩
      have HL1 : Hid (c1.length = 17) := by rw [Hid, hc1.out, M.clA_length, HL0.out]
      have D1 : Hid (Blk wA (w.heap.size + 1) 52 (Lib.byteCells (M.clB c1 0))) := by rw [hc1.out]; exact b1
      clear b1
      go_wp2
      rw [show ((19 : Nat) : Int) = 19 from rfl]
      go_loopw [5] (fun i wr => ∃ k : Nat, k ≤ 3 ∧ i = .int .i64 (4 * k + 4 : Nat) ∧ Hid (Blk wr w.heap.size 39 (dc (List.replicate 5 0))) ∧ Hid (Blk wr (w.heap.size + 1) 52 (Lib.byteCells (M.clB c1 k))) ∧ Below w.heap.size w wr)
        (fun i _ => 20 - (intOf i).toNat)
      case atStart => exact ⟨0, by omega, rfl, b0, D1, kk⟩
      case round =>
        clear b0 D1 kk
        obtain ⟨wA, rfl⟩ : ∃ x, x = wr := ⟨_, rfl⟩
        obtain ⟨k, hk, rfl, b0, b1, kk⟩ := hrel
        obtain ⟨p, hp⟩ : ∃ p, p = 4 * k + 4 := ⟨_, rfl⟩
        rw [← hp]
        by_cases hlt2 : k < 3
        · obtain ⟨x, hx⟩ : ∃ x, Hid (x = (M.clB c1 k).getD p 0) := ⟨_, rfl⟩
          have hp16 : p < 16 := by omega
          have hc : wA.cell? ⟨w.heap.size + 1, p, none⟩ = some (.int .u8 (x.toNat : Int)) := by rw [b1.out.cell, byteCells_getElem? _ _ (by rw [M.clB_length, HL1.out]; omega), hx.out]
          have hf : wA.frozen? ⟨w.heap.size + 1, p, none⟩ = false := b1.out.frozen p
          obtain ⟨m, hm⟩ : ∃ m, Hid (m = x &&& 252) := ⟨_, rfl⟩
          have s1 : bits BinOp.and .u8 (x.toNat : Int) 252 = (m.toNat : Int) := by rw [hm.out]; exact b_and' x 252
          have HP := Lib.hid hp
          clear hp
          go_wp2
          go_roundw
          case rel =>
            refine ⟨k + 1, by omega, by have := HP.out; go_num, blk_far b0.out (by omega) _, ?_, below_set kk (by omega) _⟩
            rw [Hid, M.clB, ← HP.out, ← hx.out, ← hm.out, ← bc_set]
            exact b1.out.set_ p _
          case measure => have := HP.out; simp [intOf]; omega
        · obtain rfl : k = 3 := by omega
          obtain rfl : p = 16 := hp
          obtain ⟨c2, hc2⟩ : ∃ c, Hid (c = M.clamp key) := ⟨_, rfl⟩
          have HL2 : Hid (c2.length = 17) := by rw [Hid, hc2.out, M.clamp_length key HKL.out]
          obtain ⟨r, hr⟩ : ∃ r, Hid (r = M.num c2) := ⟨_, rfl⟩
          have HRL : Hid (r.length = 5) := by rw [Hid, hr.out, M.num_length]
          have N0 : Hid (Blk wA (w.heap.size + 1) 52 (Lib.byteCells c2)) := by rw [hc2.out, M.clamp, ← hc0.out, ← hc1.out]; exact b1
          have NR : Hid (wA.rangeAt (w.heap.size + 1) 0 (Lib.byteCells c2)) := N0.out.range 0 _ [] (by simp)
          have HN : Hid (Calls Try.prog 22 #[.agg (Lib.byteCells c2).toArray] wA fun e w' => e = .returned (.agg (dc r).toArray) ∧ Below wA.heap.size wA w') := by
            rw [Hid, hr.out]
            exact numberOf_any c2 wA HL2.out
          clear N0 b1
          go_wp2_with (refine wpList_load_mid rfl 52 (.tmp 3) rfl (w.heap.size + 1) 0 rfl (Lib.byteCells c2) _ NR.out Try.underlying52 rfl (by rw [byteCells_length, HL2.out]; kernel_rfl) ?_)
          refine HN.out.mono ?_
          rintro e w5 ⟨rfl, k5⟩
          have b5 : Blk w5 w.heap.size 39 (dc (List.replicate 5 0)) := b0.out.below k5 b0.out.lt
          have k6 : Below w.heap.size w w5 := kk.trans (k5.mono kk.size)
          go_wp2_with (refine wpList_store_blk rfl 39 (.tmp 2) (.tmp 29) rfl w.heap.size (dc r).toArray rfl rfl 39 (dc (List.replicate 5 0)) b5 (by rw [List.size_toArray, dc_length, HRL.out]; kernel_rfl) (by rw [List.size_toArray, dc_length, dc_length, HRL.out]; rfl) (dc_oneCell r) ?_; intro w7 hb7 ho7)
          have k7 : Below w.heap.size w w7 := k6.trans (ho7.below k6.size (by omega))
          exact bodyPost_ret (results_cell_row rfl _ _ w.heap.size _ _ _ _ rfl hb7 Try.underlying39 rfl (by rw [Array.toArray_toList, List.size_toArray, dc_length, HRL.out]; kernel_rfl)) rfl ⟨by rw [Array.toArray_toList, hr.out, hc2.out], k7⟩

end Go.Proofs.Ytbjmkgbjpcepaaa
