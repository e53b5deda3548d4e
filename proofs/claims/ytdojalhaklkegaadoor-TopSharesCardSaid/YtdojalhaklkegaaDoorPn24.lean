/-
  CONTRACT OF field.From: the element of 32 bytes. Conditions: none.
  THE FIELD'S LAWS, BY REMAINDERS ALONE: plain mathematics. Conditions: the numbers are below the prime, where it says so.
  CONTRACT OF orlopref08.Ladder. Conditions: the scalar has 32 bytes; the element is below the prime. (Written by gen_ladder.py.)
-/
import Derived.Test.YtdojalhaklkegaaDoorPn20
import Derived.Test.YtdojalhaklkegaaDoorPn18
import Derived.Test.YtdojalhaklkegaaDoorPn10
import Derived.Test.YtdojalhaklkegaaDoorLadMath
import Derived.Deep.CutRange

namespace Go.Proofs.YtdojalhaklkegaaDoor
open Go.RowKit
set_option linter.unusedVariables false

namespace M

/-- The first 32 bytes, with bytes 0 behind where they are fewer. -/
def pad32 (b : List UInt8) : List UInt8 := b.take 32 ++ List.replicate (32 - b.length) 0

theorem pad32_length (b : List UInt8) : (pad32 b).length = 32 := by
  rw [pad32, List.length_append, List.length_take, List.length_replicate]
  omega

theorem pad32_get (b : List UInt8) (i : Nat) (h : i < 32) : (pad32 b).getD i 0 = b.getD i 0 := by
  rw [pad32, List.getD_eq_getElem?_getD, List.getD_eq_getElem?_getD]
  by_cases hi : i < (b.take 32).length
  · have := hi
    rw [List.length_take] at this
    rw [List.getElem?_append_left hi, List.getElem?_take]
    simp [h]
  · have := hi
    rw [List.length_take] at this
    rw [List.getElem?_append_right (by omega), List.getElem?_replicate, List.getElem?_eq_none (by omega)]
    split <;> rfl

theorem gl_congr (a b : List UInt8) (k : Nat) (h : ∀ i, i < k → a.getD i 0 = b.getD i 0) : gl a k = gl b k := by
  induction k with
  | zero => rfl
  | succ k ih => rw [gl, gl, ih fun i hi => h i (by omega), h k (by omega)]

theorem gl_pad (b : List UInt8) : gl (pad32 b) 33 = gl b 32 := by
  have h := gl_past (pad32 b) 32 (by rw [pad32_length]; exact Nat.le_refl _) 1
  rw [h]
  exact gl_congr _ _ _ fun i hi => pad32_get b i hi

theorem gl_dropF (l : List UInt8) (n : Nat) : ∀ j, gl l (n + j) = gl l n + gl (l.drop n) j * 256 ^ n := by
  intro j
  induction j with
  | zero => simp [gl]
  | succ j ih =>
    rw [← Nat.add_assoc, gl, ih, gl, Nat.add_mul, show (l.drop n).getD j 0 = l.getD (n + j) 0 by simp [List.getD_eq_getElem?_getD], Nat.pow_add, Nat.mul_comm (256 ^ n) (256 ^ j), ← Nat.mul_assoc]
    omega

theorem gl_at (l : List UInt8) (n j m : Nat) (h : n + j ≤ m) : gl (l.drop n) j = gl l m / 256 ^ n % 256 ^ j := by
  obtain ⟨d, rfl⟩ : ∃ d, m = n + j + d := ⟨m - (n + j), by omega⟩
  have e : gl l (n + j + d) = gl l n + (gl (l.drop n) j + gl (l.drop (n + j)) d * 256 ^ j) * 256 ^ n := by
    rw [gl_dropF l (n + j) d, gl_dropF l n j, Nat.add_mul, Nat.pow_add, Nat.mul_assoc, Nat.mul_comm (256 ^ j)]
    omega
  rw [e, Nat.add_mul_div_right _ _ (pow_pos n), Nat.div_eq_of_lt (gl_lt l n), Nat.zero_add, Nat.add_mul_mod_self_right, Nat.mod_eq_of_lt (gl_lt _ j)]

/-- Limb i of a number. -/
def lim (G i : Nat) : Nat := G / 2 ^ (51 * i) % 2251799813685248

/-- The first k limbs, the others 0. -/
def lims (G : Nat) : Nat → List Nat
  | 0 => List.replicate 5 0
  | k + 1 => (lims G k).set k (lim G k)

theorem lims_length (G k : Nat) : (lims G k).length = 5 := by
  induction k with
  | zero => rfl
  | succ k ih => rw [lims, List.length_set, ih]

theorem lims_all (G : Nat) : lims G 5 = [lim G 0, lim G 1, lim G 2, lim G 3, lim G 4] := rfl

theorem lims_ok (G : Nat) : V5 (lim G 0) (lim G 1) (lim G 2) (lim G 3) (lim G 4) = G % 2 ^ 255 := by
  show V5 (G / 2 ^ 0 % 2251799813685248) (G / 2 ^ 51 % 2251799813685248) (G / 2 ^ 102 % 2251799813685248) (G / 2 ^ 153 % 2251799813685248) (G / 2 ^ 204 % 2251799813685248) = G % 2 ^ 255
  unfold V5
  omega

theorem lim_at (G k : Nat) (h : k < 5) : G / 256 ^ (51 * k / 8) % 256 ^ 8 / 2 ^ (51 * k % 8) % 2251799813685248 = lim G k := by
  have : k = 0 ∨ k = 1 ∨ k = 2 ∨ k = 3 ∨ k = 4 := by omega
  rcases this with rfl | rfl | rfl | rfl | rfl
  · show G / 256 ^ 0 % 256 ^ 8 / 2 ^ 0 % 2251799813685248 = G / 2 ^ 0 % 2251799813685248
    omega
  · show G / 256 ^ 6 % 256 ^ 8 / 2 ^ 3 % 2251799813685248 = G / 2 ^ 51 % 2251799813685248
    omega
  · show G / 256 ^ 12 % 256 ^ 8 / 2 ^ 6 % 2251799813685248 = G / 2 ^ 102 % 2251799813685248
    omega
  · show G / 256 ^ 19 % 256 ^ 8 / 2 ^ 1 % 2251799813685248 = G / 2 ^ 153 % 2251799813685248
    omega
  · show G / 256 ^ 25 % 256 ^ 8 / 2 ^ 4 % 2251799813685248 = G / 2 ^ 204 % 2251799813685248
    omega

end M

theorem slice32 (g at_ : Nat) (z : Int) (hz : z = at_) (h : at_ < 32) (w : World) :
    (Instr.sliceAt 22 (.pointer (some ⟨g, 0, none⟩)) (some (.int .i64 z)) none none).run Tryd.prog w = .ok (.slice (some ⟨g, at_, none⟩) (32 - at_) (32 - at_)) w := by
  subst hz
  have hal : Tryd.prog.arrayLen 22 = 32 := by simp [Program.arrayLen, Tryd.underlying22]
  have hel : Tryd.prog.elem 22 = 5 := by simp [Program.elem, Tryd.underlying22]
  rw [run_sliceAt_array_l w 22 ⟨g, 0, none⟩ (by rw [hal, hel]; exact Tryd.underlying22) .i64 (at_ : Int) (by omega) (by rw [hal]; omega), hel, Tryd.sizeOf5]
  simp only [Result.andThen_ok, slicedAt, hal, Int.toNat_natCast]
  rw [if_neg (by omega), Nat.mul_one, Addr.add_lit, Nat.zero_add]

theorem slice32_all (g : Nat) (w : World) :
    (Instr.sliceAt 22 (.pointer (some ⟨g, 0, none⟩)) none none none).run Tryd.prog w = .ok (.slice (some ⟨g, 0, none⟩) 32 32) w := by
  have hal : Tryd.prog.arrayLen 22 = 32 := by simp [Program.arrayLen, Tryd.underlying22]
  have hel : Tryd.prog.elem 22 = 5 := by simp [Program.elem, Tryd.underlying22]
  rw [run_sliceAt_array_all w 22 ⟨g, 0, none⟩ (by rw [hal, hel]; exact Tryd.underlying22), hel, Tryd.sizeOf5]
  simp only [Result.andThen_ok, slicedAt, hal]
  rw [if_neg (by omega), Nat.zero_mul, Addr.add_lit]

theorem pad_splice (b : List UInt8) : splice (List.replicate 32 (Value.int .u8 0)) 0 (Lib.byteCells (b.take 32)) = Lib.byteCells (M.pad32 b) := by
  rw [splice, M.pad32, byteCells_append, byteCells_length, List.take_zero, List.nil_append, Nat.zero_add, List.drop_replicate, List.length_take]
  congr 1
  rw [show 32 - min 32 b.length = 32 - b.length by omega]
  simp [Lib.byteCells]

theorem blk_at {w : World} {g : Nat} {t : TypeId} {bs : List UInt8} (h : Blk w g t (Lib.byteCells bs)) (hn : bs.length = 32) (o : Nat) (ho : o ≤ 32) : IsB w (.slice (some ⟨g, o, none⟩) (32 - o) (32 - o)) (bs.drop o) := by
  have hl : (bs.drop o).length = 32 - o := by rw [List.length_drop, hn]
  refine ⟨_, 32 - o, by rw [hl], by rw [hl]; exact Nat.le_refl _, by unfold maxLen; omega, .inr ⟨g, o, rfl, fun i hi => ?_⟩⟩
  rw [hl] at hi
  rw [h.cell, byteCells_getElem? _ _ (by omega)]
  simp [List.getD_eq_getElem?_getD]

theorem z32b : (List.replicate 32 (Value.int .u8 0)).length = 32 := List.length_replicate

set_option maxRecDepth 100000 in
set_option maxHeartbeats 4000000 in
theorem ffrom_any (v : Value) (b : List UInt8) (w : World) (hb : IsB w v b) :
    Calls Tryd.prog 30 #[v] w (GivesE Fl w (M.told b % M.Q)) := by
  obtain ⟨ao, cap, rfl, h1, h2, hat⟩ := hb
  obtain ⟨n, hn⟩ : ∃ n, n = b.length := ⟨_, rfl⟩
  obtain ⟨r, hr⟩ : ∃ r, Hid (r = M.told b % M.Q) := ⟨_, rfl⟩
  rw [← hr.out]
  obtain ⟨G, hG⟩ : ∃ G, Hid (G = M.gl b 32) := ⟨_, rfl⟩
  obtain ⟨pb, hpb⟩ : ∃ pb, Hid (pb = M.pad32 b) := ⟨_, rfl⟩
  have HPL : Hid (pb.length = 32) := by rw [hpb.out]; exact M.pad32_length b
  have HGP : Hid (M.gl pb 33 = G) := by rw [hpb.out, hG.out]; exact M.gl_pad b
  have HRES : Hid (Fl (uc (M.lims G 5)) r) := by
    refine ⟨_, _, _, _, _, by rw [M.lims_all], ⟨?_, ?_, ?_, ?_, ?_⟩, by rw [M.lims_ok, hr.out, hG.out]; rfl⟩ <;> exact Nat.lt_trans (Nat.mod_lt _ (by decide)) (by decide)
  have HT : Hid ((Lib.byteCells (b.take 32)).length = min n 32) := by rw [Hid, byteCells_length, List.length_take, Nat.min_comm, hn]
  have HSP : Hid (splice (List.replicate 32 (Value.int .u8 0)) 0 (Lib.byteCells (b.take 32)) = Lib.byteCells pb) := by rw [hpb.out]; exact pad_splice b
  have HC : Hid (∀ w', Below w.heap.size w w' → 0 < n → ∃ ad, ao = some ad ∧ ∀ j u, (Lib.byteCells (b.take 32))[j]? = some u → w'.cell? (ad.add j) = some u) := by
    intro w' kw h0
    rcases hat with h | ⟨g, o, rfl, hc⟩
    · rw [h] at hn; simp at hn; omega
    · refine ⟨_, rfl, fun j u hu => ?_⟩
      have hj := (List.getElem?_eq_some_iff.1 hu).1
      rw [byteCells_length, List.length_take] at hj
      have h := hc j (by omega)
      rw [Addr.add_lit, kw.cell (by exact World.block_lt_of_cell? w _ h), h, ← hu, byteCells_getElem? _ _ (by rw [List.length_take]; exact hj)]
      simp [List.getD_eq_getElem?_getD, show j < 32 by omega]
  rw [← hn] at h1 ⊢
  unfold maxLen at h2
  obtain ⟨g, hg⟩ : ∃ g, g = w.heap.size := ⟨_, rfl⟩
  obtain ⟨W, hW⟩ : ∃ W, Hid (W = (w.alloc (.cells z5.toArray 62)).alloc (.cells (List.replicate 32 (Value.int .u8 0)).toArray 22)) := ⟨_, rfl⟩
  have A0 : Hid (Blk W g 62 z5) := by rw [hW.out, hg]; exact (Blk.newAt _ _ _ _ _ rfl (by simp)).alloc _
  have A1 : Hid (Blk W (g + 1) 22 (List.replicate 32 (.int .u8 0))) := by rw [hW.out, hg]; exact Blk.newAt _ _ _ _ _ (by simp) (by simp)
  have K0 : Hid (Below w.heap.size w W) := by rw [hW.out]; exact ((Below.refl _ _).alloc (Nat.le_refl _) _).alloc (by simp) _
  have HG : Hid (w.heap.size = g) := hg.symm
  have hsl1 := slice32_all (g + 1)
  clear hat hn hr hpb
  go_enter Tryd.func30, Tryd.ntmps30
  go_upto_region 2 with fail
  rw [← z5_arr, show (#[Value.int .u8 0, .int .u8 0, .int .u8 0, .int .u8 0, .int .u8 0, .int .u8 0, .int .u8 0, .int .u8 0, .int .u8 0, .int .u8 0, .int .u8 0, .int .u8 0, .int .u8 0, .int .u8 0, .int .u8 0, .int .u8 0, .int .u8 0, .int .u8 0, .int .u8 0, .int .u8 0, .int .u8 0, .int .u8 0, .int .u8 0, .int .u8 0, .int .u8 0, .int .u8 0, .int .u8 0, .int .u8 0, .int .u8 0, .int .u8 0, .int .u8 0, .int .u8 0] : Array Value) = (List.replicate 32 (Value.int .u8 0)).toArray from rfl, ← hW.out, ← hg]
  clear hW hg
  go_wp2_with (refine wpList_copy_blk rfl (.tmp 7) (.tmp 8) 24 24 rfl 5 Tryd.underlying24 (by kernel_rfl) (some ⟨g + 1, 0, none⟩) ao 32 32 n cap rfl rfl (g + 1) 0 _ 22 A1.out (Lib.byteCells (b.take 32)) HT.out (fun h0 => ⟨rfl, HC.out _ K0.out (by rw [HT.out] at h0; omega)⟩) (by rw [HT.out, z32b]; omega) (byteCells_oneCell _) ?_; intro w3 hb3 ho3)
  rw [HSP.out] at hb3
  obtain ⟨g2, hg2⟩ : ∃ g2, g2 = w3.heap.size := ⟨_, rfl⟩
  have HGG : Hid (g + 1 < g2) := by rw [Hid, hg2]; exact hb3.lt
  have k3 : Below w.heap.size w w3 := K0.out.trans (ho3.below K0.out.size (by have := HG.out; omega))
  have D0 : Hid (Blk (w3.alloc (.cells z5.toArray 62)) g 62 z5) := (A0.out.grown ho3 (by intro e; injection e with e; omega)).alloc _
  have D1 : Hid (Blk (w3.alloc (.cells z5.toArray 62)) (g + 1) 22 (Lib.byteCells pb)) := hb3.alloc _
  have D2 : Hid (Blk (w3.alloc (.cells z5.toArray 62)) g2 62 (uc (M.lims G 0))) := Blk.newAt _ _ _ _ _ hg2 rfl
  have D3 : Hid (Below w.heap.size w (w3.alloc (.cells z5.toArray 62))) := k3.alloc k3.size _
  clear hb3 ho3 k3 A0 A1 K0 HC HSP HT hsl1 h1 h2
  go_upto_region 4 with fail
  rw [← z5_arr, ← hg2]
  clear hg2
  go_wp2
  go_loopw [10] (fun i wr => ∃ k : Nat, k ≤ 5 ∧ i = .int .i64 k ∧ Hid (Blk wr g 62 z5) ∧ Hid (Blk wr (g + 1) 22 (Lib.byteCells pb)) ∧ Hid (Blk wr g2 62 (uc (M.lims G k))) ∧ Hid (Below w.heap.size w wr))
    (fun i _ => 5 - (intOf i).toNat)
  case atStart => exact ⟨0, by omega, rfl, D0, D1, D2, D3⟩
  case round =>
    clear D0 D1 D2 D3
    obtain ⟨wA, rfl⟩ : ∃ x, x = wr := ⟨_, rfl⟩
    obtain ⟨k, hk, rfl, b0, b1, b2, kk⟩ := hrel
    by_cases hlt : k < 5
    · obtain ⟨p, hp⟩ : ∃ p, p = 51 * k := ⟨_, rfl⟩
      obtain ⟨q, hq⟩ : ∃ q, q = p / 8 := ⟨_, rfl⟩
      obtain ⟨s, hs⟩ : ∃ s, s = p % 8 := ⟨_, rfl⟩
      obtain ⟨x, hx⟩ : ∃ x, x = M.gl (pb.drop q) 8 := ⟨_, rfl⟩
      obtain ⟨m, hm⟩ : ∃ m, Hid (m = M.lim G k) := ⟨_, rfl⟩
      have hq25 : q ≤ 25 := by omega
      have hs8 : s < 8 := by omega
      have hxb : x < 18446744073709551616 := by rw [hx]; exact Nat.lt_of_lt_of_eq (M.gl_lt _ 8) (by decide)
      have hmx : x / 2 ^ s % 2251799813685248 = m := by
        rw [hx, M.gl_at pb q 8 33 (by omega), HGP.out, hm.out, hq, hs, hp]
        exact M.lim_at G k hlt
      have t1 : 51 * (k : Int) = (p : Int) := by omega
      have t2 : (p : Int).tdiv 8 = (q : Int) := by rw [Int.tdiv_eq_ediv_of_nonneg (by omega)]; omega
      have t2' : (p : Int) / 8 = (q : Int) := by omega
      have t3 : (p : Int).tmod 8 = (s : Int) := by rw [Int.tmod_eq_emod_of_nonneg (by omega)]; omega
      have t3' : (p : Int) % 8 = (s : Int) := by omega
      have t4 : bits BinOp.and .u64 ((x : Int) / 2 ^ s) 2251799813685247 = (m : Int) := by
        have e : ((x : Int) / 2 ^ s) = ((x / 2 ^ s : Nat) : Int) := by rw [Int.natCast_ediv, Int.natCast_pow]; rfl
        rw [e]
        have h := n_and (x / 2 ^ s) 51 (Nat.lt_of_le_of_lt (Nat.div_le_self _ _) hxb) (by decide)
        rw [show ((2 ^ 51 - 1 : Nat) : Int) = 2251799813685247 from rfl] at h
        rw [h]
        exact congrArg _ hmx
      have hsl := slice32 (g + 1) q (q : Int) rfl (by omega)
      have hi : IsB wA (.slice (some ⟨g + 1, q, none⟩) (32 - q) (32 - q)) (pb.drop q) := blk_at b1.out HPL.out q (by omega)
      have CG : Hid (Calls Tryd.prog 58 #[.slice (some ⟨g + 1, q, none⟩) (32 - q) (32 - q)] wA fun e w' => e = .returned (.int .u64 (x : Int)) ∧ wA = w') := by rw [hx]; exact get64_any _ _ _ hi
      obtain ⟨u, hu⟩ : ∃ u, wA.cell? ⟨g2, k, none⟩ = some u := ⟨_, by rw [b2.out.cell, uc_get _ _ (by rw [M.lims_length]; exact hlt)]⟩
      have hf : wA.frozen? ⟨g2, k, none⟩ = false := b2.out.frozen k
      have HQ := Lib.hid hq25
      clear hi hx hmx hxb hq hs hp
      go_wp2_with fail
      refine CG.out.mono ?_
      rintro e w1 ⟨rfl, rfl⟩
      go_wp2
      go_roundw
      case rel =>
        refine ⟨k + 1, by omega, by go_num, blk_far b0.out (by have := HGG.out; omega) _, blk_far b1.out (by have := HGG.out; omega) _, ?_, below_set kk.out (by have := HGG.out; have := HG.out; omega) _⟩
        rw [Hid, M.lims, ← hm.out, ← uc_set]
        exact b2.out.set_ k _
      case measure => simp [intOf]; omega
    · obtain rfl : k = 5 := by omega
      obtain ⟨L, hL⟩ : ∃ L, L = uc (M.lims G 5) := ⟨_, rfl⟩
      rw [← hL] at b2 HRES
      clear hL b1
      go_wp2_with (first
        | (refine wpList_load_el rfl (.tmp 4) rfl g2 rfl L b2.out HRES.out.len ?_)
        | (refine wpList_store_el rfl rfl (.tmp 2) (.tmp 27) rfl g rfl L z5 rfl b0.out z5_len HRES.out.len HRES.out.one ?_; intro w5 hb5 ho5))
      exact bodyPost_ret (results_cell_row rfl _ _ g _ _ _ _ rfl hb5 Tryd.underlying62 rfl (by rw [List.size_toArray, HRES.out.len]; kernel_rfl)) rfl ⟨L, rfl, HRES.out, kk.out.trans (ho5.below kk.out.size (Nat.le_of_eq HG.out))⟩

end Go.Proofs.YtdojalhaklkegaaDoor

namespace Go.Proofs.YtdojalhaklkegaaDoor
open Go.RowKit

namespace M

theorem sub_self {a : Nat} (ha : a < Q) : (a + (Q - a)) % Q = 0 := by
  rw [show a + (Q - a) = Q by omega, Nat.mod_self]

end M

theorem slice32_at (g o : Nat) (w : World) :
    (Instr.sliceAt 22 (.pointer (some ⟨g, o, none⟩)) none none none).run Tryd.prog w = .ok (.slice (some ⟨g, o, none⟩) 32 32) w := by
  have hal : Tryd.prog.arrayLen 22 = 32 := by simp [Program.arrayLen, Tryd.underlying22]
  have hel : Tryd.prog.elem 22 = 5 := by simp [Program.elem, Tryd.underlying22]
  rw [run_sliceAt_array_all w 22 ⟨g, o, none⟩ (by rw [hal, hel]; exact Tryd.underlying22), hel, Tryd.sizeOf5]
  simp only [Result.andThen_ok, slicedAt, hal]
  rw [if_neg (by omega), Nat.zero_mul, Addr.add_lit, Nat.add_zero]

theorem blk_part {w : World} {g : Nat} {t : TypeId} {bs : List UInt8} (h : Blk w g t (Lib.byteCells bs)) (o : Nat) (ho : o + 32 ≤ bs.length) : IsB w (.slice (some ⟨g, o, none⟩) 32 32) ((bs.drop o).take 32) := by
  have hl : ((bs.drop o).take 32).length = 32 := by rw [List.length_take, List.length_drop]; omega
  refine ⟨_, 32, by rw [hl], by rw [hl]; exact Nat.le_refl _, by unfold maxLen; omega, .inr ⟨g, o, rfl, fun i hi => ?_⟩⟩
  rw [hl] at hi
  rw [h.cell, byteCells_getElem? _ _ (by omega)]
  simp [List.getD_eq_getElem?_getD, hi]

end Go.Proofs.YtdojalhaklkegaaDoor

namespace Go.Proofs.YtdojalhaklkegaaDoor
open Go.RowKit
set_option linter.unusedVariables false

end Go.Proofs.YtdojalhaklkegaaDoor
