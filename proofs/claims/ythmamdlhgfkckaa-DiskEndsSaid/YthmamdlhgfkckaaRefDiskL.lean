/-
  CONTRACTS OF THE REFERENCE'S Load. Conditions: what is handed in is bytes.
-/
import Derived.Test.YthmamdlhgfkckaaRefDiskN
namespace Go.Proofs.Ythmamdlhgfkckaa
open Go.RowKit
set_option linter.unusedVariables false

namespace M
/-- The first j blocks of bytes, the others 0. -/
def part (b : List UInt8) (n j : Nat) : Dsk := ⟨cut256 b j ++ List.replicate (n - j) zero256, [], 0, false⟩

theorem cut_length (b : List UInt8) (j : Nat) : (cut256 b j).length = j := by
  induction j with
  | zero => rfl
  | succ j ih => rw [cut256, List.length_append, ih]; rfl

theorem part_len (b : List UInt8) (n j : Nat) (h : j ≤ n) : (part b n j).safe.length = n := by
  rw [part]
  simp only [List.length_append, cut_length, List.length_replicate]
  omega

theorem part_zero (b : List UInt8) (n : Nat) : part b n 0 = zdsk n := rfl

theorem part_all (b : List UInt8) (n : Nat) (h : n = b.length / 256) : part b n n = dload b := by
  rw [part, dload, Nat.sub_self, ← h]
  simp

theorem part_next (b : List UInt8) (n j : Nat) (h : j < n) : ({ part b n j with safe := (part b n j).safe.set j ((b.drop (256 * j)).take 256) } : Dsk) = part b n (j + 1) := by
  obtain ⟨k, hk⟩ : ∃ k, n - j = k + 1 := ⟨n - j - 1, by omega⟩
  rw [part, part, hk, show n - (j + 1) = k by omega, List.replicate_succ, List.set_append_right _ _ (by rw [cut_length]; exact Nat.le_refl _), cut_length, Nat.sub_self, List.set_cons_zero, cut256, List.append_assoc]
  rfl
end M

theorem IsB.mid {w : World} {b off n cap : Nat} {bs : List UInt8} (h : IsB w (.slice (some ⟨b, off, none⟩) n cap) bs) (i k c : Nat) (hi : i + k ≤ bs.length) (hk : k ≤ c) (hc : c ≤ maxLen) : IsB w (.slice (some ⟨b, off + i, none⟩) k c) ((bs.drop i).take k) := by
  obtain ⟨ao, cap', e, h1, h2, h3⟩ := h
  injection e with e1 e2 e3
  subst e1
  have hl : ((bs.drop i).take k).length = k := by rw [List.length_take, List.length_drop]; omega
  refine ⟨_, c, by rw [hl], by omega, hc, ?_⟩
  rcases h3 with h | ⟨b', off', e, h⟩
  · left
    rw [h]
    simp
  · injection e with e
    injection e with e4 e5
    subst e4 e5
    refine .inr ⟨b, off + i, rfl, fun m hm => ?_⟩
    rw [hl] at hm
    rw [Nat.add_assoc, h (i + m) (by omega)]
    simp [List.getD_eq_getElem?_getD, hm]

set_option maxHeartbeats 2000000 in
theorem rload_no (bv : Value) (bs : List UInt8) (w : World) (hb : IsB w bv bs) (hno : ¬ (bs.length % 256 = 0 ∧ bs.length ≤ 557056)) :
    Calls Try.prog 11 #[bv] w fun e w' => e = .returned (.tuple #[.pointer none, .int .i64 1]) ∧ w' = w := by
  obtain ⟨ao, cap, rfl⟩ := hb.shape
  obtain ⟨l, hl⟩ : ∃ l, l = bs.length := ⟨_, rfl⟩
  rw [← hl] at hno ⊢
  obtain ⟨r, hr⟩ : ∃ r, r = l % 256 := ⟨_, rfl⟩
  have t1 : (l : Int).tmod 256 = (r : Int) := by rw [Int.tmod_eq_emod_of_nonneg (by omega)]; omega
  have t1' : (l : Int) % 256 = (r : Int) := by omega
  clear hb hl
  by_cases h1 : r = 0
  · have h2 : (557056 : Int) < (l : Int) := by omega
    subst h1
    clear hno hr
    go_enter Try.func11, Try.ntmps11
    go_wp2
    go_ret2
    exact ⟨rfl, rfl⟩
  · have h2 : ¬ (r : Int) = 0 := by omega
    have h3 : ((r : Int) != 0) = true := by simpa using h2
    have h4 : ((r : Int) == 0) = false := by simpa using h2
    clear hno hr
    go_enter Try.func11, Try.ntmps11
    go_wp2
    go_ret2
    exact ⟨rfl, rfl⟩

set_option maxRecDepth 100000 in
set_option maxHeartbeats 8000000 in
theorem rload_ok (bv : Value) (bs : List UInt8) (w : World) (hb : IsB w bv bs) (h256 : bs.length % 256 = 0) (hmax : bs.length ≤ 557056) :
    Calls Try.prog 11 #[bv] w fun e w' => ∃ g sv rows T, e = .returned (.tuple #[.pointer (some ⟨g, 0, none⟩), .int .i64 0]) ∧ RefAt T w' g sv (.slice none 0 0) rows [] (M.dload bs) ∧ (∀ k, T k → w.heap.size ≤ k) ∧ Below w.heap.size w w' := by
  have HB := Lib.hid hb
  obtain ⟨ao, cap, rfl⟩ := hb.shape
  obtain ⟨l, hl⟩ : ∃ l, l = bs.length := ⟨_, rfl⟩
  obtain ⟨n, hn⟩ : ∃ n, n = l / 256 := ⟨_, rfl⟩
  have hl2 : l = 256 * n := by omega
  have HL : Hid (bs.length = 256 * n) := by rw [Hid, ← hl, hl2]
  rw [← hl] at HB h256 hmax ⊢
  have t1 : (l : Int).tmod 256 = 0 := by rw [Int.tmod_eq_emod_of_nonneg (by omega)]; omega
  have t1' : (l : Int) % 256 = 0 := by omega
  have t2 : (l : Int).tdiv 256 = (n : Int) := by rw [Int.tdiv_eq_ediv_of_nonneg (by omega)]; omega
  have t2' : (l : Int) / 256 = (n : Int) := by omega
  have t3 : ¬ (557056 : Int) < (l : Int) := by omega
  have HF : Hid (n ≤ 2176) := by rw [Hid]; omega
  have HD : Hid (M.part bs n n = M.dload bs) := M.part_all bs n (by rw [hn, hl])
  have CN := Lib.hid (rnew_any (n : Int) (by omega) w)
  have t4 : wrap64 (n : Int) = (n : Int) := by unfold wrap64; omega
  clear hb hl hn hl2 h256 hmax
  go_enter Try.func11, Try.ntmps11
  go_wp2_with fail
  refine CN.out.mono ?_
  rintro e w1 ⟨g, sv, rows, T, rfl, r1, tt1, k1⟩
  have R1 : Hid (RefAt T w1 g sv (.slice none 0 0) rows [] (M.part bs n 0)) := by
    rw [M.part_zero]
    rwa [M.dnew, Int.toNat_natCast, Nat.min_eq_left HF.out] at r1
  have TT1 := Lib.hid tt1
  have K1 := Lib.hid k1
  clear r1 tt1 k1 CN t1 t1' t2 t2' t3 t4
  go_wp2
  go_loopw [5] (fun i wr => ∃ (j : Nat) (sv : Value) (rows : List Value) (T : Nat → Prop), j ≤ n ∧ i = .int .i64 (j : Int) ∧ Hid (RefAt T wr g sv (.slice none 0 0) rows [] (M.part bs n j)) ∧ Hid (∀ k, T k → w.heap.size ≤ k) ∧ Hid (Below w.heap.size w wr))
    (fun i _ => n - (intOf i).toNat)
  case atStart => exact ⟨0, sv, rows, T, by omega, rfl, R1, TT1, K1⟩
  case round =>
    clear R1 TT1 K1
    obtain ⟨wz, rfl⟩ : ∃ x, x = wr := ⟨_, rfl⟩
    obtain ⟨j, sv, rows, T, hj, rfl, rr, tt, kk⟩ := hrel
    obtain ⟨sa, sc, es⟩ := ownShape rr.out.srow
    rw [M.part_len _ _ _ hj] at es
    subst es
    have c0 : wz.cell? ⟨g, 0, none⟩ = some (.slice sa n sc) := rr.out.blk.cell 0
    by_cases hlt : j < n
    · have b1 : (j : Int) < (n : Int) := by omega
      obtain ⟨ao', cap', e, hc1, hc2, hat⟩ := HB.out
      injection e with e1 e2 e3
      subst e1 e3
      rw [← e2] at hc1
      have hl2 : l = 256 * n := by rw [e2, HL.out]
      obtain ⟨bb, bo, rfl⟩ : ∃ b off, ao = some ⟨b, off, none⟩ := by
        rcases hat with h | ⟨b, off, e, _⟩
        · rw [h] at e2; simp at e2; omega
        · exact ⟨b, off, e⟩
      obtain ⟨a, ha⟩ : ∃ a, a = 256 * j := ⟨_, rfl⟩
      obtain ⟨z, hz⟩ : ∃ z, z = a + 256 := ⟨_, rfl⟩
      have hzl : z ≤ l := by omega
      obtain ⟨cr, hcr⟩ : ∃ c, c = cap - a := ⟨_, rfl⟩
      have h1 : (0 : Int) ≤ (a : Int) := by omega
      have h2 : (a : Int) ≤ (z : Int) := by omega
      have h3 : (z : Int) ≤ (cap : Int) := by omega
      have h4 : ((a : Int)).toNat = a := by omega
      have h5 : ((z : Int)).toNat = z := by omega
      have h6 : z - a = 256 := by omega
      have h7 : (z : Int) - (a : Int) = 256 := by omega
      have hcm : cap ≤ maxLen := hc2
      have hle : Hid (a + 256 ≤ bs.length ∧ 256 ≤ cr ∧ cr ≤ maxLen) := ⟨by rw [← e2]; omega, by omega, by omega⟩
      have h8 : cap - a = cr := hcr.symm
      have HA := Lib.hid ha
      have HLT := Lib.hid hlt
      have n1 : wrap64 (256 * (j : Int)) = (a : Int) := by have := HF.out; unfold wrap64; omega
      have n2 : wrap64 ((a : Int) + 256) = (z : Int) := by have := HF.out; clear n1; unfold wrap64; omega
      have h9 : ¬ cap = a := by clear n1 n2; omega
      have n1' : IntKind.i64.wrap (256 * (j : Int)) = (a : Int) := by clear n1 n2; rw [IntWalk.i64_in _ (by have := HF.out; omega)]; omega
      have n2' : IntKind.i64.wrap ((a : Int) + 256) = (z : Int) := by clear n1 n2 n1'; rw [IntWalk.i64_in _ (by have := HF.out; omega)]; omega
      clear e2 hc1 hc2 hat hl2 hzl hcr hcm ha hz hlt hj
      go_upto_region 7 with fail
      refine region_T (fun w' => w'.cell? ⟨g, 0, none⟩ = some (.slice sa n sc)) [14, 15] (by kernel_rfl) ?_
      have S0 : wz.drew.cell? ⟨g, 0, none⟩ = some (.slice sa n sc) := c0
      refine anyT_take_at (i := 0) (v := .pointer (some ⟨g, 0, none⟩)) rfl rfl (by kernel_rfl) (by kernel_rfl) (by kernel_rfl) (by kernel_rfl) (fun _ _ _ h => h) (Or.inl ⟨by rfl, fun w hS => by have c : w.cell? ⟨g, 0, none⟩ = some (.slice sa n sc) := hS; go_simp⟩) S0 ?_
      simp only [List.setIfInBounds_toArray, List.set_cons_zero, List.set_cons_succ]
      refine anyT_take_at (i := 1) (v := .pointer (some ⟨g, 0, none⟩)) rfl rfl (by kernel_rfl) (by kernel_rfl) (by kernel_rfl) (by kernel_rfl) (fun _ _ _ h => h) (Or.inl ⟨by rfl, fun w hS => by have c : w.cell? ⟨g, 0, none⟩ = some (.slice sa n sc) := hS; go_simp⟩) S0 ?_
      simp only [List.setIfInBounds_toArray, List.set_cons_zero, List.set_cons_succ]
      refine anyT_take_at (i := 2) (v := .pointer (some ⟨g, 0, none⟩)) rfl rfl (by kernel_rfl) (by kernel_rfl) (by kernel_rfl) (by kernel_rfl) (fun _ _ _ h => h) (Or.inl ⟨by rfl, fun w hS => by have c : w.cell? ⟨g, 0, none⟩ = some (.slice sa n sc) := hS; go_simp⟩) S0 ?_
      simp only [List.setIfInBounds_toArray, List.set_cons_zero, List.set_cons_succ]
      refine anyT_take_at (i := 3) (v := .slice sa n sc) rfl rfl (by kernel_rfl) (by kernel_rfl) (by kernel_rfl) (by kernel_rfl) (fun _ _ _ h => h) (Or.inl ⟨by rfl, fun w hS => by have c : w.cell? ⟨g, 0, none⟩ = some (.slice sa n sc) := hS; go_simp⟩) S0 ?_
      simp only [List.setIfInBounds_toArray, List.set_cons_zero, List.set_cons_succ]
      refine anyT_take_at (i := 4) (v := .int .i64 (j : Int)) rfl rfl (by kernel_rfl) (by kernel_rfl) (by kernel_rfl) (by kernel_rfl) (fun _ _ _ h => h) (Or.inl ⟨by rfl, fun w hS => by have c : w.cell? ⟨g, 0, none⟩ = some (.slice sa n sc) := hS; go_simp⟩) S0 ?_
      simp only [List.setIfInBounds_toArray, List.set_cons_zero, List.set_cons_succ]
      refine anyT_take_at (i := 6) (v := .slice (some ⟨bb, bo, none⟩) l cap) rfl rfl (by kernel_rfl) (by kernel_rfl) (by kernel_rfl) (by kernel_rfl) (fun _ _ _ h => h) (Or.inl ⟨by rfl, fun w hS => by have c : w.cell? ⟨g, 0, none⟩ = some (.slice sa n sc) := hS; go_simp⟩) S0 ?_
      simp only [List.setIfInBounds_toArray, List.set_cons_zero, List.set_cons_succ]
      refine anyT_take_at (i := 7) (v := .int .i64 (j : Int)) rfl rfl (by kernel_rfl) (by kernel_rfl) (by kernel_rfl) (by kernel_rfl) (fun _ _ _ h => h) (Or.inl ⟨by rfl, fun w hS => by have c : w.cell? ⟨g, 0, none⟩ = some (.slice sa n sc) := hS; go_simp⟩) S0 ?_
      simp only [List.setIfInBounds_toArray, List.set_cons_zero, List.set_cons_succ]
      refine anyT_take_at (i := 8) (v := .int .i64 (a : Int)) rfl rfl (by kernel_rfl) (by kernel_rfl) (by kernel_rfl) (by kernel_rfl) (fun _ _ _ h => h) (Or.inl ⟨by rfl, fun w hS => by have c : w.cell? ⟨g, 0, none⟩ = some (.slice sa n sc) := hS; go_simp⟩) S0 ?_
      simp only [List.setIfInBounds_toArray, List.set_cons_zero, List.set_cons_succ]
      refine anyT_take_at (i := 9) (v := .int .i64 (j : Int)) rfl rfl (by kernel_rfl) (by kernel_rfl) (by kernel_rfl) (by kernel_rfl) (fun _ _ _ h => h) (Or.inl ⟨by rfl, fun w hS => by have c : w.cell? ⟨g, 0, none⟩ = some (.slice sa n sc) := hS; go_simp⟩) S0 ?_
      simp only [List.setIfInBounds_toArray, List.set_cons_zero, List.set_cons_succ]
      refine anyT_take_at (i := 10) (v := .int .i64 (a : Int)) rfl rfl (by kernel_rfl) (by kernel_rfl) (by kernel_rfl) (by kernel_rfl) (fun _ _ _ h => h) (Or.inl ⟨by rfl, fun w hS => by have c : w.cell? ⟨g, 0, none⟩ = some (.slice sa n sc) := hS; go_simp⟩) S0 ?_
      simp only [List.setIfInBounds_toArray, List.set_cons_zero, List.set_cons_succ]
      refine anyT_take_at (i := 11) (v := .int .i64 (z : Int)) rfl rfl (by kernel_rfl) (by kernel_rfl) (by kernel_rfl) (by kernel_rfl) (fun _ _ _ h => h) (Or.inl ⟨by rfl, fun w hS => by have c : w.cell? ⟨g, 0, none⟩ = some (.slice sa n sc) := hS; go_simp⟩) S0 ?_
      simp only [List.setIfInBounds_toArray, List.set_cons_zero, List.set_cons_succ]
      refine anyT_take_at (i := 12) (v := .slice (some ⟨bb, bo + a, none⟩) 256 cr) rfl rfl (by kernel_rfl) (by kernel_rfl) (by kernel_rfl) (by kernel_rfl) (fun _ _ _ h => h) (Or.inl ⟨by rfl, fun w hS => by have c : w.cell? ⟨g, 0, none⟩ = some (.slice sa n sc) := hS; go_simp⟩) S0 ?_
      simp only [List.setIfInBounds_toArray, List.set_cons_zero, List.set_cons_succ]
      clear n1 n2 n1' n2'
      refine anyT_ready (rs := [5]) (by kernel_rfl) (by simp) ?_
      refine ReadyT.cons rfl (fun K hK => ?_) ReadyT.nil
      go_simp
      obtain ⟨w1, hw1⟩ : ∃ x, x = (wz.alloc (.cells #[] 5)).drew := ⟨_, rfl⟩
      rw [← hw1]
      have k1 : Below wz.heap.size wz w1 := by rw [hw1]; exact drewN_below ((Below.refl _ wz).alloc (Nat.le_refl _) _) 1
      have o1 : Own w1 wz.heap.size (.slice (some ⟨wz.heap.size, 0, none⟩) 0 0) [] := by rw [hw1]; exact own_empty wz
      have blk := rr.out.blk
      have gl := blk.lt
      obtain ⟨y, hy⟩ : ∃ y, y = (bs.drop a).take 256 := ⟨_, rfl⟩
      have hyl : y.length = 256 := by rw [hy, List.length_take, List.length_drop]; have := hle.out.1; omega
      have iy : IsB w1 (.slice (some ⟨bb, bo + a, none⟩) 256 cr) y := by
        rw [hy]
        exact (((HB.out.below kk.out).below k1).mid a 256 cr hle.out.1 hle.out.2.1 hle.out.2.2)
      refine hK.out _ _ (.inr ((blk.below k1 gl).cell 0)) ?_
      clear hK K hw1
      refine anyT_ready (rs := [13]) (by kernel_rfl) (by simp) ?_
      refine ReadyT.cons rfl (fun K hK => ?_) ReadyT.nil
      refine step_clone rfl (.tmp 33) (.tmp 40) rfl wz.heap.size _ rfl o1 _ y rfl iy (by intro e; rw [e] at hyl; cases hyl) (by omega) k1.size ?_
      intro dv w2 od k2
      have kw2 : Below wz.heap.size wz w2 := k1.trans k2
      obtain ⟨da, dc, rfl⟩ := ownShape od
      rw [hyl] at od ⊢
      refine hK.out _ _ (.inr ((blk.below kw2 gl).cell 0)) ?_
      clear hK K
      have lj := HLT.out
      have psl : (M.part bs n j).safe.length = n := M.part_len _ _ _ (Nat.le_of_lt lj)
      obtain ⟨sb, rfl, hsc, cs, fs⟩ := ownCells (by have := rr.out.srow; rwa [psl] at this) (by omega)
      have hrl : rows.length = n := by rw [rr.out.rlen, psl]
      have s0 : wz.cell? ⟨sb, j, none⟩ = some (rows.getD j undef) := by rw [cs _ (by omega), List.getD_eq_getElem?_getD, List.getElem?_eq_getElem (by omega)]; rfl
      have sbl : sb < wz.heap.size := World.block_lt_of_cell? wz _ s0
      have b3 : (0 : Int) ≤ (j : Int) := by omega
      have b4 : ((j : Int)).toNat = j := by omega
      refine anyT_free_at (i := 14) (v := .pointer (some ⟨sb, j, none⟩)) rfl rfl (by kernel_rfl) (by kernel_rfl) (by kernel_rfl) (by kernel_rfl) (fun _ _ _ h => h) (Or.inl ⟨by rfl, fun w _ => by go_simp⟩) ?_
      simp only [List.setIfInBounds_toArray, List.set_cons_zero, List.set_cons_succ]
      refine anyT_ready (rs := [15]) (by kernel_rfl) (by simp) ?_
      refine ReadyT.cons rfl (fun K hK => ?_) ReadyT.nil
      have s2 : w2.cell? ⟨sb, j, none⟩ = some (rows.getD j undef) := by rw [World.cell?_of_block (kw2.block sb sbl), s0]
      have R2 := (rr.out.chg (F := fun b => wz.heap.size ≤ b) (Chg.of_below kw2) fun b hb => by have := rr.out.there b hb; omega).wider (T' := Grown T wz w2) (fun k hk => ⟨.inl hk, Nat.lt_of_lt_of_le (rr.out.there k hk) kw2.size⟩) (fun k hk => hk.2)
      have ow := R2.srow
      rw [psl] at ow
      obtain ⟨_, e9, _, _, fs2⟩ := ownCells ow (by omega)
      injection e9 with e9
      injection e9 with e9
      subst e9
      have f2 := fs2 j
      go_simp
      obtain ⟨dv, hdv⟩ : ∃ x, x = Value.slice da 256 dc := ⟨_, rfl⟩
      rw [← hdv] at od ⊢
      have st := (ow.stored j dv).1
      have ks : Chg (fun k => (Value.slice (some ⟨sb, 0, none⟩) n sc).ownBlock = some k) w2 (w2.setCell ⟨sb, j, none⟩ dv) := (Chg.refl _ w2).setCell _ _ (.inl rfl)
      have lx : Lies (RefS (Grown T wz w2) g (.slice (some ⟨sb, 0, none⟩) n sc) (.slice none 0 0)) dv := Own.lies od fun k h1 h2 => ⟨⟨.inr h1, h2⟩, by omega, fun e => by injection e with e; simp only at e; omega, fun e => by cases e⟩
      have RL := R2.lay (b := j) (by rw [psl]; exact lj) od.isB hyl lx ks (by rw [psl]; exact st)
      rw [hy, HA.out, M.part_next bs n j lj] at RL
      have R6 := Lib.hid RL
      have T6 : Hid (∀ k, Grown T wz w2 k → w.heap.size ≤ k) := fun k h => by
        rcases h.1 with h | h
        · exact tt.out k h
        · exact Nat.le_trans kk.out.size h
      have K6 : Hid (Below w.heap.size w (w2.setCell ⟨sb, j, none⟩ dv)) := (kk.out.trans (kw2.mono kk.out.size)).setCell (tt.out sb (rr.out.ts sb rfl).1) _
      refine hK.out _ _ (.inl (by simp)) ?_
      clear hK K
      refine anyT_done (by kernel_rfl) ?_ _
      have n3 : wrap64 ((j : Int) + 1) = ((j + 1 : Nat) : Int) := by have := HF.out; unfold wrap64; omega
      have N3 := Lib.hid n3
      clear n3 h1 h2 h3 h4 h5 h6 h7 h8 h9 k1 o1 blk gl hy hyl iy kw2 psl hsc cs fs hrl s0 sbl s2 R2 ow fs2 f2 od hdv st ks lx RL rr tt kk c0 S0 b1 b3 b4 k2
      have n3 := N3.out
      go_wp2
      go_roundw
      case rel => clear n3; exact ⟨j + 1, _, _, _, lj, by rw [N3.out], R6, T6, K6⟩
      case measure => clear n3; rw [N3.out]; simp only [intOf, Int.toNat_natCast]; omega
    · obtain rfl : j = n := by omega
      rw [HD.out] at rr
      clear hlt hj
      go_wp2
      go_ret2
      exact ⟨g, _, rows, T, rfl, rr.out, tt.out, kk.out⟩

end Go.Proofs.Ythmamdlhgfkckaa
