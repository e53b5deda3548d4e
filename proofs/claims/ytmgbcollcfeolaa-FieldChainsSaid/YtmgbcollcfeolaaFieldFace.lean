/-
  WHAT PACKAGE field OWES, AS ONE PREMISE (FieldOk), AND WHAT FOLLOWS: orloplaw07.same and awake. Conditions: FieldOk (proved of the code elsewhere).
-/
import Derived.Test.YtmgbcollcfeolaaRefInv
import Derived.Test.YtmgbcollcfeolaaWordC
import Derived.Test.YtmgbcollcfeolaaApart
import Derived.Test.YtmgbcollcfeolaaFieldB
namespace Go.Proofs.Ytmgbcollcfeolaa
open Go.RowKit
set_option linter.unusedVariables false

/-- Fe L n: the cells L are an element's, the number n. -/
structure FieldOk (Fe : List Value → Nat → Prop) : Prop where
  len : ∀ {L n}, Fe L n → L.length = 5
  one : ∀ {L n}, Fe L n → ∀ u ∈ L, u.oneCell' = true
  lt : ∀ {L n}, Fe L n → n < M.Q
  from_ : ∀ (v : Value) (bs : List UInt8) (w : World), IsB w v bs → Calls Try.prog 10 #[v] w (GivesE Fe w (M.told bs % M.Q))
  bytes_ : ∀ (L : List Value) (n : Nat) (w : World), Fe L n → Calls Try.prog 13 #[.agg L.toArray] w (Makes w (M.le n 32))
  add_ : ∀ (K L : List Value) (m n : Nat) (w : World), Fe K m → Fe L n → Calls Try.prog 14 #[.agg K.toArray, .agg L.toArray] w (GivesE Fe w ((m + n) % M.Q))
  sub_ : ∀ (K L : List Value) (m n : Nat) (w : World), Fe K m → Fe L n → Calls Try.prog 16 #[.agg K.toArray, .agg L.toArray] w (GivesE Fe w ((m + (M.Q - n)) % M.Q))
  mul_ : ∀ (K L : List Value) (m n : Nat) (w : World), Fe K m → Fe L n → Calls Try.prog 18 #[.agg K.toArray, .agg L.toArray] w (GivesE Fe w (m * n % M.Q))
  square_ : ∀ (K : List Value) (m : Nat) (w : World), Fe K m → Calls Try.prog 20 #[.agg K.toArray] w (GivesE Fe w (m * m % M.Q))
  times_ : ∀ (K : List Value) (m n : Nat) (w : World), Fe K m → n < 4294967296 → Calls Try.prog 21 #[.agg K.toArray, .int .u32 (n : Int)] w (GivesE Fe w (m * n % M.Q))
  invert_ : ∀ (K : List Value) (m : Nat) (w : World), Fe K m → Calls Try.prog 24 #[.agg K.toArray] w (GivesE Fe w (m ^ (M.Q - 2) % M.Q))
  swap_ : ∀ (b : Nat) (K L : List Value) (m n : Nat) (w : World), b < 18446744073709551616 → Fe K m → Fe L n → Calls Try.prog 23 #[.int .u64 (b : Int), .agg K.toArray, .agg L.toArray] w (GivesEE Fe w (if b % 2 = 1 then n else m) (if b % 2 = 1 then m else n))

/-! The same, each result's number under a name. -/

variable {Fe : List Value → Nat → Prop} (F : FieldOk Fe)
include F

theorem FieldOk.add_at {K L : List Value} {m n r : Nat} (w : World) (hK : Hid (Fe K m)) (hL : Hid (Fe L n)) (hr : Hid ((m + n) % M.Q = r)) : Calls Try.prog 14 #[.agg K.toArray, .agg L.toArray] w (GivesE Fe w r) := by
  rw [← hr.out]; exact F.add_ K L m n w hK.out hL.out

theorem FieldOk.sub_at {K L : List Value} {m n r : Nat} (w : World) (hK : Hid (Fe K m)) (hL : Hid (Fe L n)) (hr : Hid ((m + (M.Q - n)) % M.Q = r)) : Calls Try.prog 16 #[.agg K.toArray, .agg L.toArray] w (GivesE Fe w r) := by
  rw [← hr.out]; exact F.sub_ K L m n w hK.out hL.out

theorem FieldOk.mul_at {K L : List Value} {m n r : Nat} (w : World) (hK : Hid (Fe K m)) (hL : Hid (Fe L n)) (hr : Hid (m * n % M.Q = r)) : Calls Try.prog 18 #[.agg K.toArray, .agg L.toArray] w (GivesE Fe w r) := by
  rw [← hr.out]; exact F.mul_ K L m n w hK.out hL.out

theorem FieldOk.square_at {K : List Value} {m r : Nat} (w : World) (hK : Hid (Fe K m)) (hr : Hid (m * m % M.Q = r)) : Calls Try.prog 20 #[.agg K.toArray] w (GivesE Fe w r) := by
  rw [← hr.out]; exact F.square_ K m w hK.out

theorem FieldOk.times_at {K : List Value} {m n r : Nat} (w : World) (hK : Hid (Fe K m)) (hn : Hid (n < 4294967296)) (hr : Hid (m * n % M.Q = r)) : Calls Try.prog 21 #[.agg K.toArray, .int .u32 (n : Int)] w (GivesE Fe w r) := by
  rw [← hr.out]; exact F.times_ K m n w hK.out hn.out

theorem FieldOk.invert_at {K : List Value} {m r : Nat} (w : World) (hK : Hid (Fe K m)) (hr : Hid (m ^ (M.Q - 2) % M.Q = r)) : Calls Try.prog 24 #[.agg K.toArray] w (GivesE Fe w r) := by
  rw [← hr.out]; exact F.invert_ K m w hK.out

theorem FieldOk.bytes_at {K : List Value} {m : Nat} {bs : List UInt8} (w : World) (hK : Hid (Fe K m)) (hr : Hid (M.le m 32 = bs)) : Calls Try.prog 13 #[.agg K.toArray] w (Makes w bs) := by
  rw [← hr.out]; exact F.bytes_ K m w hK.out

theorem FieldOk.from_at {v : Value} {bs : List UInt8} {r : Nat} (w : World) (hi : IsB w v bs) (hr : Hid (M.told bs % M.Q = r)) : Calls Try.prog 10 #[v] w (GivesE Fe w r) := by
  rw [← hr.out]; exact F.from_ v bs w hi

omit F

theorem radd_at {K L : List Value} {m n r : Nat} (w : World) (hK : Hid (IsN K m)) (hL : Hid (IsN L n)) (hr : Hid ((m + n) % M.Q = r)) : Calls Try.prog 15 #[.agg K.toArray, .agg L.toArray] w (GivesN w r) := by
  rw [← hr.out]; exact radd_n w hK.out hL.out

theorem rsub_at {K L : List Value} {m n r : Nat} (w : World) (hK : Hid (IsN K m)) (hL : Hid (IsN L n)) (hn : Hid (n < M.Q)) (hr : Hid ((m + (M.Q - n)) % M.Q = r)) : Calls Try.prog 17 #[.agg K.toArray, .agg L.toArray] w (GivesN w r) := by
  rw [← hr.out]; exact rsub_n w hK.out hL.out (Nat.le_of_lt hn.out)

theorem rmul_at {K L : List Value} {m n r : Nat} (w : World) (hK : Hid (IsN K m)) (hL : Hid (IsN L n)) (hr : Hid (m * n % M.Q = r)) : Calls Try.prog 19 #[.agg K.toArray, .agg L.toArray] w (GivesN w r) := by
  rw [← hr.out]; exact rmul_n w hK.out hL.out

theorem rinvert_at {K : List Value} {m r : Nat} (w : World) (hK : Hid (IsN K m)) (hr : Hid (m ^ (M.Q - 2) % M.Q = r)) : Calls Try.prog 25 #[.agg K.toArray] w (GivesN w r) := by
  rw [← hr.out]; exact rinvert_n w hK.out

theorem rfrom_at {v : Value} {bs : List UInt8} {r : Nat} (w : World) (hi : IsB w v bs) (hr : Hid (M.told bs % M.Q = r)) : Calls Try.prog 12 #[v] w (GivesN w r) := by
  rw [← hr.out]; exact rfrom_n v bs w hi

theorem rsmall_at {n : Nat} (w : World) (hn : Hid (n < 4294967296)) : Calls Try.prog 22 #[.int .u32 (n : Int)] w (GivesN w n) := small_n n w hn.out

theorem equal_at {v1 v2 : Value} {bs : List UInt8} (w : World) (h1 : IsB w v1 bs) (h2 : IsB w v2 bs) : Calls Try.prog 26 #[v1, v2] w fun e w' => e = .returned (.bool true) ∧ Below w.heap.size w w' :=
  (requal_b v1 v2 bs bs w h1 h2).mono fun e w' h => ⟨by rw [h.1, decide_eq_true rfl], h.2⟩

set_option maxRecDepth 100000 in
set_option maxHeartbeats 4000000 in
/-- An element has its number's bytes. -/
theorem same_yes {Fe : List Value → Nat → Prop} (F : FieldOk Fe) (L K : List Value) (n : Nat) (w : World) (hL : Fe L n) (hK : IsN K n) : Calls Try.prog 11 #[.agg L.toArray, .agg K.toArray] w fun e w' => e = .returned (.bool true) ∧ Below w.heap.size w w' := by
  have HL : Hid (L.length = 5) := F.len hL
  have HK := Lib.hid hK
  have CB := Lib.hid (fun w => F.bytes_ L n w hL)
  have CN := Lib.hid (fun w => rbytes_n K n w hK)
  obtain ⟨bs, hbs⟩ : ∃ bs, Hid (bs = M.le n 32) := ⟨_, rfl⟩
  rw [← hbs.out] at CB CN
  obtain ⟨W, hW⟩ : ∃ W, Hid (W = (w.alloc (.cells L.toArray 27)).alloc (.cells K.toArray 31)) := ⟨_, rfl⟩
  obtain ⟨g, hg⟩ : ∃ g, g = w.heap.size := ⟨_, rfl⟩
  have B0 : Hid (Blk W g 27 L) := by rw [hW.out, hg]; exact (Blk.newAt _ _ _ _ _ rfl rfl).alloc _
  have B1 : Hid (Blk W (g + 1) 31 K) := by rw [hW.out, hg]; exact Blk.newAt _ _ _ _ _ (by simp) rfl
  have KK : Hid (Below w.heap.size w W) := by rw [hW.out]; exact ((Below.refl _ _).alloc (Nat.le_refl _) _).alloc (by simp) _
  clear hL hK hbs F
  go_enter Try.func11, Try.ntmps11
  go_upto_region 1 with fail
  rw [← hW.out, ← hg]
  clear hW hg
  refine wp_region_any (by kernel_rfl) ?_
  change wpAny _ _ _ _ _ _ _ (World.drew _)
  refine wpAny_of_held (S := fun w' => w'.rangeAt g 0 L ∧ w'.rangeAt (g + 1) 0 K) _ _ _ _ ?_
  have S0 : W.drew.rangeAt g 0 L ∧ W.drew.rangeAt (g + 1) 0 K := ⟨B0.out.drew.range 0 _ [] (by simp), B1.out.drew.range 0 _ [] (by simp)⟩
  refine wpAnyH_take_at (i := 0) (v := .agg L.toArray) rfl rfl (by kernel_rfl) (by kernel_rfl) (by kernel_rfl) (fun _ _ _ h => h) (yieldsIf_load_mid (by rfl) 27 (.tmp 2) rfl g 0 rfl L _ (fun w h => h.1) Try.underlying27 rfl (by rw [HL.out]; kernel_rfl)) S0 ?_
  simp only [List.setIfInBounds_toArray, List.set_cons_zero, List.set_cons_succ]
  refine wpAnyH_take_at (i := 2) (v := .agg K.toArray) rfl rfl (by kernel_rfl) (by kernel_rfl) (by kernel_rfl) (fun _ _ _ h => h) (yieldsIf_load_mid (by rfl) 31 (.tmp 3) rfl (g + 1) 0 rfl K _ (fun w h => h.2) Try.underlying31 rfl (by rw [HK.out.len]; kernel_rfl)) S0 ?_
  simp only [List.setIfInBounds_toArray, List.set_cons_zero, List.set_cons_succ]
  refine wpAnyH_ready (rs := [1]) (by kernel_rfl) (by simp) ?_
  refine AllReadyH.cons rfl (fun KC hK => ?_) AllReadyH.nil
  go_simp
  refine (CB.out W.drew).mono ?_
  rintro e w1 ⟨r1, rfl, o1, k1⟩
  have K1 : Hid (Below W.heap.size W w1) := (below_draws W 1).trans k1
  have I1 := Lib.hid o1.isB
  refine hK.out _ _ ⟨(B0.out.below K1.out B0.out.lt).range 0 _ [] (by simp), (B1.out.below K1.out B1.out.lt).range 0 _ [] (by simp)⟩ (fun _ => ?_)
  clear hK KC
  refine wpAnyH_ready (rs := [3]) (by kernel_rfl) (by simp) ?_
  refine AllReadyH.cons rfl (fun KC hK => ?_) AllReadyH.nil
  go_simp
  refine (CN.out w1).mono ?_
  rintro e w2 ⟨r2, rfl, o2, k2⟩
  have K2 : Hid (Below W.heap.size W w2) := K1.out.trans (k2.mono K1.out.size)
  have I2 := Lib.hid o2.isB
  have I12 := Lib.hid (I1.out.below k2)
  refine hK.out _ _ ⟨(B0.out.below K2.out B0.out.lt).range 0 _ [] (by simp), (B1.out.below K2.out B1.out.lt).range 0 _ [] (by simp)⟩ (fun _ => ?_)
  clear hK KC
  refine wpAnyH_ready (rs := [4]) (by kernel_rfl) (by simp) ?_
  refine AllReadyH.cons rfl (fun KC hK => ?_) AllReadyH.nil
  go_simp
  refine (requal_b r1 r2 bs bs w2 I12.out I2.out).mono ?_
  rintro e w3 ⟨rfl, k3⟩
  have K3 : Hid (Below W.heap.size W w3) := K2.out.trans (k3.mono K2.out.size)
  refine hK.out _ _ ⟨(B0.out.below K3.out B0.out.lt).range 0 _ [] (by simp), (B1.out.below K3.out B1.out.lt).range 0 _ [] (by simp)⟩ (fun _ => ?_)
  clear hK KC
  have S3 : w3.rangeAt g 0 L ∧ w3.rangeAt (g + 1) 0 K := ⟨(B0.out.below K3.out B0.out.lt).range 0 _ [] (by simp), (B1.out.below K3.out B1.out.lt).range 0 _ [] (by simp)⟩
  rw [decide_eq_true (rfl : bs = bs)]
  refine wpAnyH_take_at (i := 5) (v := .bool true) rfl rfl (by kernel_rfl) (by kernel_rfl) (by kernel_rfl) (fun _ _ _ h => h) (Or.inl ⟨by rfl, fun w hS => by go_simp⟩) S3 ?_
  simp only [List.setIfInBounds_toArray, List.set_cons_zero, List.set_cons_succ]
  refine wpAnyH_done (by kernel_rfl) ?_ _
  have KE : Hid (Below w.heap.size w w3) := KK.out.trans (K3.out.mono KK.out.size)
  go_wp2
  go_ret
  exact ⟨rfl, KE.out⟩

namespace M
theorem told_ff : told (List.replicate 32 255) % Q = 18 := by decide +kernel
theorem told_2 : told [2] % Q = 2 := by decide +kernel
theorem told_3 : told [3] % Q = 3 := by decide +kernel
theorem six_mod : 2 * 3 % Q = 6 := by decide +kernel
theorem le_18 : (le 18 32).take 2 = [18, 0] := by decide +kernel
theorem le_6 : (le 6 32).take 1 = [6] := by decide +kernel
end M

theorem getD_take7 (l : List UInt8) (n i : Nat) (ys : List UInt8) (h : l.take n = ys) (hi : i < n) : l.getD i 0 = ys.getD i 0 := by
  rw [← h]
  simp [List.getD_eq_getElem?_getD, hi]

def ffs (k : Nat) : List UInt8 := List.replicate k 255 ++ List.replicate (32 - k) 0

theorem ffs_length (k : Nat) (h : k ≤ 32) : (ffs k).length = 32 := by rw [ffs, List.length_append, List.length_replicate, List.length_replicate]; omega

theorem ffs_set (k : Nat) (h : k < 32) : (Lib.byteCells (ffs k)).set k (.int .u8 255) = Lib.byteCells (ffs (k + 1)) := by
  obtain ⟨m, hm⟩ : ∃ m, 32 - k = m + 1 := ⟨31 - k, by omega⟩
  rw [ffs, ffs, hm, show 32 - (k + 1) = m by omega, byteCells_append, List.set_append_right _ _ (by rw [byteCells_length]; simp), byteCells_length, List.length_replicate, Nat.sub_self, List.replicate_succ (n := m),
    List.replicate_succ' (n := k), byteCells_append, byteCells_append, List.append_assoc]
  rfl

set_option maxHeartbeats 2000000 in
theorem fieldAwake_any {Fe : List Value → Nat → Prop} (F : FieldOk Fe) (w : World) : Calls Try.prog 9 #[] w fun e w' => e = .returned (.bool true) ∧ Below w.heap.size w w' := by
  have CF := Lib.hid (show ∀ W v, IsB W v (List.replicate 32 255) → Calls Try.prog 10 #[v] W (GivesE Fe W 18) from fun W v h => by have := F.from_ v _ W h; rwa [M.told_ff] at this)
  have C2 := Lib.hid (show ∀ W v, IsB W v [2] → Calls Try.prog 10 #[v] W (GivesE Fe W 2) from fun W v h => by have := F.from_ v _ W h; rwa [M.told_2] at this)
  have C3 := Lib.hid (show ∀ W v, IsB W v [3] → Calls Try.prog 10 #[v] W (GivesE Fe W 3) from fun W v h => by have := F.from_ v _ W h; rwa [M.told_3] at this)
  have CM := Lib.hid (show ∀ W K L, Fe K 2 → Fe L 3 → Calls Try.prog 18 #[.agg K.toArray, .agg L.toArray] W (GivesE Fe W 6) from fun W K L h1 h2 => by have := F.mul_ K L 2 3 W h1 h2; rwa [M.six_mod] at this)
  obtain ⟨x, hx⟩ : ∃ x, Hid (x = M.le 18 32) := ⟨_, rfl⟩
  obtain ⟨y, hy⟩ : ∃ y, Hid (y = M.le 6 32) := ⟨_, rfl⟩
  have HX0 : Hid (x.getD 0 0 = 18) := by rw [Hid, hx.out, getD_take7 _ 2 0 _ M.le_18 (by decide)]; rfl
  have HX1 : Hid (x.getD 1 0 = 0) := by rw [Hid, hx.out, getD_take7 _ 2 1 _ M.le_18 (by decide)]; rfl
  have HY0 : Hid (y.getD 0 0 = 6) := by rw [Hid, hy.out, getD_take7 _ 1 0 _ M.le_6 (by decide)]; rfl
  have HXL : Hid (x.length = 32) := by rw [Hid, hx.out, M.le_length]
  have HYL : Hid (y.length = 32) := by rw [Hid, hy.out, M.le_length]
  have CX := Lib.hid (show ∀ W L, Fe L 18 → Calls Try.prog 13 #[.agg L.toArray] W (Makes W x) from fun W L h => by rw [hx.out]; exact F.bytes_ L 18 W h)
  have CY := Lib.hid (show ∀ W L, Fe L 6 → Calls Try.prog 13 #[.agg L.toArray] W (Makes W y) from fun W L h => by rw [hy.out]; exact F.bytes_ L 6 W h)
  clear hx hy F
  go_enter Try.func9, Try.ntmps9
  go_wp2_with (refine wpList_make_cap _ rfl _ _ rfl .i64 .i64 _ _ 32 32 rfl rfl rfl rfl (by omega) (by omega) ?_; intro w1 o1 k1)
  have O1 : Hid (Own w1 w.heap.size (.slice (some ⟨w.heap.size, 0, none⟩) 32 32) (ffs 0)) := o1
  clear o1
  go_loopw [2] (fun i wr => ∃ k : Nat, k ≤ 32 ∧ i = .int .i64 k ∧ Hid (Own wr w.heap.size (.slice (some ⟨w.heap.size, 0, none⟩) 32 32) (ffs k)) ∧ Below w.heap.size w wr)
    (fun i _ => 32 - (intOf i).toNat)
  case atStart => exact ⟨0, by omega, rfl, O1, k1⟩
  case round =>
    clear O1 k1
    rename_i wr
    obtain ⟨k, hk, rfl, oo, kk⟩ := hrel
    by_cases hlt : k < 32
    · have hrow : wr.ownsRow w.heap.size 5 1 (.slice (some ⟨w.heap.size, 0, none⟩) 32 32) 32 (Lib.byteCells (ffs k)) := by
        have := oo.out
        rwa [Own, ffs_length k (by omega)] at this
      obtain ⟨old, hold⟩ : ∃ old : Nat, wr.cell? ⟨w.heap.size, k, none⟩ = some (.int .u8 (old : Int)) := ⟨_, by rw [hrow.cellAt k (by omega), byteCells_getElem? _ k (by rw [ffs_length k (by omega)]; exact hlt)]⟩
      have hf : wr.frozen? ⟨w.heap.size, k, none⟩ = false := hrow.frozenAt k
      have s1 := (hrow.stored k (.int .u8 255)).1
      have S1 : Hid (Own (wr.setCell ⟨w.heap.size, k, none⟩ (.int .u8 255)) w.heap.size (.slice (some ⟨w.heap.size, 0, none⟩) 32 32) (ffs (k + 1))) := by
        rw [ffs_set k hlt] at s1
        rw [Hid, Own, ffs_length (k + 1) (by omega)]
        exact s1
      clear hrow s1 oo
      go_wp2
      go_roundw
      case rel => exact ⟨k + 1, by omega, by go_num, S1, kk.setCell (Nat.le_refl _) _⟩
      case measure => simp [intOf]; omega
    · obtain rfl : k = 32 := by omega
      have o32 : IsB wr (.slice (some ⟨w.heap.size, 0, none⟩) 32 32) (List.replicate 32 255) := oo.out.isB
      obtain ⟨wA, rfl⟩ : ∃ x, x = wr := ⟨_, rfl⟩
      have KA := Lib.hid kk
      have C1 := Lib.hid (CF.out wA _ o32)
      clear oo o32 kk CF
      go_wp2_with fail
      refine C1.out.mono ?_
      rintro e w2 ⟨L, rfl, hL, k2⟩
      have K2 : Hid (Below w.heap.size w w2) := KA.out.trans (k2.mono KA.out.size)
      have D1 := Lib.hid (CX.out w2 L hL)
      clear k2 hL C1 CX KA
      go_wp2_with fail
      refine D1.out.mono ?_
      rintro e w3 ⟨r3, rfl, o3, k3⟩
      have K3 : Hid (Below w.heap.size w w3) := K2.out.trans (k3.mono K2.out.size)
      obtain ⟨g3, c3, rfl, _⟩ := o3.shape (by rw [HXL.out]; decide)
      rw [HXL.out] at o3 ⊢
      have O3 : Hid (w3.ownsRow w2.heap.size 5 1 (.slice (some ⟨g3, 0, none⟩) 32 c3) 32 (Lib.byteCells x)) := by
        have := o3
        rwa [Own, HXL.out] at this
      clear o3 k3 D1 K2
      have A2 : Hid (IsB (w3.alloc (.cells #[.int .u8 2] 5)) (.slice (some ⟨w3.heap.size, 0, none⟩) 1 1) [2]) := isB_one w3 5 2 2 rfl
      have KB : Hid (Below w3.heap.size w3 (w3.alloc (.cells #[.int .u8 2] 5))) := (Below.refl _ _).alloc (Nat.le_refl _) _
      have E2 := Lib.hid (C2.out _ _ A2.out)
      go_wp2_with fail
      refine E2.out.mono ?_
      rintro e w4 ⟨L2, rfl, hL2, k4⟩
      have HL2 := Lib.hid hL2
      have K4 : Hid (Below w3.heap.size w3 w4) := KB.out.trans (k4.mono KB.out.size)
      clear hL2 k4 E2 A2 KB C2
      have A3 : Hid (IsB (w4.alloc (.cells #[.int .u8 3] 5)) (.slice (some ⟨w4.heap.size, 0, none⟩) 1 1) [3]) := isB_one w4 5 3 3 rfl
      have KB : Hid (Below w4.heap.size w4 (w4.alloc (.cells #[.int .u8 3] 5))) := (Below.refl _ _).alloc (Nat.le_refl _) _
      have E3 := Lib.hid (C3.out _ _ A3.out)
      go_wp2_with fail
      refine E3.out.mono ?_
      rintro e w5 ⟨L3, rfl, hL3, k5⟩
      have K5 : Hid (Below w3.heap.size w3 w5) := K4.out.trans ((KB.out.trans (k5.mono KB.out.size)).mono K4.out.size)
      have E6 := Lib.hid (CM.out w5 L2 L3 HL2.out hL3)
      clear hL3 k5 E3 A3 KB C3 K4 HL2 CM
      go_wp2_with fail
      refine E6.out.mono ?_
      rintro e w6 ⟨L6, rfl, hL6, k6⟩
      have K6 : Hid (Below w3.heap.size w3 w6) := K5.out.trans (k6.mono K5.out.size)
      have E7 := Lib.hid (CY.out w6 L6 hL6)
      clear hL6 k6 E6 K5 CY
      go_wp2_with fail
      refine E7.out.mono ?_
      rintro e w7 ⟨r7, rfl, o7, k7⟩
      have K7 : Hid (Below w3.heap.size w3 w7) := K6.out.trans (k7.mono K6.out.size)
      obtain ⟨g7, c7, rfl, _⟩ := o7.shape (by rw [HYL.out]; decide)
      rw [HYL.out] at o7 ⊢
      have O7 : w7.ownsRow w6.heap.size 5 1 (.slice (some ⟨g7, 0, none⟩) 32 c7) 32 (Lib.byteCells y) := by
        have := o7
        rwa [Own, HYL.out] at this
      have x0' : w3.cell? ⟨g3, 0, none⟩ = some (.int .u8 18) := by rw [O3.out.cellAt 0 (by decide), byteCells_getElem? _ _ (by rw [HXL.out]; decide), HX0.out]; rfl
      have x1' : w3.cell? ⟨g3, 1, none⟩ = some (.int .u8 0) := by rw [O3.out.cellAt 1 (by decide), byteCells_getElem? _ _ (by rw [HXL.out]; decide), HX1.out]; rfl
      have x0 : w7.cell? ⟨g3, 0, none⟩ = some (.int .u8 18) := by rw [K7.out.cell (by exact World.block_lt_of_cell? w3 _ x0'), x0']
      have x1 : w7.cell? ⟨g3, 1, none⟩ = some (.int .u8 0) := by rw [K7.out.cell (by exact World.block_lt_of_cell? w3 _ x1'), x1']
      have y0 : w7.cell? ⟨g7, 0, none⟩ = some (.int .u8 6) := by rw [O7.cellAt 0 (by decide), byteCells_getElem? _ _ (by rw [HYL.out]; decide), HY0.out]; rfl
      have KE : Hid (Below w.heap.size w w7) := K3.out.trans (K7.out.mono K3.out.size)
      clear o7 k7 E7 K6 K7 O7 O3 x0' x1' K3
      go_wp2
      go_ret
      exact ⟨rfl, KE.out⟩

end Go.Proofs.Ytmgbcollcfeolaa
